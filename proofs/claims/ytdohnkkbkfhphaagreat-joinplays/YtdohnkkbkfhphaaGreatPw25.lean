import Derived.Test.YtdohnkkbkfhphaaGreatPw24
import Derived.Deep.DeepCutAuto
set_option linter.all false
set_option maxHeartbeats 4000000
set_option maxRecDepth 100000
open Go.ChangeShapes Go.WideShapes Go.ChangeAt Go.RowKit Go.Joins Go.Deep List
namespace Go.Proofs.YtdohnkkbkfhphaaGreat
open Go.Proofs.Tryz
namespace gr
variable {P : Program} {ops : Array Oper} {Q : Exit -> Act -> World -> Prop} {S : World -> Prop} {a a' : Act} {w : ϛ} {md : Region.Mode} {fuel : Nat} {listed : Array Bool} {oi : Oper}
theorem AQ{id:Nat}(N:Nat)(e:ops.size=N)(d:P.follows .mixedOrders=true)(c:S w.drew)
 (h:S w.drew->wpAnyH P .any ops Q S N (Array.replicate N false) a w.drew):(Code.region id ops true).wp P Q a w:=
 wp_region_held_drew d c (by rw[e];exact h)
theorem skipJ(i:Nat)(d:Option Tmp)(g:S w)(h:wpAnyH P md ops Q S fuel (listed.setIfInBounds i true) a' w)
 (k:ops[i]? =some oi:=by exact rfl) (e:(Region.noSelect ops&&(Region.free md ops listed i&&(Region.ready md ops listed).contains i))=true:=by kernel_rfl) (j:oi.dst=d:=by exact rfl) (m:Region.wanted oi (yielded ops a.tmps)=false:=by exact rfl) (ha:a.put d undef=a':=by(simp only[Act.put,sI,sZ,sSz];exact rfl))
 (f:∀c a w,Q (.panic c) (a.put oi.dst undef) w->Q (.panic c) a w:=by exact λ_ _ _ h=>h):wpAnyH P md ops Q S (fuel+1) listed a w:=by
 rw[Bool.and_eq_true,Bool.and_eq_true]at e;exact wpAnyH_take k e.1 e.2.1 e.2.2 f (Or.inr ⟨m,rfl⟩) g (by rw[j,ha];exact h)
theorem Pp{v:Value}(i:Nat)(d:Option Tmp)(g:S w)(h:wpAnyH P md ops Q S fuel (listed.setIfInBounds i true) a' w)
 (m:ops[i]? =some oi:=by exact rfl) (e:(Region.noSelect ops&&(Region.free md ops listed i&&(Region.ready md ops listed).contains i))=true:=by kernel_rfl) (k:oi.dst=d:=by exact rfl) (p:Region.wanted oi (yielded ops a.tmps)=true:=by exact rfl) (hy:∀w,S w->(execOp a.eval oi).run P w= .ok (.value v) w:=by(intro q j;(try dsimp only at j);first|(go_simp;done)|(go_simp;with_reducible rfl))) (ha:a.put d v=a':=by(simp only[Act.put,sI,sZ,sSz];exact rfl))
 (f:∀c a w,Q (.panic c) (a.put oi.dst v) w->Q (.panic c) a w:=by exact λ_ _ _ h=>h):wpAnyH P md ops Q S (fuel+1) listed a w:=by
 rw[Bool.and_eq_true,Bool.and_eq_true]at e;exact wpAnyH_take m e.1 e.2.1 e.2.2 f (Or.inl ⟨p,hy⟩) g (by rw[k,ha];exact h)
end gr
namespace jn
variable {P : Program} {a : Act} {w : ϛ} {K : Act -> World -> Prop} {Q : Exit -> Act -> World -> Prop} {l n : Nat} {ops : Array Oper}
theorem Ady{o:Oper}(g:∀c,o.op≠ .defer c)(h:o.wp P a w K Q):o.wpIn (Fence.wide.inRound l) n P a w K Q:=by
 refine⟨λf _=>trivial,?_⟩;rw[Oper.semAt_eq _ _ _ g];unfold Oper.wp at h;generalize (execOp a.eval o).run P w=r at *
 cases r with
 |ok x w'=>
  cases x<;>simp only[Oper.upon,Oper.uponIn]at h⊢ <;>
   first
    |exact h
    |exact⟨λe=>by simp[Fence.wide]at e,CallsIn.inRound l (callsIn_wide.2 h)⟩
    |exact⟨λe=>by simp[Fence.wide]at e,λc d _=>let ⟨v,w',r,s⟩:=h c d;⟨v,w',r,stepsIn_wide.2 s⟩⟩
    |exact h.elim
 |halt x w'=>cases x<;>simp only[Oper.upon,Oper.uponIn]at h⊢ <;>exact h
theorem Abl{g:Act->World->Prop}{i:Nat}(j:∀(i:Nat) (o:Oper),ops[i]? =some o->∀c,o.op≠Op.defer c)(k:¬LetsOut Q)(d:∀a w,K a w->g a w)(h:wpOp P ops Q i K a w):wpOpIn (Fence.wide.inRound l) n P ops Q i g a w:=by
 unfold wpOp at h;unfold wpOpIn
 cases ho:ops[i]? with
 |none=>simp only[ho]at h⊢;exact d _ _ h
 |some o=>
  simp only[ho]at h⊢;split
  ·rename_i e;simp only[e,if_true]at h;rcases h with h|h
   ·exact Oper.wpIn_mono d (Ady (j i o ho) h)
   ·exact absurd h.2 k
  ·rename_i e;simp only[e]at h;exact⟨λf _=>trivial,d _ _ h⟩
theorem Z9{P:Program}{md:Region.Mode}{ops:Array Oper}{Q:Exit->Act->World->Prop}{l n:Nat}(d:∀(i:Nat) (o:Oper),ops[i]? =some o->∀c,o.op≠Op.defer c)(e:¬LetsOut Q):∀(fuel:Nat) (listed:Array Bool) (a:Act) (w:ϛ),wpAny P md ops Q fuel listed a w->wpAnyIn (Fence.wide.inRound l) n P md ops Q fuel listed a w
 |0,_,_,_,h=>h
 |fuel+1,_,_,_,h=>⟨h.1,λi g=>Abl d e (λa' j f=>Z9 d e fuel _ a' j f) (h.2 i g)⟩
theorem ZA{S:World->Prop}{id:Nat}(N:Nat)(j:ops.size=N)(d:P.follows .mixedOrders=true)(k:ops.toList.all (λo=>match o.op with| .defer _=>false|_=>true)=true)(m:¬LetsOut Q)(g:S w.drew)
 (h:S w.drew->wpAnyH P .any ops Q S N (Array.replicate N false) a w.drew):(Code.region id ops true).wpIn (Fence.wide.inRound l) n P Q a w:=by
 refine wpIn_region_any d ?_;rw[j];refine Z9 (λi o p c e=>?_) m _ _ _ _ (wpAny_of_held _ _ _ _ (h g));have d:o∈ops.toList:=by
  obtain⟨q,f⟩:=Array.getElem?_eq_some_iff.1 p;rw[<-f];simp
 have:=all_eq_true.1 k o d;rw[e]at this
 cases this
end jn
namespace jn
open vl bf
attribute [local go_sem] Oper.semAt_some
variable {ops : Array Oper} {o op : Oper} {a : Act} {Q : Exit -> Act -> World -> Prop} {w : ϛ} {rest : List Oper} {b : Nat}
def kindT(k:Int):TypeId:=if k=1 then 139 else if k=2 then 141 else 143
def kindP(k:Int):TypeId:=if k=1 then 137 else if k=2 then 140 else 142
theorem Cn{K:Act->World->Prop}{E:Prop}(d:op.guard=none)(c:TypeId)(x y:Operand)(f:op.op= .store c x y)
 (b o:Nat) (cells:Array Value) (i:a.eval x= .pointer (some ⟨b,o,none⟩)) (hy:a.eval y= .agg cells) (ht:w.there b o cells.size) (e:(Tryz.prog.info? c).map (·.size)=some cells.size) (h1:cells.all (·.oneCell')=true)
 (h:K (a.put op.dst undef) (w.setCells b o cells.toList)):
 if Region.wanted op (yielded ops a.tmps)=true then Oper.wp Tryz.prog op a w K Q else E:=by
 have g:Region.wanted op (yielded ops a.tmps)=true:=by simp[Region.wanted,d]
 rw[if_pos g];exact wp_store_mid c x y f b o cells i hy ht e h1 h
theorem Nl:(Tryz.prog.info? 136).map (·.size)=some 23:=Ϣ
theorem Kf(t:TypeId)(c:Array (Nat×Operand))(d:o.op= .build t c)(cells:Array Value)(h:Tryz.prog.built t (c.map λ(i,x)=>(i,a.eval x)).toList=some cells)(w:ϛ):(execOp a.eval o).run Tryz.prog w= .ok (.value (.agg cells)) w:=by
 unfold execOp;simp only[d,Sem.run_bind,run_build w t _ cells h,Result.andThen_ok];rfl
theorem Qw(w:ϛ)(t:TypeId)(c d u A c4 B C D E F e f g i k m p q r s x y z:Value):(w.alloc (.cells #[c,d,u,A,c4,B,C,D,E,F,e,f,g,i,k,m,p,q,r,s,x,y,z] t)).there w.heap.size 0 23:=by
 intro j G
 match j,G with
 |0,_=>exact⟨ϣ,ϣ⟩
 |1,_=>exact⟨ϣ,ϣ⟩
 |2,_=>exact⟨ϣ,ϣ⟩
 |3,_=>exact⟨ϣ,ϣ⟩
 |4,_=>exact⟨ϣ,ϣ⟩
 |5,_=>exact⟨ϣ,ϣ⟩
 |6,_=>exact⟨ϣ,ϣ⟩
 |7,_=>exact⟨ϣ,ϣ⟩
 |8,_=>exact⟨ϣ,ϣ⟩
 |9,_=>exact⟨ϣ,ϣ⟩
 |10,_=>exact⟨ϣ,ϣ⟩
 |11,_=>exact⟨ϣ,ϣ⟩
 |12,_=>exact⟨ϣ,ϣ⟩
 |13,_=>exact⟨ϣ,ϣ⟩
 |14,_=>exact⟨ϣ,ϣ⟩
 |15,_=>exact⟨ϣ,ϣ⟩
 |16,_=>exact⟨ϣ,ϣ⟩
 |17,_=>exact⟨ϣ,ϣ⟩
 |18,_=>exact⟨ϣ,ϣ⟩
 |19,_=>exact⟨ϣ,ϣ⟩
 |20,_=>exact⟨ϣ,ϣ⟩
 |21,_=>exact⟨ϣ,ϣ⟩
 |22,_=>exact⟨ϣ,ϣ⟩
 |n+23,h=>exact absurd h ϟ
theorem Hc(e:o.guard=none)(t:TypeId)(c:Array (Nat×Operand))(f:o.op= .build t c)(cells:Array Value)
 (d:Tryz.prog.built t (c.map λ(i,x)=>(i,a.eval x)).toList=some cells) (h:wpList Tryz.prog ops Q rest (a.put o.dst (.agg cells)) w):wpList Tryz.prog ops Q (o::rest) a w:=
 wpList_build e t c f (by rw[d];rfl) (by rw[d];exact h)
theorem Up{U:ϛ}{p:pl.Pln}{x:pl.PA}{s:Jn}{y:JX}{t:Value}(h:boxC U b p x s y t):U.rangeAt b 0 [vI p.kind,vI p.mode,vI p.low,vI p.high,vI p.size,vI p.limit,vS x.l p.left.length x.lc,vS x.r p.right.length x.rc,vS x.lk p.lkeys.length x.lkc,vS x.rk p.rkeys.length x.rkc,.bool p.grouped,vS x.g p.group.length x.gc,vS x.a p.aggs.length x.ac,vI s.L.lim,vS y.l.m.1.1 y.l.m.1.2.1 y.l.m.1.2.2,vS y.l.ra y.l.rs.length y.l.rc,vI s.R.lim,vS y.r.m.1.1 y.r.m.1.2.1 y.r.m.1.2.2,vS y.r.ra y.r.rs.length y.r.rc,vI s.lm,vI s.rm,vI s.seq,t]:=λj v c=>by
 obtain⟨e,f,m,q,r,u,z,A,B,C,g,i,k⟩:=h.plan;obtain⟨u0,u1,u2,u3,u4,u5,u6,u7,u8⟩:=h.join;have d:=h.told
 match j,c with
 |0,c=>injection c with c;subst c;exact e
 |1,c=>injection c with c;subst c;exact f
 |2,c=>injection c with c;subst c;exact m
 |3,c=>injection c with c;subst c;exact q
 |4,c=>injection c with c;subst c;exact r
 |5,c=>injection c with c;subst c;exact u
 |6,c=>injection c with c;subst c;exact z
 |7,c=>injection c with c;subst c;exact A
 |8,c=>injection c with c;subst c;exact B
 |9,c=>injection c with c;subst c;exact C
 |10,c=>injection c with c;subst c;exact g
 |11,c=>injection c with c;subst c;exact i
 |12,c=>injection c with c;subst c;exact k
 |13,c=>injection c with c;subst c;exact u0
 |14,c=>injection c with c;subst c;exact u1
 |15,c=>injection c with c;subst c;exact u2
 |16,c=>injection c with c;subst c;exact u3
 |17,c=>injection c with c;subst c;exact u4
 |18,c=>injection c with c;subst c;exact u5
 |19,c=>injection c with c;subst c;exact u6
 |20,c=>injection c with c;subst c;exact u7
 |21,c=>injection c with c;subst c;exact u8
 |22,c=>injection c with c;subst c;exact d
 |n+23,c=>cases c
theorem Gq(e:op.guard=none)(x:Operand)(g:op.op= .load 136 x)(b:Nat)(i:a.eval x= .pointer (τ b))(c:Array Value)(f:c.size=23)(d:w.rangeAt b 0 c.toList)
 (h:wpList Tryz.prog ops Q rest (a.put op.dst (.agg c)) w):wpList Tryz.prog ops Q (op::rest) a w:=
 wpList_load_mid e _ x g b 0 i c.toList _ d underlying136 rfl (by rw[Array.length_toList,f];exact Nl) h
theorem Qx:calmT 136:=⟨Ϡ,Ϡ,Ϡ⟩
theorem ZB(w:ϛ)(T:TypeId)(p:pl.Pln)(x:pl.PA)(s:Jn)(y:JX)(t:Value)(ht:t.oneCell'=true):boxC (ξ w #[vI p.kind,vI p.mode,vI p.low,vI p.high,vI p.size,vI p.limit,vS x.l p.left.length x.lc,vS x.r p.right.length x.rc,vS x.lk p.lkeys.length x.lkc,vS x.rk p.rkeys.length x.rkc,.bool p.grouped,vS x.g p.group.length x.gc,vS x.a p.aggs.length x.ac,vI s.L.lim,vS y.l.m.1.1 y.l.m.1.2.1 y.l.m.1.2.2,vS y.l.ra y.l.rs.length y.l.rc,vI s.R.lim,vS y.r.m.1.1 y.r.m.1.2.1 y.r.m.1.2.2,vS y.r.ra y.r.rs.length y.r.rc,vI s.lm,vI s.rm,vI s.seq,t] T) w.heap.size p x s y t/\An (ξ w #[vI p.kind,vI p.mode,vI p.low,vI p.high,vI p.size,vI p.limit,vS x.l p.left.length x.lc,vS x.r p.right.length x.rc,vS x.lk p.lkeys.length x.lkc,vS x.rk p.rkeys.length x.rkc,.bool p.grouped,vS x.g p.group.length x.gc,vS x.a p.aggs.length x.ac,vI s.L.lim,vS y.l.m.1.1 y.l.m.1.2.1 y.l.m.1.2.2,vS y.l.ra y.l.rs.length y.l.rc,vI s.R.lim,vS y.r.m.1.1 y.r.m.1.2.1 y.r.m.1.2.2,vS y.r.ra y.r.rs.length y.r.rc,vI s.lm,vI s.rm,vI s.seq,t] T) w.heap.size T:=by
 refine⟨⟨?_,?_,ϣ,Qw _ _ _ _ _ _ _ _ _ _ _ _ _ _ _ _ _ _ _ _ _ _ _ _ _⟩,⟨_,_,World.alloc_heap_new w _⟩⟩
 ·unfold boxP;refine⟨?_,?_,?_,?_,?_,?_,?_,?_,?_,?_,?_,?_,?_⟩<;>go_simp
 ·unfold jnC;refine⟨?_,?_,?_,?_,?_,?_,?_,?_,?_⟩<;>go_simp
theorem Sd(h:w.there b 0 23)(p:pl.Pln)(x:pl.PA)(s:Jn)(y:JX)(t:Value):boxC (w.setCells b 0 [vI p.kind,vI p.mode,vI p.low,vI p.high,vI p.size,vI p.limit,vS x.l p.left.length x.lc,vS x.r p.right.length x.rc,vS x.lk p.lkeys.length x.lkc,vS x.rk p.rkeys.length x.rkc,.bool p.grouped,vS x.g p.group.length x.gc,vS x.a p.aggs.length x.ac,vI s.L.lim,vS y.l.m.1.1 y.l.m.1.2.1 y.l.m.1.2.2,vS y.l.ra y.l.rs.length y.l.rc,vI s.R.lim,vS y.r.m.1.1 y.r.m.1.2.1 y.r.m.1.2.2,vS y.r.ra y.r.rs.length y.r.rc,vI s.lm,vI s.rm,vI s.seq,t]) b p x s y t:=by
 have d:=World.rangeAt_setCells_same w b 0 [vI p.kind,vI p.mode,vI p.low,vI p.high,vI p.size,vI p.limit,vS x.l p.left.length x.lc,vS x.r p.right.length x.rc,vS x.lk p.lkeys.length x.lkc,vS x.rk p.rkeys.length x.rkc,.bool p.grouped,vS x.g p.group.length x.gc,vS x.a p.aggs.length x.ac,vI s.L.lim,vS y.l.m.1.1 y.l.m.1.2.1 y.l.m.1.2.2,vS y.l.ra y.l.rs.length y.l.rc,vI s.R.lim,vS y.r.m.1.1 y.r.m.1.2.1 y.r.m.1.2.2,vS y.r.ra y.r.rs.length y.r.rc,vI s.lm,vI s.rm,vI s.seq,t] h;have c:∀i v,[vI p.kind,vI p.mode,vI p.low,vI p.high,vI p.size,vI p.limit,vS x.l p.left.length x.lc,vS x.r p.right.length x.rc,vS x.lk p.lkeys.length x.lkc,vS x.rk p.rkeys.length x.rkc,.bool p.grouped,vS x.g p.group.length x.gc,vS x.a p.aggs.length x.ac,vI s.L.lim,vS y.l.m.1.1 y.l.m.1.2.1 y.l.m.1.2.2,vS y.l.ra y.l.rs.length y.l.rc,vI s.R.lim,vS y.r.m.1.1 y.r.m.1.2.1 y.r.m.1.2.2,vS y.r.ra y.r.rs.length y.r.rc,vI s.lm,vI s.rm,vI s.seq,t][i]? =some v->Δ (w.setCells b 0 [vI p.kind,vI p.mode,vI p.low,vI p.high,vI p.size,vI p.limit,vS x.l p.left.length x.lc,vS x.r p.right.length x.rc,vS x.lk p.lkeys.length x.lkc,vS x.rk p.rkeys.length x.rkc,.bool p.grouped,vS x.g p.group.length x.gc,vS x.a p.aggs.length x.ac,vI s.L.lim,vS y.l.m.1.1 y.l.m.1.2.1 y.l.m.1.2.2,vS y.l.ra y.l.rs.length y.l.rc,vI s.R.lim,vS y.r.m.1.1 y.r.m.1.2.1 y.r.m.1.2.2,vS y.r.ra y.r.rs.length y.r.rc,vI s.lm,vI s.rm,vI s.seq,t]) b i v:=λi v e=>by
  have:=d i v e;simpa using this
 exact⟨⟨c 0 _ rfl,c 1 _ rfl,c 2 _ rfl,c 3 _ rfl,c 4 _ rfl,c 5 _ rfl,c 6 _ rfl,c 7 _ rfl,c 8 _ rfl,c 9 _ rfl,c 10 _ rfl,c 11 _ rfl,c 12 _ rfl⟩,⟨c 13 _ rfl,c 14 _ rfl,c 15 _ rfl,c 16 _ rfl,c 17 _ rfl,c 18 _ rfl,c 19 _ rfl,c 20 _ rfl,c 21 _ rfl⟩,c 22 _ rfl,World.there_setCells h _ _ _⟩
theorem Uq(p:pl.Pln)(x:pl.PA)(s:Jn)(y:JX)(w:ϛ)(h:joinAt w s y)(Y:okB s.L)(Z:okB s.R):
 η 48 #[pl.Ak p x,joinV s y] w λe m=> ∃K y',e= .returned (.iface (kindP p.kind) (.pointer (τ K)))/\JSt w m K (kindT p.kind) p x s y' (vS none 0 0) []:=by
 have L:=hIz (λ(w1:ϛ) (hb:Ϟ w w1)=>Uu s y w1 (h.below hb) Y Z);clear h Y Z;unfold pl.Ak;rw[A0]at L⊢;go_enter func48,ntmps48;go_wp2;generalize E:(World.alloc (World.alloc w _) _)=V;have k:Ϟ w V:=by rw[<-E];exact Ϫ.alloc ϡ _
 have t:ϝ (boxP V w p x):=by
  subst E;exact Ad (BL ..) Ϫ
 have r:ϝ (AK V (w+1) s y):=by
  subst E;have:=AL (ξ w (Φ p x) 25) s y 31;rw[World.size_alloc]at this;exact this
 clear E
 go_cut [5] (λpt wc=> ∃(B:Nat) (c d:BX),pt= .pointer (τ B)/\w.heap.size<=B/\ϝ (boxC wc B p x s ⟨c,d⟩ (vS none 0 0))/\ϝ (boxP wc w p x)/\ϝ (OB wc w c s.L/\OB wc w d s.R/\ZJ c d)/\Ϟ w wc)
 case first=>
  refine gr.AQ 6 rfl Ϣ (S:=λm=>boxP m w p x/\AK m (w+1) s y) ⟨t.o,r.o⟩ (λi=>?_);refine gr.Pp (v:=.agg (Φ p x)) 0 (some 6) i ?_ (hy:=by intro m M;obtain⟨⟨v0,v1,v2,v3,v4,v5,v6,v7,v8,v9,ad,ae,af⟩, -⟩:=M;go_simp);refine gr.Pp (v:=.agg (Ψ s y)) 1 (some 7) i ?_ (hy:=by intro m M;obtain⟨-,⟨u0,u1,u2,u3,u4,u5,u6,u7,u8⟩⟩:=M;go_simp);refine wpAnyH_ready (rs:=[2,4]) Ϣ ϡ ?_;refine AllReadyH.cons rfl (λK f=>?_) (AllReadyH.cons rfl (λK f=>?_) AllReadyH.nil)
  ·go_simp;go_at_call 91;refine(L.o _ k.drew).mono ?_;rintro e wc ⟨⟨c,d,rfl,R,U,X⟩,D⟩;rw[A0];go_wp2_with fail;have g:Ϟ V wc:=bR.drew.trans D;refine f.out _ _ ⟨Ad t.o g,Ah r.o g⟩ (λi=>?_);clear f K
   try simp only[Act.put,sI,sZ,sSz]
   refine gr.Pp (v:=.agg #[vI p.kind,vI p.mode,vI p.low,vI p.high,vI p.size,vI p.limit,vS x.l p.left.length x.lc,vS x.r p.right.length x.rc,vS x.lk p.lkeys.length x.lkc,vS x.rk p.rkeys.length x.rkc,.bool p.grouped,vS x.g p.group.length x.gc,vS x.a p.aggs.length x.ac,vI s.L.lim,vS c.m.1.1 c.m.1.2.1 c.m.1.2.2,vS c.ra c.rs.length c.rc,vI s.R.lim,vS d.m.1.1 d.m.1.2.1 d.m.1.2.2,vS d.ra d.rs.length d.rc,vI s.lm,vI s.rm,vI s.seq,ψ]) 3 (some 9) i ?_ (hy:=λm _=>Kf 136 #[(0,.tmp 6),(1,.tmp 8)] rfl _ Ϣ m);refine rD 4 λK f=>?_;go_simp;have O:=g.alloc g.size;refine f.out _ _ ⟨Ad t.o (O _),Ah r.o (O _)⟩ (λi=>?_);clear f K
   try simp only[Act.put,sI,sZ,sSz]
   refine rD 5 λK f=>?_;refine Cn rfl 136 (.tmp 5) (.tmp 9) rfl wc.heap.size 0 #[vI p.kind,vI p.mode,vI p.low,vI p.high,vI p.size,vI p.limit,vS x.l p.left.length x.lc,vS x.r p.right.length x.rc,vS x.lk p.lkeys.length x.lkc,vS x.rk p.rkeys.length x.rkc,.bool p.grouped,vS x.g p.group.length x.gc,vS x.a p.aggs.length x.ac,vI s.L.lim,vS c.m.1.1 c.m.1.2.1 c.m.1.2.2,vS c.ra c.rs.length c.rc,vI s.R.lim,vS d.m.1.1 d.m.1.2.1 d.m.1.2.2,vS d.ra d.rs.length d.rc,vI s.lm,vI s.rm,vI s.seq,ψ] rfl rfl (Qw _ _ _ _ _ _ _ _ _ _ _ _ _ _ _ _ _ _ _ _ _ _ _ _ _) Nl Ϩ ?_;have u:=below_setCells g.size [vI p.kind,vI p.mode,vI p.low,vI p.high,vI p.size,vI p.limit,vS x.l p.left.length x.lc,vS x.r p.right.length x.rc,vS x.lk p.lkeys.length x.lkc,vS x.rk p.rkeys.length x.rkc,.bool p.grouped,vS x.g p.group.length x.gc,vS x.a p.aggs.length x.ac,vI s.L.lim,vS c.m.1.1 c.m.1.2.1 c.m.1.2.2,vS c.ra c.rs.length c.rc,vI s.R.lim,vS d.m.1.1 d.m.1.2.1 d.m.1.2.2,vS d.ra d.rs.length d.rc,vI s.lm,vI s.rm,vI s.seq,ψ] 0 _ (O (.cells #[ω,ω,ω,ω,ω,ω,ψ,ψ,ψ,ψ,ϋ,ψ,ψ,ω,ψ,ψ,ω,ψ,ψ,ω,ω,ω,ψ] 136));refine f.out _ _ ⟨Ad t.o u,Ah r.o u⟩ (λi=>?_);refine wpAnyH_done Ϣ ?_ _;go_wp2;go_meet;exact⟨wc.heap.size,c,d,rfl,by have:=k.size;have:=g.size;omega,Sd (Qw _ _ _ _ _ _ _ _ _ _ _ _ _ _ _ _ _ _ _ _ _ _ _ _ _) p x s ⟨c,d⟩ _,i.1,⟨Bm Qx _ _ _ ((A5 R k.size).below Ϫ) ⟨_,_,World.alloc_heap_new wc _⟩,Bm Qx _ _ _ ((A5 U k.size).below Ϫ) ⟨_,_,World.alloc_heap_new wc _⟩,X⟩,bT k u⟩
  ·go_simp;have z:Ϟ V (ξ (V.drew) #[ω,ω,ω,ω,ω,ω,ψ,ψ,ψ,ψ,ϋ,ψ,ψ,ω,ψ,ψ,ω,ψ,ψ,ω,ω,ω,ψ] 136):=bR.drew.alloc nR _;refine f.out _ _ ⟨Ad t.o z,Ah r.o z⟩ (λi=>?_);clear f K
   try simp only[Act.put,sI,sZ,sSz]
   refine rD 2 λK f=>?_;go_simp;go_at_call 91;refine(L.o _ (bT k z)).mono ?_;rintro e wc ⟨⟨c,d,rfl,R,U,X⟩,D⟩;rw[A0];go_wp2_with fail;have g:Ϟ V wc:=bT z D;refine f.out _ _ ⟨Ad t.o g,Ah r.o g⟩ (λi=>?_);clear f K
   try simp only[Act.put,sI,sZ,sSz]
   refine gr.Pp (v:=.agg #[vI p.kind,vI p.mode,vI p.low,vI p.high,vI p.size,vI p.limit,vS x.l p.left.length x.lc,vS x.r p.right.length x.rc,vS x.lk p.lkeys.length x.lkc,vS x.rk p.rkeys.length x.rkc,.bool p.grouped,vS x.g p.group.length x.gc,vS x.a p.aggs.length x.ac,vI s.L.lim,vS c.m.1.1 c.m.1.2.1 c.m.1.2.2,vS c.ra c.rs.length c.rc,vI s.R.lim,vS d.m.1.1 d.m.1.2.1 d.m.1.2.2,vS d.ra d.rs.length d.rc,vI s.lm,vI s.rm,vI s.seq,ψ]) 3 (some 9) i ?_ (hy:=λm _=>Kf 136 #[(0,.tmp 6),(1,.tmp 8)] rfl _ Ϣ m);refine rD 5 λK f=>?_;have aa:wc.there V.heap.size 0 23:=Cu (Qw V.drew 136 (vI 0) (vI 0) (vI 0) (vI 0) (vI 0) (vI 0) (vS none 0 0) (vS none 0 0) (vS none 0 0) (vS none 0 0) (.bool false) (vS none 0 0) (vS none 0 0) (vI 0) (vS none 0 0) (vS none 0 0) (vI 0) (vS none 0 0) (vS none 0 0) (vI 0) (vI 0) (vI 0) (vS none 0 0)) D;refine Cn rfl 136 (.tmp 5) (.tmp 9) rfl V.heap.size 0 #[vI p.kind,vI p.mode,vI p.low,vI p.high,vI p.size,vI p.limit,vS x.l p.left.length x.lc,vS x.r p.right.length x.rc,vS x.lk p.lkeys.length x.lkc,vS x.rk p.rkeys.length x.rkc,.bool p.grouped,vS x.g p.group.length x.gc,vS x.a p.aggs.length x.ac,vI s.L.lim,vS c.m.1.1 c.m.1.2.1 c.m.1.2.2,vS c.ra c.rs.length c.rc,vI s.R.lim,vS d.m.1.1 d.m.1.2.1 d.m.1.2.2,vS d.ra d.rs.length d.rc,vI s.lm,vI s.rm,vI s.seq,ψ] rfl rfl aa Nl Ϩ ?_;have u:=below_setCells (Nat.le_refl V.heap.size) [vI p.kind,vI p.mode,vI p.low,vI p.high,vI p.size,vI p.limit,vS x.l p.left.length x.lc,vS x.r p.right.length x.rc,vS x.lk p.lkeys.length x.lkc,vS x.rk p.rkeys.length x.rkc,.bool p.grouped,vS x.g p.group.length x.gc,vS x.a p.aggs.length x.ac,vI s.L.lim,vS c.m.1.1 c.m.1.2.1 c.m.1.2.2,vS c.ra c.rs.length c.rc,vI s.R.lim,vS d.m.1.1 d.m.1.2.1 d.m.1.2.2,vS d.ra d.rs.length d.rc,vI s.lm,vI s.rm,vI s.seq,ψ] 0 _ g
   refine f.out _ _ ⟨Ad t.o u,Ah r.o u⟩ (λi=>?_);refine wpAnyH_done Ϣ ?_ _;have ab:An wc V 136:=Ae ⟨_,_,World.alloc_heap_new V.drew _⟩ D;go_wp2;go_meet;exact⟨V.heap.size,c,d,rfl,k.size,Sd aa p x s ⟨c,d⟩ _,i.1,⟨Bm Qx _ _ _ (A5 R (Nat.le_trans k.size z.size)) ab,Bm Qx _ _ _ (A5 U (Nat.le_trans k.size z.size)) ab,X⟩,bT k u⟩
 case rest=>
  obtain⟨B,c,d,rfl,hB,HC,ac,G,N⟩:=hcut;rename World=>W;have k0:=ac.o.1;have I:ϝ (W.rangeAt B 0 [vI p.kind,vI p.mode,vI p.low,vI p.high,vI p.size,vI p.limit,vS x.l p.left.length x.lc,vS x.r p.right.length x.rc,vS x.lk p.lkeys.length x.lkc,vS x.rk p.rkeys.length x.rkc,.bool p.grouped,vS x.g p.group.length x.gc,vS x.a p.aggs.length x.ac,vI s.L.lim,vS c.m.1.1 c.m.1.2.1 c.m.1.2.2,vS c.ra c.rs.length c.rc,vI s.R.lim,vS d.m.1.1 d.m.1.2.1 d.m.1.2.2,vS d.ra d.rs.length d.rc,vI s.lm,vI s.rm,vI s.seq,ψ]):=Up HC.o;have J:ϝ (∀T,JSt w (ξ W #[vI p.kind,vI p.mode,vI p.low,vI p.high,vI p.size,vI p.limit,vS x.l p.left.length x.lc,vS x.r p.right.length x.rc,vS x.lk p.lkeys.length x.lkc,vS x.rk p.rkeys.length x.rkc,.bool p.grouped,vS x.g p.group.length x.gc,vS x.a p.aggs.length x.ac,vI s.L.lim,vS c.m.1.1 c.m.1.2.1 c.m.1.2.2,vS c.ra c.rs.length c.rc,vI s.R.lim,vS d.m.1.1 d.m.1.2.1 d.m.1.2.2,vS d.ra d.rs.length d.rc,vI s.lm,vI s.rm,vI s.seq,ψ] T) W.heap.size T p x s ⟨c,d⟩ (vS none 0 0) []):=λT=>by
   have F:Ϟ W (ξ W #[vI p.kind,vI p.mode,vI p.low,vI p.high,vI p.size,vI p.limit,vS x.l p.left.length x.lc,vS x.r p.right.length x.rc,vS x.lk p.lkeys.length x.lkc,vS x.rk p.rkeys.length x.rkc,.bool p.grouped,vS x.g p.group.length x.gc,vS x.a p.aggs.length x.ac,vI s.L.lim,vS c.m.1.1 c.m.1.2.1 c.m.1.2.2,vS c.ra c.rs.length c.rc,vI s.R.lim,vS d.m.1.1 d.m.1.2.1 d.m.1.2.2,vS d.ra d.rs.length d.rc,vI s.lm,vI s.rm,vI s.seq,ψ] T):=Ϫ;have hn:=ZB W T p x s ⟨c,d⟩ (vS none 0 0) rfl;exact⟨hn.1,hn.2,N.size,G.o.1.below F,G.o.2.1.below F,G.o.2.2,CG.start (Nat.le_trans N.size F.size),bT N F⟩
  by_cases j:p.kind=1
  ·have e1:(p.kind==1)=true:=by simpa using j
   have A:ϝ (kindP p.kind=137):=by show _=_;unfold kindP;rw[if_pos j]
   have C:ϝ (kindT p.kind=139):=by show _=_;unfold kindT;rw[if_pos j]
   clear j;go_wp2_with (first
    |((with_reducible refine Gq ?_ (.tmp 5) ?_ B ?_ #[vI p.kind,vI p.mode,vI p.low,vI p.high,vI p.size,vI p.limit,vS x.l p.left.length x.lc,vS x.r p.right.length x.rc,vS x.lk p.lkeys.length x.lkc,vS x.rk p.rkeys.length x.rkc,.bool p.grouped,vS x.g p.group.length x.gc,vS x.a p.aggs.length x.ac,vI s.L.lim,vS c.m.1.1 c.m.1.2.1 c.m.1.2.2,vS c.ra c.rs.length c.rc,vI s.R.lim,vS d.m.1.1 d.m.1.2.1 d.m.1.2.2,vS d.ra d.rs.length d.rc,vI s.lm,vI s.rm,vI s.seq,ψ] ?_ ?_ ?_);exact rfl;exact rfl;exact rfl;exact rfl;exact I.o)
    |((with_reducible refine Hc ?_ 139 #[(0,.tmp 14)] ?_ #[vI p.kind,vI p.mode,vI p.low,vI p.high,vI p.size,vI p.limit,vS x.l p.left.length x.lc,vS x.r p.right.length x.rc,vS x.lk p.lkeys.length x.lkc,vS x.rk p.rkeys.length x.rkc,.bool p.grouped,vS x.g p.group.length x.gc,vS x.a p.aggs.length x.ac,vI s.L.lim,vS c.m.1.1 c.m.1.2.1 c.m.1.2.2,vS c.ra c.rs.length c.rc,vI s.R.lim,vS d.m.1.1 d.m.1.2.1 d.m.1.2.2,vS d.ra d.rs.length d.rc,vI s.lm,vI s.rm,vI s.seq,ψ] ?_ ?_);exact rfl;exact rfl;exact Ϣ))
   go_ret;exact⟨W.heap.size,⟨c,d⟩,by rw[A.o];rfl,by rw[C.o];exact J.o _⟩
  ·have e1:(p.kind==1)=false:=by simpa using j
   by_cases q:p.kind=2
   ·have e2:(p.kind==2)=true:=by simpa using q
    have A:ϝ (kindP p.kind=140):=by show _=_;unfold kindP;rw[if_neg j,if_pos q]
    have C:ϝ (kindT p.kind=141):=by show _=_;unfold kindT;rw[if_neg j,if_pos q]
    clear j q;go_wp2_with (first
    |((with_reducible refine Gq ?_ (.tmp 5) ?_ B ?_ #[vI p.kind,vI p.mode,vI p.low,vI p.high,vI p.size,vI p.limit,vS x.l p.left.length x.lc,vS x.r p.right.length x.rc,vS x.lk p.lkeys.length x.lkc,vS x.rk p.rkeys.length x.rkc,.bool p.grouped,vS x.g p.group.length x.gc,vS x.a p.aggs.length x.ac,vI s.L.lim,vS c.m.1.1 c.m.1.2.1 c.m.1.2.2,vS c.ra c.rs.length c.rc,vI s.R.lim,vS d.m.1.1 d.m.1.2.1 d.m.1.2.2,vS d.ra d.rs.length d.rc,vI s.lm,vI s.rm,vI s.seq,ψ] ?_ ?_ ?_);exact rfl;exact rfl;exact rfl;exact rfl;exact I.o)
    |((with_reducible refine Hc ?_ 141 #[(0,.tmp 20)] ?_ #[vI p.kind,vI p.mode,vI p.low,vI p.high,vI p.size,vI p.limit,vS x.l p.left.length x.lc,vS x.r p.right.length x.rc,vS x.lk p.lkeys.length x.lkc,vS x.rk p.rkeys.length x.rkc,.bool p.grouped,vS x.g p.group.length x.gc,vS x.a p.aggs.length x.ac,vI s.L.lim,vS c.m.1.1 c.m.1.2.1 c.m.1.2.2,vS c.ra c.rs.length c.rc,vI s.R.lim,vS d.m.1.1 d.m.1.2.1 d.m.1.2.2,vS d.ra d.rs.length d.rc,vI s.lm,vI s.rm,vI s.seq,ψ] ?_ ?_);exact rfl;exact rfl;exact Ϣ))
    go_ret;exact⟨W.heap.size,⟨c,d⟩,by rw[A.o];rfl,by rw[C.o];exact J.o _⟩
   ·have e2:(p.kind==2)=false:=by simpa using q
    have A:ϝ (kindP p.kind=142):=by show _=_;unfold kindP;rw[if_neg j,if_neg q]
    have C:ϝ (kindT p.kind=143):=by show _=_;unfold kindT;rw[if_neg j,if_neg q]
    clear j q;go_wp2_with (first
    |((with_reducible refine Gq ?_ (.tmp 5) ?_ B ?_ #[vI p.kind,vI p.mode,vI p.low,vI p.high,vI p.size,vI p.limit,vS x.l p.left.length x.lc,vS x.r p.right.length x.rc,vS x.lk p.lkeys.length x.lkc,vS x.rk p.rkeys.length x.rkc,.bool p.grouped,vS x.g p.group.length x.gc,vS x.a p.aggs.length x.ac,vI s.L.lim,vS c.m.1.1 c.m.1.2.1 c.m.1.2.2,vS c.ra c.rs.length c.rc,vI s.R.lim,vS d.m.1.1 d.m.1.2.1 d.m.1.2.2,vS d.ra d.rs.length d.rc,vI s.lm,vI s.rm,vI s.seq,ψ] ?_ ?_ ?_);exact rfl;exact rfl;exact rfl;exact rfl;exact I.o)
    |((with_reducible refine Hc ?_ 143 #[(0,.tmp 24)] ?_ #[vI p.kind,vI p.mode,vI p.low,vI p.high,vI p.size,vI p.limit,vS x.l p.left.length x.lc,vS x.r p.right.length x.rc,vS x.lk p.lkeys.length x.lkc,vS x.rk p.rkeys.length x.rkc,.bool p.grouped,vS x.g p.group.length x.gc,vS x.a p.aggs.length x.ac,vI s.L.lim,vS c.m.1.1 c.m.1.2.1 c.m.1.2.2,vS c.ra c.rs.length c.rc,vI s.R.lim,vS d.m.1.1 d.m.1.2.1 d.m.1.2.2,vS d.ra d.rs.length d.rc,vI s.lm,vI s.rm,vI s.seq,ψ] ?_ ?_);exact rfl;exact rfl;exact Ϣ))
    go_ret;exact⟨W.heap.size,⟨c,d⟩,by rw[A.o];rfl,by rw[C.o];exact J.o _⟩
end jn
namespace pl
open vl
theorem AcQ:Tryz.prog.cellsOf 69=2:=Ϣ
theorem AcR:Tryz.prog.cellsOf 25=13:=Ϣ
theorem Abm:Tryz.prog.cellsOf 22=1:=Ϣ
theorem Abn:Tryz.prog.cellsOf 23=1:=Ϣ
theorem AcS:Tryz.prog.cellsOf 4=1:=Ϣ
section
variable {H : Type} {enc : TypeId × Value -> H} {w : ϛ} {base : Nat} {spare : Nat -> Bool} {held : Bool}
theorem Nm{x:Addr}{d:List Value}{y:DataW H×List MemPlace}{fuel:Nat}(h:w.cells? base x 1=some d)(ht:DataW.trod enc Tryz.prog w base spare held fuel 3 d=some y):
 ∃(b c:Nat) (n:Int),x=⟨b,c,none⟩/\Δ w b c (.int .i64 n)/\i64 n:=by
 obtain⟨_,m,g⟩:=World.cells?_some h;obtain⟨n,f,_,k⟩:=DataW.trod_int underlying3 ht;subst f;obtain⟨b,c,j⟩:=x;have e:=g 0 ϟ;have i:j=none:=by simpa[Addr.add]using World.cell?_spot e
 subst i;exact⟨b,c,n,rfl,by simpa[Addr.add]using e,bounds_i64 k⟩
theorem Nn{x:Addr}{d:List Value}{y:DataW H×List MemPlace}{fuel:Nat}(q:w.cells? base x 2=some d)(ht:DataW.trod enc Tryz.prog w base spare held fuel 69 d=some y):
 ∃(b c:Nat) (n m:Int),x=⟨b,c,none⟩/\Δ w b c (.int .i64 n)/\Δ w b (c+1) (.int .i64 m)/\i64 n/\i64 m:=by
 obtain⟨_,r,h⟩:=World.cells?_some q;obtain⟨A,B,k,_,_,j,p⟩:=trod_struct2 underlying69 ht
 match d,r with
 |[a0,a1],_=>
  obtain⟨n,e,_,z⟩:=DataW.trod_int underlying3 j;obtain⟨m,f,_,u⟩:=DataW.trod_int underlying3 p;simp[Cw]at e;simp[Cw]at f;subst e f;obtain⟨b,c,t⟩:=x;have g:=h 0 ϟ;have i:=h 1 ϟ;have s:t=none:=by simpa[Addr.add]using World.cell?_spot g
  subst s;exact⟨b,c,n,m,rfl,by simpa[Addr.add]using g,by simpa[Addr.add]using i,bounds_i64 z,bounds_i64 u⟩
theorem open_ints{v:Value}{y:DataW H×List MemPlace}{fuel:Nat}(J:DataW.trod enc Tryz.prog w base spare held fuel 22 [v]=some y):
 ∃a r l,v= .slice a (List.length (α:=Int) l) r/\AA w a l/\l.length<=χ/\∀n∈l,i64 n:=by
 rcases open_slice underlying22 J with⟨g,_⟩|⟨x,h,r,m,n,D,T,g,_,X,L,M,_,t⟩
 ·simp at g;subst g;exact⟨none,0,[],rfl,λi d=>absurd d (Nat.not_lt_zero i),ϡ,λn N=>by cases N⟩
 ·simp at g;subst g;have Y:h<=m:=by rw[M];split<;>omega
  rw[Cw]at t;obtain⟨f,z⟩:=choose_lt (α:=Int) (n:=h) (p:=λi c=> ∃b j,x=⟨b,j,none⟩/\Δ w b (j+i) (.int .i64 c)/\i64 c) (λi d=>by
   obtain⟨V,F,G⟩:=t i ϟ;obtain⟨b,j,c,e,s,u⟩:=Nm F G;obtain⟨W,O,R⟩:=t 0 ϟ;obtain⟨q,k,U,B,_⟩:=Nm O R;have E:x=⟨q,k,none⟩:=by simpa[Addr.add]using B
   subst E;have C:(⟨q,k,none⟩:Addr).add (i * 1)=⟨q,k+i,none⟩:=by unfold Addr.add;split<;>simp_all
   rw[C]at e
   cases e
   exact⟨c,b,k,rfl,s,u⟩)
  refine⟨some x,r,(List.range h).map f,ϡ,?_,by unfold maxLen at L;simp;omega,?_⟩
  ·intro i d;have A:i<h:=by simpa using d
   obtain⟨b,j,rfl,s,_⟩:=z i A;have e:((List.range h).map f).getD i 0=f i:=by simp[gDe,A]
   rw[e];exact⟨b,j,rfl,s⟩
  ·intro c I;obtain⟨i,d,rfl⟩:=mem_map.1 I;obtain⟨_,_,_,_,u⟩:=z i (by simpa using d);exact u
theorem X4{v:Value}{y:DataW H×List MemPlace}{fuel:Nat}(M:DataW.trod enc Tryz.prog w base spare held fuel 23 [v]=some y):
 ∃a s l,v= .slice a (List.length (α:=Int×Int) l) s/\EL w a l/\l.length<=χ/\∀n∈l,i64 n.1/\i64 n.2:=by
 rcases open_slice underlying23 M with⟨j,_⟩|⟨x,k,s,m,n,D,V,j,_,hl,N,O,_,z⟩
 ·simp at j;subst j;exact⟨none,0,[],rfl,λi g=>absurd g (Nat.not_lt_zero i),ϡ,λn R=>by cases R⟩
 ·simp at j;subst j;have aa:k<=m:=by rw[O];split<;>omega
  rw[AcQ]at z;obtain⟨f,B⟩:=choose_lt (α:=Int×Int) (n:=k) (p:=λi c=> ∃b h,x=⟨b,h,none⟩/\Δ w b (h+i * 2) (.int .i64 c.1)/\Δ w b (h+i * 2+1) (.int .i64 c.2)/\i64 c.1/\i64 c.2) (λi g=>by
   obtain⟨X,I,J⟩:=z i ϟ;obtain⟨b,h,c,d,e,t,u,A⟩:=Nn I J;obtain⟨Y,T,U⟩:=z 0 ϟ;obtain⟨r,q,W,Z,E,_⟩:=Nn T U;have G:x=⟨r,q,none⟩:=by simpa[Addr.add]using E
   subst G;have F:(⟨r,q,none⟩:Addr).add (i * 2)=⟨r,q+i * 2,none⟩:=by unfold Addr.add;split<;>simp_all
   rw[F]at e
   cases e
   exact⟨(c,d),b,q,rfl,t,u,A⟩)
  refine⟨some x,s,(List.range k).map f,ϡ,?_,by unfold maxLen at N;simp;omega,?_⟩
  ·intro i g;have C:i<k:=by simpa using g
   obtain⟨b,h,rfl,t,u,_⟩:=B i C;have e:((List.range k).map f).getD i (0,0)=f i:=by simp[gDe,C]
   rw[e];exact⟨b,h,rfl,t,u⟩
  ·intro c L;obtain⟨i,g,rfl⟩:=mem_map.1 L;obtain⟨_,_,_,_,_,A⟩:=B i (by simpa using g);exact A
theorem Abo{p:Array Value}(h:p.size=13):∃a b c d e f g h i j k l m,p=#[a,b,c,d,e,f,g,h,i,j,k,l,m]:=by
 obtain⟨l⟩:=p
 match l,h with
 |[a,b,c,d,e,f,g,h,i,j,k,l,m],_=>exact⟨a,b,c,d,e,f,g,h,i,j,k,l,m,rfl⟩
theorem Pq{r:Reach}{R:Nat}{v:Value}{d:DataW H}{pl:List MemPlace}(hv:Value.okWide Tryz.prog w r R 25 v)(h:DataW.Trod enc Tryz.prog w base spare held 25 v d pl):
 ∃p x,v=Ak p x/\planAt w p x/\wfPlan p:=by
 obtain⟨cs,rfl,ab⟩:=okWide_struct underlying25 hv;obtain⟨c0,c1,c2,c3,c4,c5,c6,c7,c8,c9,al,am,an,rfl⟩:=Abo (ab.trans AcR);obtain⟨fuel,Z⟩:=h;obtain⟨xs,n,_,_,_,aa,c⟩:=DataW.trod_struct underlying25 Z
 match xs,aa with
 |[y0,y1,y2,y3,y4,y5,y6,y7,y8,y9,y10,y11,y12],_=>
  have q:=c 0 _ rfl;have s:=c 1 _ rfl;have z:=c 2 _ rfl;have A:=c 3 _ rfl;have B:=c 4 _ rfl;have C:=c 5 _ rfl;have D:=c 6 _ rfl;have E:=c 7 _ rfl;have F:=c 8 _ rfl;have G:=c 9 _ rfl;have t:=c 10 _ rfl;have u:=c 11 _ rfl;have y:=c 12 _ rfl;simp[Value.cells,Cw]at q s z A B C;simp[Value.cells,Abm]at D E F G u;simp[Value.cells,AcS]at t;simp[Value.cells,Abn]at y;obtain⟨n0,e,_,w0⟩:=DataW.trod_int underlying3 q;obtain⟨n1,f,_,w1⟩:=DataW.trod_int underlying3 s;obtain⟨n2,i,_,w2⟩:=DataW.trod_int underlying3 z;obtain⟨n3,j,_,w3⟩:=DataW.trod_int underlying3 A;obtain⟨n4,k,_,w4⟩:=DataW.trod_int underlying3 B;obtain⟨n5,m,_,w5⟩:=DataW.trod_int underlying3 C;obtain⟨L,k6,l6,V,i6,m6,j6⟩:=open_ints D;obtain⟨M,k7,l7,W,i7,m7,j7⟩:=open_ints E;obtain⟨N,k8,l8,X,i8,m8,j8⟩:=open_ints F;obtain⟨O,k9,l9,Y,i9,m9,j9⟩:=open_ints G;obtain⟨ak,g,_⟩:=DataW.trod_bool underlying4 t;obtain⟨I,ae,ag,T,ac,ai,ao⟩:=open_ints u;obtain⟨J,af,ah,U,ad,aj,ap⟩:=X4 y;simp only[List.cons.injEq,and_true]at e f i j k m g;subst e f i j k m V W X Y g T U;exact⟨⟨n0,n1,n2,n3,n4,n5,l6,l7,l8,l9,ak,ag,ah⟩,⟨L,k6,M,k7,N,k8,O,k9,I,ae,J,af⟩,rfl,⟨i6,i7,i8,i9,ac,ad⟩,⟨bounds_i64 w2,bounds_i64 w3,m6,m7,m8,m9,ai,aj⟩⟩
end
end pl
namespace jn
variable {P : Program} {md : Region.Mode} {ops : Array Oper} {Q : Exit -> Act -> World -> Prop} {S : World -> Prop} {fuel : Nat} {listed : Array Bool} {a a' : Act} {w : ϛ} {oi : Oper} {v : Value}
theorem Ur(l:List Value)(c:List Deferred)(i:Nat)(v:Value):(Act.mk l.toArray c).put (some i) v=Act.mk (l.set i v).toArray c:=by simp[Act.put]
theorem takeB(i:Nat)(d:Nat)(f:S w)(h:wpAnyH P md ops Q S fuel (listed.setIfInBounds i true) a' w)
 (k:ops[i]? =some oi:=by exact rfl) (m:(Region.noSelect ops&&(Region.free md ops listed i&&(Region.ready md ops listed).contains i))=true:=by kernel_rfl) (j:oi.dst=some d:=by exact rfl) (p:Region.wanted oi (yielded ops a.tmps)=true:=by exact rfl) (hy:∀w,S w->(execOp a.eval oi).run P w= .ok (.value v) w:=by(intro q g;(try simp only[boxP,AK]at g);first|(go_simp;done)|(go_simp;with_reducible rfl))) (ha:a.put (some d) v=a':=by(apply (Ur _ _ _ _).trans;dsimp only[sZ,sSz];try exact rfl))
 (e:∀c a w,Q (.panic c) (a.put oi.dst v) w->Q (.panic c) a w:=by exact λ_ _ _ h=>h):wpAnyH P md ops Q S (fuel+1) listed a w:=gr.Pp i (some d) f h k m j p hy ha e
theorem Ai{g:Act}{e:Oper}{u:Value}(i:Nat)(d:Nat)(j:S w)(h:wpAnyH P md ops Q S fuel ((listed.setIfInBounds i true).setIfInBounds (i+1) true) g w)
 (s:ops[i]? =some oi:=by exact rfl) (x:(Region.noSelect ops&&(Region.free md ops listed i&&(Region.ready md ops listed).contains i))=true:=by kernel_rfl) (q:oi.dst=some d:=by exact rfl) (z:Region.wanted oi (yielded ops a.tmps)=true:=by exact rfl) (hy:∀w,S w->(execOp a.eval oi).run P w= .ok (.value v) w:=by(intro C f;(try simp only[boxP,AK]at f);first|(go_simp;done)|(go_simp;with_reducible rfl))) (ha:a.put (some d) v=a':=by(apply (Ur _ _ _ _).trans;dsimp only[sZ,sSz];try exact rfl))
 (t:ops[i+1]? =some e:=by exact rfl) (y:(Region.noSelect ops&&(Region.free md ops (listed.setIfInBounds i true) (i+1)&&(Region.ready md ops (listed.setIfInBounds i true)).contains (i+1)))=true:=by kernel_rfl) (r:e.dst=some (d+1):=by exact rfl) (A:Region.wanted e (yielded ops a'.tmps)=true:=by exact rfl) (B:∀w,S w->(execOp a'.eval e).run P w= .ok (.value u) w:=by(intro C f;(try simp only[boxP,AK]at f);first|(go_simp;done)|(go_simp;with_reducible rfl))) (p:a'.put (some (d+1)) u=g:=by(apply (Ur _ _ _ _).trans;dsimp only[sZ,sSz];try exact rfl))
 (k:∀c a w,Q (.panic c) (a.put oi.dst v) w->Q (.panic c) a w:=by exact λ_ _ _ h=>h) (m:∀c a w,Q (.panic c) (a.put e.dst u) w->Q (.panic c) a w:=by exact λ_ _ _ h=>h):wpAnyH P md ops Q S (fuel+1+1) listed a w:=takeB i d j (takeB (i+1) (d+1) j h t y r A B p m) s x q z hy ha k
end jn
end Go.Proofs.YtdohnkkbkfhphaaGreat
