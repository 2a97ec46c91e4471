import Derived.Test.YtfkihidbnfkbaaaGreatDoorPv24
set_option linter.all false
set_option maxHeartbeats 2000000
set_option maxRecDepth 100000
open Go.ChangeShapes Go.WideShapes Go.ChangeAt Go.RowKit List
namespace Go.Proofs.YtfkihidbnfkbaaaGreatDoor
open Go.Proofs.Tryz
namespace jn
open vl pl bt
attribute [local go_sem] Oper.semAt_some
variable {w : Ϙ} {b : Nat} {p : pl.Pln} {x : pl.PA} {s : Jn} {y : JX} {t : Value}
theorem QF{k:Array Oper}{rest:List Oper}{o:Oper}{a:Act}{Q:Exit->Act->World->Prop}(A:o.guard=none)(s x:Operand)
 (D:o.op= .call {callee:=.builtin .append,args:=#[s,x],argTypes:=#[53,53]})
 (base:Nat) (v:Value) (l:List (Int×Value)) (n:Int) (ad:ϙ) (i cap:Nat) (c:Ϙ) (d:Nat) (N:l.length=d) (C:c.ownsRow base 217 2 v d (ch.Bd l)) (M:d<=1000000000) (K:base<=c.heap.size)
 (E:a.eval s=v) (F:a.eval x=vS (τ c) 1 1)
 (h:∀g f e,e.ownsRow base 217 2 (vS (τ g) (d+1) f) (d+1) (ch.Bd (l++[(n,vS ad i cap)]))->(c.alloc (.cells #[vI n,vS ad i cap] 217)).grownBy e v.ownBlock->(v.ownBlock=some g\/g=c.heap.size+1)->g<e.heap.size->wpList Tryz.prog k Q rest (a.put o.dst (vS (τ g) (d+1) f)) e):
 wpList Tryz.prog k Q (o::rest) a (ξ c #[vI n,vS ad i cap] 217):=by
 obtain⟨J,B,G,H,I⟩:=info_parts ch.WW;refine wpList_append_lies _ A s x 53 D base 217 J (.agg #[ω,ψ]) 2 32 underlying53 B G H I rfl ϝ v d (ch.Bd l) E
  (C.alloc _) ⟨c,0,none⟩ 1 1 [vI n,vS ad i cap] F rfl (cell_two_new _ _ _ _) (by intro u j;simp at j;rcases j with rfl|rfl<;>rfl) ϝ Ϧ Ϝ ϡ (c.heap.size+1) Ϟ ?_
 intro g f e m q r z;exact h g f e (by rw[ch.RJ];exact m) q r z
theorem Hw{w':Ϙ}(h:boxC w b p x s y t)(e:w'.heap[b]? =w.heap[b]?):boxC w' b p x s y t:=by
 have c:∀{i:Nat} {v:Value},Δ w b i v->Δ w' b i v:=λ{i v} g=>(cOb (w:=w) (a:=⟨b,i,none⟩) e).trans g;refine⟨?_,?_,c h.told,λj d=>?_⟩
 ·obtain⟨k,l,q,r,z,A,B,C,D,E,m,n,o⟩:=h.plan;exact⟨c k,c l,c q,c r,c z,c A,c B,c C,c D,c E,c m,c n,c o⟩
 ·obtain⟨u0,u1,u2,u3,u4,u5,u6,u7,u8⟩:=h.join;exact⟨c u0,c u1,c u2,c u3,c u4,c u5,c u6,c u7,c u8⟩
 ·obtain⟨u,f⟩:=Option.isSome_iff_exists.1 (h.room j d).1;exact⟨by rw[c f];rfl,(World.frozen?_of_block (w:=w) (a:=⟨b,0+j,none⟩) e).trans (h.room j d).2⟩
theorem NP(h:boxC w b p x s y t)(a:Value):boxC (φ w b 22 a) b p x s y a:=by
 refine⟨?_,?_,World.cell?_setCell_same _ _ a h.told,λj c=>?_⟩
 ·obtain⟨f,g,m,n,o,q,r,v,z,A,i,k,l⟩:=h.plan;exact⟨cell_far f ϝ,cell_far g ϝ,cell_far m ϝ,cell_far n ϝ,cell_far o ϝ,cell_far q ϝ,cell_far r ϝ,cell_far v ϝ,cell_far z ϝ,cell_far A ϝ,cell_far i ϝ,cell_far k ϝ,cell_far l ϝ⟩
 ·obtain⟨u0,u1,u2,u3,u4,u5,u6,u7,u8⟩:=h.join;exact⟨cell_far u0 ϝ,cell_far u1 ϝ,cell_far u2 ϝ,cell_far u3 ϝ,cell_far u4 ϝ,cell_far u5 ϝ,cell_far u6 ϝ,cell_far u7 ϝ,cell_far u8 ϝ⟩
 ·exact⟨by
   obtain⟨u,d⟩:=Option.isSome_iff_exists.1 (h.room j c).1;obtain⟨B,e⟩:=cell?_setCell_some (p:=⟨b,22,none⟩) (x:=a) d;rw[e];rfl,by rw[World.frozen?_setCell];exact(h.room j c).2⟩
def QG(w w':World)(b:Nat)(t:Value):Prop:=Below 0 w w'/\(∀g,g<w.heap.size->g≠b->t.ownBlock≠some g->w'.heap[g]? =w.heap[g]?)/\∀T,bf.Ae w b T->bf.Ae w' b T
theorem MG{base:Nat}{T:TypeId}{v:Value}{L:List CO}(h:CG w base v L)(f:bf.Ae w b T)(j:T≠217)(l:T≠119)(k:Nat)(u:Value):CG (φ w b k u) base v L:=by
 have d:Est w base ((⟨v,217,2,L.length,ch.Bd (L.map CO.pair)⟩:Own1)::L.map λx=>BM x.rv x.row):=h;refine Est.mk (by have:=Est.low d;simpa[World.setCell]using this) (λz a=>?_) (Est.two d);have e:=Est.own d z a;refine bf.As e (λg i=>heap_setCell_other _ _ _ _ ?_);rcases mem_cons.1 a with rfl|a
 ·exact bf.tyAt_apart (bf.Ay e i) f j.symm
 ·obtain⟨c,_,rfl⟩:=mem_map.1 a;exact bf.tyAt_apart (bf.Ay e i) f l.symm
theorem Sx(b:Nat)(p:pl.Pln)(x:pl.PA)(s:Jn)(y:JX)(t:Value)(T:TypeId)(c:ϙ)(f d:Nat)(z:List Cel)(L:List CO)(base:Nat)(w0 w:Ϙ)(h:boxC w b p x s y t)(C:bf.Ae w b T)(B:T≠217)(K:T≠119)(n:CG w0 base t L)(l:ϛ w0 w)(D:AA w w0 (vS c f d) z)(R:L.length<=1000000):
 η 357 #[μ b,vS c f d] w λe w'=>e= .returned (.tuple #[])/\∃E,boxC w' b p x s y E/\CG w' base E (L++[⟨1,vS c f d,z⟩])/\QG w w' b t:=by
 have ht:=h.told;have o:=n.below l;have r:=o.own;have F:=hqz h;have G:Ϛ (CG w0 base t L/\ϛ w0 w/\AA w w0 (vS c f d) z/\bf.Ae w b T):=⟨n,l,D,C⟩;have U:base<=w.heap.size:=Est.low o;have P:=h.lt;have V:t.ownBlock≠some b:=λe=>bf.tyAt_apart (bf.Ay r e) C B.symm rfl;obtain⟨u,q⟩:=nM L.length;have H:Ϛ ((L.map CO.pair).length=u):=by show _=_;rw[lMp,q]
 rw[q]at r R;clear n l D h o;go_enter func357,ntmps357;go_wp2_with (at_builtin;refine QF rfl (.tmp 8) (.tmp 11) rfl base t (L.map CO.pair) 1 c f d w u H.o r Ϝ U rfl rfl ?_;intro g I A X a N ab;have m:A.heap[b]? =w.heap[b]? :=(a.block b ϡ (λe=>V e.symm)).trans (Below.heap_alloc _ _ _ P);have i:Ϛ (boxC A b p x s y t):=Hw F.o m;have ac:=i.o.told;have aa:Ξ A b 22:=(by have:=(i.o.room 22 ϝ).2;simpa using this));refine bodyPost_end (v:=.tuple #[]) (by simp[results,results357,go_sem]) rfl ⟨rfl,vS (τ g) (u+1) I,NP i.o _,?_,?_⟩
 ·obtain⟨Y,Z,k3,k4⟩:=G.o;exact MG (CG.add Y Z k3 a (by rw[q];exact X) (λj e=>by
   have J:g=j:=by cases e;rfl
   subst J;exact N.imp id (λe=>by omega))) (bf.Ao k4 m) B K _ _
 ·refine⟨⟨a.os,a.tape,a.output,by have:=a.size;simp[World.setCell]at this⊢;omega,λk Q=>absurd Q (Nat.not_lt_zero k)⟩,λj S O W=>?_,λT' M=>bf.Ai (bf.Ao M m) _ _⟩;rw[heap_setCell_other _ _ _ _ (by exact O)];exact(a.block j ϡ (λe=>W e.symm)).trans (Below.heap_alloc _ _ _ S)
theorem Yb(b:Nat)(p:pl.Pln)(x:pl.PA)(s:Jn)(y:JX)(t:Value)(T:TypeId)(c i:ϙ)(f d l j:Nat)(A B:List Cel)(L:List CO)(base:Nat)(w:Ϙ)(h:boxC w b p x s y t)(F:bf.Ae w b T)(D:T≠217)(N:T≠119)(m:Est w base ((⟨t,217,2,L.length,ch.Bd (L.map CO.pair)⟩:Own1)::BM (vS c f d) A::BM (vS i l j) B::L.map λx=>BM x.rv x.row))(U:L.length<=1000000):
 η 355 #[μ b,vS c f d,vS i l j] w λe w'=>e= .returned (.tuple #[])/\∃G,boxC w' b p x s y G/\CG w' base G (L++[⟨3,vS c f d,A⟩,⟨4,vS i l j,B⟩])/\QG w w' b t:=by
 have ht:=h.told;have u:w.ownsRow base 217 2 t L.length (ch.Bd (L.map CO.pair)):=Est.own m _ (mem_cons_self ..);have H:=hqz h;have I:Ϛ (Est w base ((⟨t,217,2,L.length,ch.Bd (L.map CO.pair)⟩:Own1)::BM (vS c f d) A::BM (vS i l j) B::L.map λx=>BM x.rv x.row)/\bf.Ae w b T):=⟨m,F⟩;have W:base<=w.heap.size:=Est.low m;have R:=h.lt;have X:t.ownBlock≠some b:=λe=>bf.tyAt_apart (bf.Ay u e) F D.symm rfl;obtain⟨z,r⟩:=nM L.length;have J:Ϛ ((L.map CO.pair).length=z):=by show _=_;rw[lMp,r]
 rw[r]at u U;clear m h;go_enter func355,ntmps355;go_wp2_with (at_builtin;refine OQ rfl (.tmp 10) (.tmp 15) rfl base t (L.map CO.pair) 3 (vS c f d) 4 (vS i l j) w z J.o u Ϝ W rfl rfl rfl rfl ?_;intro g K C Z a P ab;have q:C.heap[b]? =w.heap[b]? :=(a.block b ϡ (λe=>X e.symm)).trans (Below.heap_alloc _ _ _ R);have n:Ϛ (boxC C b p x s y t):=Hw H.o q;have ac:=n.o.told;have aa:Ξ C b 22:=(by have:=(n.o.room 22 ϝ).2;simpa using this));refine bodyPost_end (v:=.tuple #[]) (by simp[results,results355,go_sem]) rfl ⟨rfl,vS (τ g) (z+2) K,NP n.o _,?_,?_⟩
 ·obtain⟨k1,k4⟩:=I.o;exact MG (CG.add2 (E:=[]) k1 bR a (by rw[r];exact Z) (λo e=>by
   have M:g=o:=by cases e;rfl
   subst M;exact P.imp id (λe=>by omega))) (bf.Ao k4 q) D N _ _
 ·refine⟨⟨a.os,a.tape,a.output,by have:=a.size;simp[World.setCell]at this⊢;omega,λk S=>absurd S (Nat.not_lt_zero k)⟩,λo V Q Y=>?_,λT' O=>bf.Ai (bf.Ao O q) _ _⟩;rw[heap_setCell_other _ _ _ _ (by exact Q)];exact(a.block o ϡ (λe=>Y e.symm)).trans (Below.heap_alloc _ _ _ V)
end jn
namespace jn
open vl
attribute [local go_sem] Oper.semAt_some
theorem Ki(m s:Int)(w:Ϙ):
 η 354 #[vI m,vI s] w λe w'=>e= .returned (.bool (Ct m s))/\w'=w:=by
 unfold Ct;by_cases a:m=2
 ·subst a;rw[if_pos rfl];go_enter func354,ntmps354;go_wp2;go_ret;exact⟨rfl,rfl⟩
 ·rw[if_neg a];have d:(m==2)=false:=by simpa using a
  clear a;by_cases c:m=3
  ·subst c;rw[if_pos rfl];go_enter func354,ntmps354;go_wp2;go_ret;exact⟨rfl,rfl⟩
  ·rw[if_neg c];have f:(m==3)=false:=by simpa using c
   clear c;go_enter func354,ntmps354;go_wp2;go_ret;exact⟨rfl,rfl⟩
theorem CC(side:Int)(i j:ϙ)(l m:Nat)(a c:List Cel)(w:Ϙ)(N:0<a.length)(O:0<c.length)(K:a.length<=400)(M:c.length<=400)(r:vl.rowAt w i a)(u:vl.rowAt w j c):
 η 353 #[vI side,vS i a.length l,vS j c.length m] w λe w'=>(∃d f,e= .returned (vS d (AX side a c).length f)/\AA w' w (vS d (AX side a c).length f) (AX side a c))/\ϛ w w':=by
 unfold AX;by_cases h:side=2
 ·have k:Ϛ (∀V,ϛ w V->Δ V w 0 (vS j c.length m)->Δ V w 1 (vS i a.length l)->CT 364 #[vS (τ w) 2 2] V λe w'=>(∃d f,e= .returned (vS d (c++a).length f)/\AA w' V (vS d (c++a).length f) (c++a))/\ϛ V w'):=λV o v z=>bt.Kn w.heap.size j i m l c a V O N M K (vl.Ac u o) (vl.Ac r o) v z;subst h;rw[if_pos rfl];obtain⟨E,G⟩:=nM a.length;obtain⟨F,H⟩:=nM c.length;rw[G,H]at k⊢;obtain⟨q,C⟩:=nM ((c++a).length);rw[C]at k⊢;clear r u;go_enter func353,ntmps353;go_wp2_with fail;generalize g:(World.alloc w _)=V;have n:ϛ w V:=by rw[<-g];exact ϧ
  have D:w.heap.size<=V.heap.size:=n.size;have I:Δ V w 0 (vS j F m):=by subst g;go_simp
  have J:Δ V w 1 (vS i E l):=by subst g;go_simp
  clear g;refine(k.o V n I J).mono ?_;rintro e P ⟨⟨d,f,rfl,B⟩,A⟩;go_wp2;go_ret;exact⟨⟨d,f,rfl,World.ownsRow.mono B D⟩,bT n A⟩
 ·have k:Ϛ (∀V,ϛ w V->Δ V w 0 (vS i a.length l)->Δ V w 1 (vS j c.length m)->CT 364 #[vS (τ w) 2 2] V λe w'=>(∃d f,e= .returned (vS d (a++c).length f)/\AA w' V (vS d (a++c).length f) (a++c))/\ϛ V w'):=λV o v z=>bt.Kn w.heap.size i j l m a c V N O K M (vl.Ac r o) (vl.Ac u o) v z;have Q:(side==2)=false:=by simpa using h
  rw[if_neg h];obtain⟨E,G⟩:=nM a.length;obtain⟨F,H⟩:=nM c.length;rw[G,H]at k⊢;obtain⟨q,C⟩:=nM ((a++c).length);rw[C]at k⊢;clear r u;go_enter func353,ntmps353;go_wp2_with fail;generalize g:(World.alloc w _)=V;have n:ϛ w V:=by rw[<-g];exact ϧ
  have D:w.heap.size<=V.heap.size:=n.size;have I:Δ V w 0 (vS i E l):=by subst g;go_simp
  have J:Δ V w 1 (vS j F m):=by subst g;go_simp
  clear g;refine(k.o V n I J).mono ?_;rintro e P ⟨⟨d,f,rfl,B⟩,A⟩;go_wp2;go_ret;exact⟨⟨d,f,rfl,World.ownsRow.mono B D⟩,bT n A⟩
end jn
namespace jn
open vl bf
variable {w w' w0 : Ϙ} {b base : Nat} {x : pl.PA} {L : List CO} {T : TypeId} {p : pl.Pln} {s : Jn} {y : JX} {t : Value}
structure calmC(T:TypeId):Prop where
 t:calmT T
 c:T≠217
theorem OB.other{x:BX}{b:Buf}(h:OB w base x b)(a:w.heap.size<=w'.heap.size)(c:∀g,Ae w g 166\/Ae w g 119->w'.heap[g]? =w.heap[g]?)(e:∀g,Ae w g 33->w'.heap[g]? =w.heap[g]?):OB w' base x b:=
 ⟨Nat.le_trans h.low a,h.mem.other a c,As h.hds (λg d=>e g (Ay h.hds d)),h.rlen,λi f=>(h.runs i f).other a c,h.two⟩
theorem CG.other{v:Value}(h:CG w base v L)(j:w.heap.size<=w'.heap.size)(i:∀g,Ae w g 217\/Ae w g 119->w'.heap[g]? =w.heap[g]?):CG w' base v L:=by
 have d:bt.Est w base ((⟨v,217,2,L.length,ch.Bd (L.map CO.pair)⟩:bt.Own1)::L.map λx=>BM x.rv x.row):=h;refine bt.Est.mk (Nat.le_trans (bt.Est.low d) j) (λz a=>?_) (bt.Est.two d);have e:=bt.Est.own d z a;refine As e (λg f=>i g ?_);rcases mem_cons.1 a with rfl|a
 ·exact .inl (Ay e f)
 ·obtain⟨c,_,rfl⟩:=mem_map.1 a;exact .inr (Ay e f)
structure JSt(w0 w:World)(b:Nat)(T:TypeId)(p:pl.Pln)(x:pl.PA)(s:Jn)(y:JX)(t:Value)(L:List CO):Prop where
 box:boxC w b p x s y t
 ty:Ae w b T
 up:w0.heap.size<=b
 l:OB w w0.heap.size y.l s.L
 r:OB w w0.heap.size y.r s.R
 ap:XJ y.l y.r
 cg:CG w w0.heap.size t L
 bl:ϛ w0 w
theorem JSt.below(h:JSt w0 w b T p x s y t L)(a:ϛ w w'):JSt w0 w' b T p x s y t L:=
 ⟨h.box.later a,Ad h.ty a,h.up,h.l.below a,h.r.below a,h.ap,h.cg.below a,h.bl.trans (a.mono h.bl.size)⟩
theorem T4{e:TypeId}(i:QG w w' b t)(f:Ae w b T)(h:CG w base t L)(c:T≠e)(d:e≠217){g:Nat}(a:Ae w g e):w'.heap[g]? =w.heap[g]? :=
 i.2.1 g (A6 a) (tyAt_apart a f c.symm) (λk=>tyAt_apart a (Ay h.own k) d rfl)
theorem JSt.told{i:Value}{j:List CO}(h:JSt w0 w b T p x s y t L)(d:calmC T)(u:boxC w' b p x s y i)(z:CG w' w0 i j)(a:QG w w' b t):JSt w0 w' b T p x s y i j:=by
 have f:∀e,T≠e->e≠217->∀g,Ae w g e->w'.heap[g]? =w.heap[g]? :=λe q r g c=>T4 a h.ty h.cg q r c;have l:=f _ d.t.e ϝ;have n:=f _ d.t.v ϝ;have m:=f _ d.t.h ϝ;have v:Ae w' b T:=a.2.2 T h.ty;exact⟨u,v,h.up,OB.other h.l a.1.size (λg c=>c.elim (l g) (n g)) (m),OB.other h.r a.1.size (λg c=>c.elim (l g) (n g)) m,h.ap,z,⟨a.1.os.trans h.bl.os,a.1.tape.trans h.bl.tape,a.1.output.trans h.bl.output,Nat.le_trans h.bl.size a.1.size,λk o=>(a.2.1 k (Nat.lt_of_lt_of_le o h.bl.size) (by have:=h.up;omega) (λe=>by have:=(A5 h.cg.own e).1;omega)).trans (h.bl.block k o)⟩⟩
end jn
end Go.Proofs.YtfkihidbnfkbaaaGreatDoor
