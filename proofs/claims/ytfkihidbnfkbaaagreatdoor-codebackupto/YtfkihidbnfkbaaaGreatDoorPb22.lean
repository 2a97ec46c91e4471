import Derived.Test.YtfkihidbnfkbaaaGreatDoorPb21
set_option linter.all false
set_option maxHeartbeats 4000000
set_option maxRecDepth 100000
open Go.ChangeShapes Go.WideShapes Go.ChangeAt Go.RowKit List
open Inhabited renaming default->ϰ
namespace Go.Proofs.YtfkihidbnfkbaaaGreatDoor
open Go.Proofs.Tryz
namespace jn
open vl pl bt
attribute [local go_sem] Oper.semAt_some
variable {w : ϙ} {b : Nat} {p : pl.Pln} {x : pl.PA} {s : Jn} {y : JX} {t : Value}
theorem Sk{r:Array Oper}{rest:List Oper}{o:Oper}{a:Act}{Q:Exit->Act->World->Prop}(D:o.guard=none)(s x:Operand)
 (G:o.op= .call {callee:=.builtin .append,args:=#[s,x],argTypes:=#[53,53]})
 (base:Nat) (v:Value) (l:List (Int×Value)) (n:Int) (ad:Ϛ) (m cap:Nat) (c:ϙ) (d:Nat) (P:l.length=d) (F:c.ownsRow base 217 2 v d (ch.Bi l)) (O:d<=1000000000) (N:base<=c.heap.size)
 (hs:a.eval s=v) (H:a.eval x=vS (τ c) 1 1)
 (h:∀g f e,e.ownsRow base 217 2 (vS (τ g) (d+1) f) (d+1) (ch.Bi (l++[(n,vS ad m cap)]))->(c.alloc (.cells #[vI n,vS ad m cap] 217)).grownBy e v.ownBlock->(v.ownBlock=some g\/g=c.heap.size+1)->g<e.heap.size->wpList Tryz.prog r Q rest (a.put o.dst (vS (τ g) (d+1) f)) e):
 wpList Tryz.prog r Q (o::rest) a (ξ c #[vI n,vS ad m cap] 217):=by
 obtain⟨M,E,I,J,K⟩:=info_parts ch.ZP;refine wpList_append_lies _ D s x 53 G base 217 M (.agg #[ω,ψ]) 2 32 underlying53 E I J K rfl Ϟ v d (ch.Bi l) hs
  (F.alloc _) ⟨c,0,none⟩ 1 1 [vI n,vS ad m cap] H rfl (cell_two_new _ _ _ _) (by intro u q;simp at q;rcases q with rfl|rfl<;>rfl) Ϟ ϧ ϝ Ϣ (c.heap.size+1) ϟ ?_
 intro g f e z A B C;exact h g f e (by rw[ch.TH];exact z) A B C
theorem I1{w':ϙ}(h:boxC w b p x s y t)(hs:w'.heap[b]? =w.heap[b]?):boxC w' b p x s y t:=by
 have c:∀{i:Nat} {v:Value},Δ w b i v->Δ w' b i v:=λ{i v} f=>(cOb (w:=w) (a:=⟨b,i,none⟩) hs).trans f;refine⟨?_,?_,c h.told,λj d=>?_⟩
 ·obtain⟨m,n,z,A,B,C,D,E,F,G,o,q,r⟩:=h.plan;exact⟨c m,c n,c z,c A,c B,c C,c D,c E,c F,c G,c o,c q,c r⟩
 ·obtain⟨u0,u1,u2,u3,u4,u5,u6,u7,u8⟩:=h.join;exact⟨c u0,c u1,c u2,c u3,c u4,c u5,c u6,c u7,c u8⟩
 ·obtain⟨u,e⟩:=Option.isSome_iff_exists.1 (h.room j d).1;exact⟨by rw[c e];rfl,(World.frozen?_of_block (w:=w) (a:=⟨b,0+j,none⟩) hs).trans (h.room j d).2⟩
theorem OU(h:boxC w b p x s y t)(a:Value):boxC (φ w b 22 a) b p x s y a:=by
 refine⟨?_,?_,World.cell?_setCell_same _ _ a h.told,λj c=>?_⟩
 ·obtain⟨f,m,r,z,A,B,C,D,E,F,n,o,q⟩:=h.plan;exact⟨cell_far f Ϟ,cell_far m Ϟ,cell_far r Ϟ,cell_far z Ϟ,cell_far A Ϟ,cell_far B Ϟ,cell_far C Ϟ,cell_far D Ϟ,cell_far E Ϟ,cell_far F Ϟ,cell_far n Ϟ,cell_far o Ϟ,cell_far q Ϟ⟩
 ·obtain⟨u0,u1,u2,u3,u4,u5,u6,u7,u8⟩:=h.join;exact⟨cell_far u0 Ϟ,cell_far u1 Ϟ,cell_far u2 Ϟ,cell_far u3 Ϟ,cell_far u4 Ϟ,cell_far u5 Ϟ,cell_far u6 Ϟ,cell_far u7 Ϟ,cell_far u8 Ϟ⟩
 ·exact⟨by
   obtain⟨u,d⟩:=Option.isSome_iff_exists.1 (h.room j c).1;obtain⟨G,e⟩:=cell?_setCell_some (p:=⟨b,22,none⟩) (x:=a) d;rw[e];rfl,by rw[World.frozen?_setCell];exact(h.room j c).2⟩
def Sl(w w':World)(b:Nat)(t:Value):Prop:=Below 0 w w'/\(∀g,g<w.heap.size->g≠b->t.ownBlock≠some g->w'.heap[g]? =w.heap[g]?)/\∀T,bf.Ai w b T->bf.Ai w' b T
theorem Nv{base:Nat}{T:TypeId}{v:Value}{L:List CO}(h:CG w base v L)(f:bf.Ai w b T)(n:T≠217)(o:T≠119)(k:Nat)(u:Value):CG (φ w b k u) base v L:=by
 have d:Est w base ((⟨v,217,2,L.length,ch.Bi (L.map CO.pair)⟩:Own1)::L.map λx=>Ca x.rv x.row):=h;refine Est.mk (by have:=Est.low d;simpa[World.setCell]using this) (λz a=>?_) (Est.two d);have e:=Est.own d z a;refine bf.A4 e (λg m=>heap_setCell_other _ _ _ _ ?_);rcases mem_cons.1 a with rfl|a
 ·exact bf.tyAt_apart (bf.Av e m) f n.symm
 ·obtain⟨c,_,rfl⟩:=mem_map.1 a;exact bf.tyAt_apart (bf.Av e m) f o.symm
theorem TU(b:Nat)(p:pl.Pln)(x:pl.PA)(s:Jn)(y:JX)(t:Value)(T:TypeId)(c:Ϛ)(f d:Nat)(C:List Cel)(L:List CO)(base:Nat)(w0 w:ϙ)(h:boxC w b p x s y t)(F:bf.Ai w b T)(E:T≠217)(O:T≠119)(r:CG w0 base t L)(o:Ϝ w0 w)(G:AA w w0 (vS c f d) C)(W:L.length<=1000000):
 η 357 #[μ b,vS c f d] w λe w'=>e= .returned (.tuple #[])/\∃H,boxC w' b p x s y H/\CG w' base H (L++[⟨1,vS c f d,C⟩])/\Sl w w' b t:=by
 have ht:=h.told;have u:=r.below o;have A:=u.own;have I:=hqz h;have J:ϛ (CG w0 base t L/\Ϝ w0 w/\AA w w0 (vS c f d) C/\bf.Ai w b T):=⟨r,o,G,F⟩;have aa:base<=w.heap.size:=Est.low u;have S:=h.lt;have ab:t.ownBlock≠some b:=λe=>bf.tyAt_apart (bf.Av A e) F E.symm rfl;obtain⟨B,z⟩:=nM L.length;have K:ϛ ((L.map CO.pair).length=B):=by show _=_;rw[lMp,z]
 rw[z]at A W;clear r o G h u;go_enter func357,ntmps357;go_wp2_with (at_builtin;refine Sk rfl (.tmp 8) (.tmp 11) rfl base t (L.map CO.pair) 1 c f d w B K.o A ϝ aa rfl rfl ?_;intro g M D hx a Q ae;have q:D.heap[b]? =w.heap[b]? :=(a.block b Ϣ (λe=>ab e.symm)).trans (Below.heap_alloc _ _ _ S);have m:ϛ (boxC D b p x s y t):=I1 I.o q;have af:=m.o.told;have ad:Ξ D b 22:=(by have:=(m.o.room 22 Ϟ).2;simpa using this));refine bodyPost_end (v:=.tuple #[]) (by simp[results,results357,go_sem]) rfl ⟨rfl,vS (τ g) (B+1) M,OU m.o _,?_,?_⟩
 ·obtain⟨k1,k2,k3,k4⟩:=J.o;exact Nv (CG.add k1 k2 k3 a (by rw[z];exact hx) (λn e=>by
   have N:g=n:=by cases e;rfl
   subst N;exact Q.imp id (λe=>by omega))) (bf.A0 k4 q) E O _ _
 ·refine⟨⟨a.os,a.tape,a.output,by have:=a.size;simp[World.setCell]at this⊢;omega,λk U=>absurd U (Nat.not_lt_zero k)⟩,λn Z R ac=>?_,λT' P=>bf.A6 (bf.A0 P q) _ _⟩;rw[heap_setCell_other _ _ _ _ (by exact R)];exact(a.block n Ϣ (λe=>ac e.symm)).trans (Below.heap_alloc _ _ _ Z)
theorem Aaf(b:Nat)(p:pl.Pln)(x:pl.PA)(s:Jn)(y:JX)(t:Value)(T:TypeId)(c m:Ϛ)(f d o n:Nat)(D F:List Cel)(L:List CO)(base:Nat)(w:ϙ)(h:boxC w b p x s y t)(I:bf.Ai w b T)(H:T≠217)(Q:T≠119)(q:Est w base ((⟨t,217,2,L.length,ch.Bi (L.map CO.pair)⟩:Own1)::Ca (vS c f d) D::Ca (vS m o n) F::L.map λx=>Ca x.rv x.row))(hl:L.length<=1000000):
 η 355 #[μ b,vS c f d,vS m o n] w λe w'=>e= .returned (.tuple #[])/\∃J,boxC w' b p x s y J/\CG w' base J (L++[⟨3,vS c f d,D⟩,⟨4,vS m o n,F⟩])/\Sl w w' b t:=by
 have ht:=h.told;have B:w.ownsRow base 217 2 t L.length (ch.Bi (L.map CO.pair)):=Est.own q _ (mem_cons_self ..);have K:=hqz h;have M:ϛ (Est w base ((⟨t,217,2,L.length,ch.Bi (L.map CO.pair)⟩:Own1)::Ca (vS c f d) D::Ca (vS m o n) F::L.map λx=>Ca x.rv x.row)/\bf.Ai w b T):=⟨q,I⟩;have ab:base<=w.heap.size:=Est.low q;have W:=h.lt;have ac:t.ownBlock≠some b:=λe=>bf.tyAt_apart (bf.Av B e) I H.symm rfl;obtain⟨C,A⟩:=nM L.length;have N:ϛ ((L.map CO.pair).length=C):=by show _=_;rw[lMp,A]
 rw[A]at B hl;clear q h;go_enter func355,ntmps355;go_wp2_with (at_builtin;refine Qu rfl (.tmp 10) (.tmp 15) rfl base t (L.map CO.pair) 3 (vS c f d) 4 (vS m o n) w C N.o B ϝ ab rfl rfl rfl rfl ?_;intro g O G hx a S af;have z:G.heap[b]? =w.heap[b]? :=(a.block b Ϣ (λe=>ac e.symm)).trans (Below.heap_alloc _ _ _ W);have r:ϛ (boxC G b p x s y t):=I1 K.o z;have ag:=r.o.told;have ae:Ξ G b 22:=(by have:=(r.o.room 22 Ϟ).2;simpa using this));refine bodyPost_end (v:=.tuple #[]) (by simp[results,results355,go_sem]) rfl ⟨rfl,vS (τ g) (C+2) O,OU r.o _,?_,?_⟩
 ·obtain⟨k1,k4⟩:=M.o;exact Nv (CG.add2 (E:=[]) k1 bR a (by rw[A];exact hx) (λu e=>by
   have P:g=u:=by cases e;rfl
   subst P;exact S.imp id (λe=>by omega))) (bf.A0 k4 z) H Q _ _
 ·refine⟨⟨a.os,a.tape,a.output,by have:=a.size;simp[World.setCell]at this⊢;omega,λk Z=>absurd Z (Nat.not_lt_zero k)⟩,λu aa U ad=>?_,λT' R=>bf.A6 (bf.A0 R z) _ _⟩;rw[heap_setCell_other _ _ _ _ (by exact U)];exact(a.block u Ϣ (λe=>ad e.symm)).trans (Below.heap_alloc _ _ _ aa)
end jn
namespace jn
open vl
attribute [local go_sem] Oper.semAt_some
theorem Ln(m s:Int)(w:ϙ):
 η 354 #[vI m,vI s] w λe w'=>e= .returned (.bool (C6 m s))/\w'=w:=by
 unfold C6;by_cases a:m=2
 ·subst a;rw[if_pos rfl];go_enter func354,ntmps354;go_wp2;go_ret;exact⟨rfl,rfl⟩
 ·rw[if_neg a];have d:(m==2)=false:=by simpa using a
  clear a;by_cases c:m=3
  ·subst c;rw[if_pos rfl];go_enter func354,ntmps354;go_wp2;go_ret;exact⟨rfl,rfl⟩
  ·rw[if_neg c];have f:(m==3)=false:=by simpa using c
   clear c;go_enter func354,ntmps354;go_wp2;go_ret;exact⟨rfl,rfl⟩
theorem Cy(side:Int)(n o:Ϛ)(u z:Nat)(a c:List Cel)(w:ϙ)(U:0<a.length)(W:0<c.length)(R:a.length<=400)(S:c.length<=400)(C:vl.rowAt w n a)(D:vl.rowAt w o c):
 η 353 #[vI side,vS n a.length u,vS o c.length z] w λe w'=>(∃d f,e= .returned (vS d (Ba side a c).length f)/\AA w' w (vS d (Ba side a c).length f) (Ba side a c))/\Ϝ w w':=by
 unfold Ba;by_cases h:side=2
 ·have r:ϛ (∀V,Ϝ w V->Δ V w 0 (vS o c.length z)->Δ V w 1 (vS n a.length u)->CT 364 #[vS (τ w) 2 2] V λe w'=>(∃d f,e= .returned (vS d (c++a).length f)/\AA w' V (vS d (c++a).length f) (c++a))/\Ϝ V w'):=λV B E F=>bt.Lx w.heap.size o n z u c a V W U S R (vl.Ab D B) (vl.Ab C B) E F;subst h;rw[if_pos rfl];obtain⟨K,N⟩:=nM a.length;obtain⟨M,O⟩:=nM c.length;rw[N,O]at r⊢;obtain⟨q,I⟩:=nM ((c++a).length);rw[I]at r⊢;clear C D;go_enter func353,ntmps353;go_wp2_with fail;generalize m:(World.alloc w _)=V;have A:Ϝ w V:=by rw[<-m];exact Ϩ
  have J:w.heap.size<=V.heap.size:=A.size;have P:Δ V w 0 (vS o M z):=by subst m;go_simp
  have Q:Δ V w 1 (vS n K u):=by subst m;go_simp
  clear m;refine(r.o V A P Q).mono ?_;rintro e Z ⟨⟨d,f,rfl,H⟩,G⟩;go_wp2;go_ret;exact⟨⟨d,f,rfl,World.ownsRow.mono H J⟩,bT A G⟩
 ·have r:ϛ (∀V,Ϝ w V->Δ V w 0 (vS n a.length u)->Δ V w 1 (vS o c.length z)->CT 364 #[vS (τ w) 2 2] V λe w'=>(∃d f,e= .returned (vS d (a++c).length f)/\AA w' V (vS d (a++c).length f) (a++c))/\Ϝ V w'):=λV B E F=>bt.Lx w.heap.size n o u z a c V U W R S (vl.Ab C B) (vl.Ab D B) E F;have h':(side==2)=false:=by simpa using h
  rw[if_neg h];obtain⟨K,N⟩:=nM a.length;obtain⟨M,O⟩:=nM c.length;rw[N,O]at r⊢;obtain⟨q,I⟩:=nM ((a++c).length);rw[I]at r⊢;clear C D;go_enter func353,ntmps353;go_wp2_with fail;generalize m:(World.alloc w _)=V;have A:Ϝ w V:=by rw[<-m];exact Ϩ
  have J:w.heap.size<=V.heap.size:=A.size;have P:Δ V w 0 (vS n K u):=by subst m;go_simp
  have Q:Δ V w 1 (vS o M z):=by subst m;go_simp
  clear m;refine(r.o V A P Q).mono ?_;rintro e Z ⟨⟨d,f,rfl,H⟩,G⟩;go_wp2;go_ret;exact⟨⟨d,f,rfl,World.ownsRow.mono H J⟩,bT A G⟩
end jn
namespace jn
open vl bf
variable {w w' w0 : ϙ} {b base : Nat} {x : pl.PA} {L : List CO} {T : TypeId} {p : pl.Pln} {s : Jn} {y : JX} {t : Value}
structure calmC(T:TypeId):Prop where
 t:calmT T
 c:T≠217
theorem OB.other{x:BX}{b:Buf}(h:OB w base x b)(hs:w.heap.size<=w'.heap.size)(a:∀g,Ai w g 166\/Ai w g 119->w'.heap[g]? =w.heap[g]?)(d:∀g,Ai w g 33->w'.heap[g]? =w.heap[g]?):OB w' base x b:=
 ⟨Nat.le_trans h.low hs,h.mem.other hs a,A4 h.hds (λg c=>d g (Av h.hds c)),h.rlen,λi e=>(h.runs i e).other hs a,h.two⟩
theorem CG.other{v:Value}(h:CG w base v L)(hs:w.heap.size<=w'.heap.size)(m:∀g,Ai w g 217\/Ai w g 119->w'.heap[g]? =w.heap[g]?):CG w' base v L:=by
 have d:bt.Est w base ((⟨v,217,2,L.length,ch.Bi (L.map CO.pair)⟩:bt.Own1)::L.map λx=>Ca x.rv x.row):=h;refine bt.Est.mk (Nat.le_trans (bt.Est.low d) hs) (λz a=>?_) (bt.Est.two d);have e:=bt.Est.own d z a;refine A4 e (λg f=>m g ?_);rcases mem_cons.1 a with rfl|a
 ·exact .inl (Av e f)
 ·obtain⟨c,_,rfl⟩:=mem_map.1 a;exact .inr (Av e f)
structure JSt(w0 w:World)(b:Nat)(T:TypeId)(p:pl.Pln)(x:pl.PA)(s:Jn)(y:JX)(t:Value)(L:List CO):Prop where
 box:boxC w b p x s y t
 ty:Ai w b T
 up:w0.heap.size<=b
 l:OB w w0.heap.size y.l s.L
 r:OB w w0.heap.size y.r s.R
 ap:AaC y.l y.r
 cg:CG w w0.heap.size t L
 bl:Ϝ w0 w
theorem JSt.below(h:JSt w0 w b T p x s y t L)(a:Ϝ w w'):JSt w0 w' b T p x s y t L:=
 ⟨h.box.later a,Ad h.ty a,h.up,h.l.below a,h.r.below a,h.ap,h.cg.below a,h.bl.trans (a.mono h.bl.size)⟩
theorem Vh{e:TypeId}(m:Sl w w' b t)(f:Ai w b T)(h:CG w base t L)(c:T≠e)(d:e≠217){g:Nat}(a:Ai w g e):w'.heap[g]? =w.heap[g]? :=
 m.2.1 g (A2 a) (tyAt_apart a f c.symm) (λk=>tyAt_apart a (Av h.own k) d rfl)
theorem JSt.told{m:Value}{n:List CO}(h:JSt w0 w b T p x s y t L)(d:calmC T)(B:boxC w' b p x s y m)(D:CG w' w0 m n)(a:Sl w w' b t):JSt w0 w' b T p x s y m n:=by
 have f:∀e,T≠e->e≠217->∀g,Ai w g e->w'.heap[g]? =w.heap[g]? :=λe z A g c=>Vh a h.ty h.cg z A c;have o:=f _ d.t.e Ϟ;have r:=f _ d.t.v Ϟ;have q:=f _ d.t.h Ϟ;have C:Ai w' b T:=a.2.2 T h.ty;exact⟨B,C,h.up,OB.other h.l a.1.size (λg c=>c.elim (o g) (r g)) (q),OB.other h.r a.1.size (λg c=>c.elim (o g) (r g)) q,h.ap,D,⟨a.1.os.trans h.bl.os,a.1.tape.trans h.bl.tape,a.1.output.trans h.bl.output,Nat.le_trans h.bl.size a.1.size,λk u=>(a.2.1 k (Nat.lt_of_lt_of_le u h.bl.size) (by have:=h.up;omega) (λe=>by have:=(AE h.cg.own e).1;omega)).trans (h.bl.block k u)⟩⟩
end jn
namespace bf
open vl
theorem Acl{w:ϙ}{base:Nat}{e:TypeId}{size n cap g:Nat}{d:List Value}(h:w.ownsRow base e size (vS (τ g) n cap) n d)(j:Nat):Ξ w g j:=by
 rcases h.2 with⟨e,_⟩|⟨o,f,m,c,a⟩
 ·cases e
 ·cases c
  simp[World.frozen?,a]
theorem Aag{W:ϙ}{b o:Nat}{v:Value}(h:Δ W b o v):W.setCell ⟨b,o,none⟩ v=W:=by
 unfold World.cell? at h;unfold World.setCell;dsimp only at h⊢
 cases hb:W.heap[b]? with
 |none=>rw[hb]at h;cases h
 |some x=>
  rw[hb]at h
  cases x with
  |cells c t f=>
   simp only[Option.isSome_none,Bool.false_eq_true,if_false]at h;have n:W.heap.modify b (λx=>match x with
    | .cells c elem frozen=>.cells (if (none:Option Nat).isSome then c else c.setIfInBounds o v) elem frozen
    |o=>o)=W.heap:=by
    refine Array.ext ϟ (λi A d=>?_);rw[Array.getElem_modify];by_cases e:b=i
    ·subst e;have r:W.heap[b]= .cells c t f:=by
      have:=Array.getElem?_eq_getElem d;rw[hb]at this;injection this with this
      exact this.symm
     rw[if_pos rfl,r];dsimp only;have m:c.setIfInBounds o v=c:=by
      obtain⟨B,q⟩:=Array.getElem?_eq_some_iff.1 h;refine Array.ext ϟ (λj C u=>?_);rw[Array.getElem_setIfInBounds u];by_cases a:o=j
      ·subst a;simp[q]
      ·simp[a]
     simp[m]
    ·rw[if_neg e]
   exact congrArg (λz:Array Obj=>{W with heap:=z}) n
  |_=>cases h
end bf
namespace jn
open vl bf
variable {l : List Ent} {b base g i j k : Nat} {ls : List (List Ent)} {t : Value} {hs : List Hdr} {V X Y w w0 : ϙ} {x : BX} {p : pl.Pln} {s : Jn} {y : JX} {T : TypeId} {L : List CO}
def doneL(f:Ent->Ent)(l:List Ent)(k:Nat):List Ent:=(l.take k).map f++l.drop k
def C4(f:Ent->Ent)(ls:List (List Ent))(k:Nat):List (List Ent):=(ls.take k).map (λl=>l.map f)++ls.drop k
def doneD(f:Ent->Ent)(ls:List (List Ent))(i j:Nat):List (List Ent):=(C4 f ls i).set i (doneL f (ls.getD i []) j)
theorem Lo(f:Ent->Ent)(l:List Ent)(k:Nat):(doneL f l k).length=l.length:=by
 unfold doneL;rw[lAp,lMp,length_take,length_drop];omega
theorem Nw(f:Ent->Ent)(l:List (List Ent))(k:Nat):(C4 f l k).length=l.length:=by
 unfold C4;rw[lAp,lMp,length_take,length_drop];omega
theorem Nx{f:Ent->Ent}(h:k<l.length):(doneL f l k).getD k ϰ=l.getD k ϰ:=by
 unfold doneL;rw[DI (d:=ϰ) h,gDe,getElem?_append_right (by rw[lMp,length_take];omega),lMp,length_take,show k - min k l.length=0 by omega];rfl
theorem OV{f:Ent->Ent}{l:List (List Ent)}(h:k<l.length):(C4 f l k).getD k []=l.getD k []:=by
 unfold C4;rw[DI (d:=[]) h,gDe,getElem?_append_right (by rw[lMp,length_take];omega),lMp,length_take,show k - min k l.length=0 by omega];rfl
theorem TV{f:Ent->Ent}(h:k<l.length):(doneL f l k).set k (f (l.getD k ϰ))=doneL f l (k+1):=by
 unfold doneL;rw[DI (d:=ϰ) h,set_mid f l k _ _ _ ϝ,Ry f l k ϰ h,append_assoc];rfl
theorem TW(f:Ent->Ent)(l:List Ent):doneL f l 0=l:=by unfold doneL;rfl
theorem XA(f:Ent->Ent)(l:List Ent):doneL f l l.length=l.map f:=by unfold doneL;rw[take_length,drop_length,append_nil]
theorem Sm{f:Ent->Ent}{l:List (List Ent)}(h:k<l.length):(C4 f l k).set k ((l.getD k []).map f)=C4 f l (k+1):=by
 unfold C4;rw[DI (d:=[]) h,set_mid (λl=>l.map f) l k _ _ _ ϝ,Ry (λl=>l.map f) l k [] h,append_assoc];rfl
theorem Sn(f:Ent->Ent)(l:List (List Ent)):C4 f l 0=l:=by unfold C4;rfl
theorem TX(a:List Int)(b:Buf):C4 (metE a) (partsB b) (partsB b).length=partsB (CJ a b):=by
 unfold C4;rw[take_length,drop_length,append_nil];rfl
theorem Ny{f:Ent->Ent}(h:i<ls.length):(doneD f ls i j).getD i []=doneL f (ls.getD i []) j:=Dy (by rw[Nw];exact h)
theorem TY{f:Ent->Ent}(h:i<ls.length):doneD f ls i 0=C4 f ls i:=by
 unfold doneD;rw[TW,<-OV (f:=f) h];exact set_self (by rw[Nw];exact h)
theorem XB{f:Ent->Ent}(h:i<ls.length):doneD f ls i (ls.getD i []).length=C4 f ls (i+1):=by
 unfold doneD;rw[XA,Sm h]
def So(hs:List Hdr):Nat->Obj->Prop:=λg o=>(∀c f,o≠ .cells c 166 f)\/∀h∈hs,(hdV h).ownBlock≠some g
theorem GU{W:ϙ}{t:TypeId}(h:Ai W b t)(c:t≠166):names (So hs) W b:=λo a=>.inl (T9 h c o a)
structure NSt(w0 V X:World)(base:Nat)(hs:List Hdr)(ls:List (List Ent)):Prop where
 op:∃ess,OP X base hs ess ls
 ko:Aq (So hs) V X
 bl:Ϝ w0 X
theorem NSt.row{d:Option Nat}{B:Nat}(h:NSt w0 V X base hs ls)(m:w0.heap.size<=B)(a:X.grownBy Y d)(c:∀r,d=some r->B<=r/\∃x:Obj,X.heap[r]? =some x/\x.isCells=false):NSt w0 V Y base hs ls:=by
 obtain⟨f,o⟩:=h.op;exact⟨⟨f,o.same a.size (λg n=>by rcases n with k|k;exact ty_row a (λr e=>(c r e).2) k;exact ty_row a (λr e=>(c r e).2) k)⟩,h.ko.grown a (λr e=>(c r e).2),CU h.bl nR m a c⟩
theorem NSt.below(h:NSt w0 V X base hs ls)(a:Ϝ X Y):NSt w0 V Y base hs ls:=by
 obtain⟨c,d⟩:=h.op;exact⟨⟨c,d.below a⟩,h.ko.trans (MW a),h.bl.trans (a.mono h.bl.size)⟩
theorem NSt.rec_put{D:Nat}{q:Obj}(h:NSt w0 V X base hs ls)(a:X.heap[D]? =some q)(m:q.isCells=false)(u:w0.heap.size<=D)(o:Obj):NSt w0 V (X.putObj D o) base hs ls:=by
 obtain⟨r,z⟩:=h.op;have n:∀g t,Ai X g t->(X.putObj D o).heap[g]? =X.heap[g]? :=λg t d=>World.putObj_heap_other (λe=>by
  obtain⟨c,f,k⟩:=d;rw[e,a]at k;injection k with k
  rw[k]at m
  cases m)
 exact⟨⟨r,z.same ϟ (λg d=>d.elim (n g _) (n g _))⟩,h.ko.trans (Aq.put X D q o a m),Cq h.bl u a o⟩
theorem NSt.read{f:Ent->Ent}(h:NSt w0 V X base hs (doneD f ls i j))(z:i<hs.length)(H:ls.length=hs.length)(A:j<(ls.getD i []).length):
 ∃(g:Nat) (e:EM),hs.getD i hd0=(some ⟨g,0,none⟩,(ls.getD i []).length,(hs.getD i hd0).2.2)/\Δ X g (j * 5+2) (vI e.seq)/\Δ X g (j * 5+4) (.bool e.met)/\Ξ X g (j * 5+4)/\((ls.getD i []).getD j ϰ).seq=e.seq/\((ls.getD i []).getD j ϰ).met=e.met:=by
 obtain⟨c,C⟩:=h.op;have a:=C.oe i z;rw[Ny ϝ]at a;have B:(doneL f (ls.getD i []) j).length=(ls.getD i []).length:=Lo _ _ _;obtain⟨g,m⟩:=MU a ϝ;have n:(c.getD i []).length=(ls.getD i []).length:=by rw[a.len,B]
 rw[n]at m;have D:hdV (hs.getD i hd0)=vS (τ g) (c.getD i []).length (hs.getD i hd0).2.2:=by rw[m,n];rfl
 rw[D]at a;obtain⟨b,o,u,E,F,q,G,r⟩:=a.at j ϝ
 cases u
 have d:=a.ers.2 j ϝ;rw[Nx A]at d;rw[Nat.zero_add]at E F q G r;exact⟨g,(c.getD i []).getD j ϰ,m,q,r,Acl a.own _,d.seq.symm,d.met.symm⟩
theorem NSt.put{a:List Int}{v:Bool}(h:NSt w0 V X base hs (doneD (metE a) ls i j))(hw:w0.heap.size<=base)(A:i<hs.length)(Z:ls.length=hs.length)(m:j<(ls.getD i []).length)(z:(hs.getD i hd0).1=some ⟨g,0,none⟩)
 (P:Δ X g (j * 5+4) (.bool ((ls.getD i []).getD j ϰ).met)) (I:v=(((ls.getD i []).getD j ϰ).met||decide (((ls.getD i []).getD j ϰ).seq∈a))):
 NSt w0 V (φ X g (j * 5+4) (.bool v)) base hs (doneD (metE a) ls i (j+1))/\Aq (So hs) X (φ X g (j * 5+4) (.bool v)):=by
 have G:i<ls.length:=ϝ;have M:(doneD (metE a) ls i j).set i (doneL (metE a) (ls.getD i []) (j+1))=doneD (metE a) ls i (j+1):=by unfold doneD;rw[List.set_set]
 have D:=TV (f:=metE a) m;by_cases q:((ls.getD i []).getD j ϰ).seq∈a
 ·have u:v=true:=by rw[I,decide_eq_true q,Bool.or_true]
  rw[u];have r:metE a ((ls.getD i []).getD j ϰ)=((ls.getD i []).getD j ϰ).meet:=by unfold metE;rw[if_pos q];rfl
  obtain⟨R,J⟩:=h.op;have Q:j<((doneD (metE a) ls i j).getD i []).length:=by rw[Ny G,Lo];exact m
  have C:=J.oe i A;have B:(hdV (hs.getD i hd0)).ownBlock=some g:=by
   obtain⟨S,F⟩:=MU C ϝ;rw[F]at z
   cases z
   rw[F];rfl
  have W:=(AE C.own B).1;have H:Aq (So hs) X (φ X g (j * 5+4) (.bool true)):=λb o E U d=>by
   refine(heap_setCell_other _ _ _ _ (λe=>?_)).trans E;dsimp only at e;subst e;rcases d with d|d
   ·obtain⟨c,f,n⟩:=Av C.own B;rw[E]at n;injection n with n
    exact d c f n
   ·exact d _ (Bj A) B
  have K:=AdH J A Q z;rw[Ny G,Nx m,<-r,D,M]at K;exact⟨⟨⟨_,K⟩,h.ko.trans H,h.bl.setCell ϣ _⟩,H⟩
 ·have u:v=((ls.getD i []).getD j ϰ).met:=by rw[I,decide_eq_false q,Bool.or_false]
  rw[u,Aag P];have r:metE a ((ls.getD i []).getD j ϰ)=(ls.getD i []).getD j ϰ:=by unfold metE;rw[if_neg q]
  have N:doneL (metE a) (ls.getD i []) (j+1)=doneL (metE a) (ls.getD i []) j:=by
   rw[<-D,r,<-Nx (f:=metE a) m];exact set_self (by rw[Lo];exact m)
  have O:doneD (metE a) ls i (j+1)=doneD (metE a) ls i j:=by unfold doneD;rw[N]
  rw[O];exact⟨h,Aq.refl _ _⟩
theorem NSt.hlen{f:Ent->Ent}(h:NSt w0 V X base hs (C4 f ls i))(d:i<hs.length)(r:ls.length=hs.length):(hs.getD i hd0).2.1=(ls.getD i []).length:=by
 obtain⟨q,m⟩:=h.op;have a:=m.oe i d;rw[OV ϝ]at a;obtain⟨n,o,e⟩:=a.form;unfold hdV at e;injection e with _ c _
 rw[c,a.len]
theorem XC{b:Buf}{f:Ent->Ent}(h:OB V base x b)(a:Ϝ w0 V):NSt w0 V V base ((x.m::x.rs).map (·.1)) (C4 f (partsB b) 0):=
 ⟨⟨_,by rw[Sn];exact Aew h⟩,Aq.refl _ _,a⟩
theorem Vi{d:Buf}{a:List (List EM)}(c:OP X base ((x.m::x.rs).map (·.1)) a (partsB d))(z:X.ownsRow base 33 1 (vS x.ra x.rs.length x.rc) x.rs.length (x.rs.map λp=>hdV p.1)):∃e:BX,e.ra=x.ra/\e.rc=x.rc/\e.m.1=x.m.1/\e.rs.map (·.1)=x.rs.map (·.1)/\OB X base e d:=by
 have A:a.length=x.rs.length+1:=by rw[c.l1];simp
 have C:(x.rs.map (·.1)).length=a.tail.length:=by rw[lMp,length_tail,A];rfl
 have f:((x.rs.map (·.1)).zip a.tail).length=x.rs.length:=by rw[length_zip,<-C,lMp,Nat.min_self]
 have n:((x.rs.map (·.1)).zip a.tail).map (·.1)=x.rs.map (·.1):=map_fst_zip ϝ;have B:d.runs.length=x.rs.length:=by have:=c.l2;simp[partsB]at this;exact this
 have m:((x.rs.map (·.1)).zip a.tail).map (λp=>hdV p.1)=x.rs.map λp=>hdV p.1:=by
  have:((x.rs.map (·.1)).zip a.tail).map (λp=>hdV p.1)=(((x.rs.map (·.1)).zip a.tail).map (·.1)).map hdV:=by rw[map_map];rfl
  rw[this,n,map_map];rfl
 refine⟨⟨x.ra,x.rc,(x.m.1,a.getD 0 []),(x.rs.map (·.1)).zip a.tail⟩,rfl,rfl,rfl,n,?_⟩;refine⟨c.low,c.oe 0 ϟ,?_,?_,λi D=>?_,?_⟩
 ·dsimp only;rw[f,m];exact z
 ·dsimp only;rw[f,B]
 ·dsimp only;have h:i<x.rs.length:=ϝ;have o:=c.oe (i+1) Ϣ;have q:((x.m::x.rs).map (·.1)).getD (i+1) hd0=(((x.rs.map (·.1)).zip a.tail).getD i ϰ).1:=by
   rw[map_cons,getD_cons_succ,gDe,gDe,gEe (by rw[lMp];exact h),gEe (by rw[f];exact h)];simp
  have r:a.getD (i+1) []=(((x.rs.map (·.1)).zip a.tail).getD i ϰ).2:=by
   rw[gDe,gDe,gEe ϝ,gEe (by rw[f];exact h)];simp
  have u:(partsB d).getD (i+1) []=d.runs.getD i ϰ:=by
   unfold partsB;rw[getD_cons_succ];rfl
  rw[q,r,u]at o;exact o
 ·dsimp only;rw[map_cons,m];have:=c.two;rw[map_map,map_cons]at this;exact this
theorem Sp{x':BX}(c:x'.m.1=x.m.1)(d:x'.rs.map (·.1)=x.rs.map (·.1)){p:Part}(a:p∈x'.m::x'.rs):∃q∈x.m::x.rs,q.1=p.1:=by
 rcases mem_cons.1 a with rfl|a
 ·exact⟨x.m,mem_cons_self ..,c.symm⟩
 ·have:p.1∈x.rs.map (·.1):=by rw[<-d];exact mem_map.2 ⟨p,a,rfl⟩
  obtain⟨q,f,e⟩:=mem_map.1 this;exact⟨q,mem_cons_of_mem _ f,e⟩
theorem Vj{d:BX}{b:Buf}(h:OB V base x b)(hs:V.heap.size<=X.heap.size)(o:Aq (So ((d.m::d.rs).map (·.1))) V X)(D:∀p∈x.m::x.rs,∀q∈d.m::d.rs,apB (hdV p.1) (hdV q.1)):OB X base x b:=by
 have u:∀g t,Ai V g t->t≠166->X.heap[g]? =V.heap[g]? :=λg t a m=>by
  obtain⟨c,f,e⟩:=a;rw[e];exact o g _ e rfl (.inl (λJ K B=>by injection B with _ C _;exact m C))
 have r:∀{p:Part} {l:List Ent},p∈x.m::x.rs->OE V base (hdV p.1) p.2 l->OE X base (hdV p.1) p.2 l:=λ{p l} F E=>E.same hs (λg A t a m=>by
  rcases m with⟨H,rfl⟩|rfl
  ·rw[a];refine o g _ a rfl (.inr (λq G e=>?_));obtain⟨z,I,rfl⟩:=mem_map.1 G;exact D p F z I g H e
  ·exact u g _ ⟨A,_,a⟩ Ϟ)
 refine⟨Nat.le_trans h.low hs,r (mem_cons_self ..) h.mem,A4 h.hds (λg a=>u g _ (Av h.hds a) Ϟ),h.rlen,λi n=>r (mem_cons_of_mem _ ?_) (h.runs i n),h.two⟩;exact Bj (by rw[h.rlen];exact n)
theorem Vk{U:ϙ}{x:pl.PA}{s':Jn}{a:JX}(h:boxC U b p x s y t)(c:s'.L.lim=s.L.lim)(d:s'.R.lim=s.R.lim)(e:s'.lm=s.lm)(f:s'.rm=s.rm)(m:s'.seq=s.seq)
 (n:a.l.m.1=y.l.m.1) (o:a.l.ra=y.l.ra) (q:a.l.rc=y.l.rc) (r:a.l.rs.length=y.l.rs.length) (u:a.r.m.1=y.r.m.1) (z:a.r.ra=y.r.ra) (A:a.r.rc=y.r.rc) (B:a.r.rs.length=y.r.rs.length):boxC U b p x s' a t:=by
 refine⟨h.plan,?_,h.told,h.room⟩;have:=h.join;unfold jnC at *;rw[c,d,e,f,m,n,o,q,r,u,z,A,B];exact this
def Ki(w w':World):Prop:=Below 0 w w'/\∀g e,Ai w g e->e≠166->w'.heap[g]? =w.heap[g]?
theorem Ki.cell{e:TypeId}{w':ϙ}{o:Nat}{v:Value}(h:Ki w w')(f:Ai w g e)(c:e≠166)(d:Δ w g o v):Δ w' g o v:=(cOb (w:=w) (a:=⟨g,o,none⟩) (h.2 g e f c)).trans d
theorem Aah{x:pl.PA}(h:JSt w0 w b T p x s y t L)(d:Ϝ w V)(a:NSt w0 V X base hs ls)(z:V.heap.size<=X.heap.size):Ki w X:=by
 refine⟨⟨a.bl.os.trans h.bl.os.symm,a.bl.tape.trans h.bl.tape.symm,a.bl.output.trans h.bl.output.symm,Nat.le_trans d.size z,λk u=>absurd u (Nat.not_lt_zero k)⟩,λg e m r=>?_⟩;have q:=d.block g (A2 m);obtain⟨c,f,k⟩:=m;rw[k];exact a.ko g _ (q.trans k) rfl (.inl (λA B n=>by injection n with _ o _;exact r o))
theorem JSt.met{x:pl.PA}(h:JSt w0 V b T p x s y t L)(Q:calmC T)(side:Int)(O:List Int)(D:NSt w0 V X w0.heap.size (((B7 y side).m::(B7 y side).rs).map (·.1)) (partsB (CJ O (Ak s side))))(K:V.heap.size<=X.heap.size):
 ∃y',JSt w0 X b T p x (A7 s side (CJ O (Ak s side))) y' t L:=by
 have A:=D.ko;have B:∀g e,Ai V g e->e≠166->X.heap[g]? =V.heap[g]? :=λg e a R=>by
  obtain⟨c,f,k⟩:=a;rw[k];exact A g _ k rfl (.inl (λc' f' u=>by injection u with _ P _;exact R P))
 obtain⟨aa,n⟩:=D.op;have I:X.heap[b]? =V.heap[b]? :=B b T h.ty Q.t.e;have M:=I1 h.box I;have N:=CG.other h.cg K (λg a=>a.elim (λk=>B g _ k Ϟ) (λk=>B g _ k Ϟ));by_cases e:side=2
 ·have H:B7 y side=y.r:=by unfold B7;rw[if_pos e]
  have z:Ak s side=s.R:=by unfold Ak;rw[if_pos e]
  rw[H]at n A;rw[z]at n;rw[z];obtain⟨C,E,F,o,r,G⟩:=Vi n (A4 h.r.hds (λg a=>B g _ (Av h.r.hds a) Ϟ));have J:C.rs.length=y.r.rs.length:=by have:=congrArg List.length r;simpa using this
  unfold A7;rw[if_pos e];refine⟨⟨y.l,C⟩,Vk M rfl rfl rfl rfl rfl rfl rfl rfl rfl o E F J,A0 h.ty I,h.up,Vj h.l K A (λp d q m=>h.ap p d q m),G,λp d q m=>?_,N,D.bl⟩;obtain⟨Z,U,u⟩:=Sp o r m;rw[<-u];exact h.ap p d Z U
 ·have H:B7 y side=y.l:=by unfold B7;rw[if_neg e]
  have z:Ak s side=s.L:=by unfold Ak;rw[if_neg e]
  rw[H]at n A;rw[z]at n;rw[z];obtain⟨C,E,F,o,r,G⟩:=Vi n (A4 h.l.hds (λg a=>B g _ (Av h.l.hds a) Ϟ));have J:C.rs.length=y.l.rs.length:=by have:=congrArg List.length r;simpa using this
  unfold A7;rw[if_neg e];refine⟨⟨C,y.r⟩,Vk M rfl rfl rfl rfl rfl o E F J rfl rfl rfl rfl,A0 h.ty I,h.up,G,Vj h.r K A (λp d q m=>MS (h.ap q m p d)),λp d q m=>?_,N,D.bl⟩;obtain⟨W,S,u⟩:=Sp o r d;rw[<-u];exact h.ap W S q m
end jn
namespace jn
open vl bf
attribute [local go_sem] Oper.semAt_some
variable {p : pl.Pln} {s : Jn} {v : Ev} {tO : Int}
theorem Aai(h:pl.Ag p=0)(side:Int):1<=(pl.AD p side).length/\(pl.AD p side).length<=4:=by
 have:=pl.Fo (pl.Bf h).2.2.1;unfold pl.AD;split<;>omega
theorem Nz(n:Nat):(bt.CN n).length=n:=by unfold bt.CN;rw[length_replicate]
theorem I3(b:Nat)(p:pl.Pln)(x:pl.PA)(side:Int)(r:Ϛ)(D:Nat)(a:List Cel)(w:ϙ)(H:pl.Ag p=0)(hs:pl.Bm side=true)(O:Bh w b p x)(I:vl.rowAt w r a)(M:0<a.length)(K:a.length<=400):
 η 356 #[μ b,vI side,vS r a.length D] w λe w'=>(∃f h,e= .returned (vS f (AY p side a).length h)/\AA w' w (vS f (AY p side a).length h) (AY p side a))/\Ϝ w w':=by
 have z:=Aai H (3 - side);have F:=hIz (λ(d:ϙ)=>I6 side d hs);have u:=hIz (λ(d:ϙ)=>bt.Wn p x (3 - side) d z.1 z.2);have E:ϛ (∀m d,Ϝ w d->vl.rowAt d (τ m) (bt.CN (pl.AD p (3 - side)).length)->CT 353 #[vI side,vS r a.length D,vS (τ m) (pl.AD p (3 - side)).length (pl.AD p (3 - side)).length] d λe w'=>(∃f h,e= .returned (vS f (AY p side a).length h)/\AA w' d (vS f (AY p side a).length h) (AY p side a))/\Ϝ d w'):=λm d P o=>by
  have:=Cy side r (τ m) D (pl.AD p (3 - side)).length a (bt.CN (pl.AD p (3 - side)).length) d M (by rw[Nz];omega) K (by rw[Nz];omega) (vl.Ab I P) o;rw[Nz]at this;exact this
 obtain⟨Z,v1,v2,v3,v4,v5,v6,v7,v8,v9,aa,ab,ac⟩:=O;have G:ϛ (∀w',Ϝ w w'->ϑ w' b (vI p.kind) (vI p.mode) (vI p.low) (vI p.high) (vI p.size) (vI p.limit) (vS x.l p.left.length x.lc) (vS x.r p.right.length x.rc) (vS x.lk p.lkeys.length x.lkc) (vS x.rk p.rkeys.length x.rkc) (.bool p.grouped) (vS x.g p.group.length x.gc) (vS x.a p.aggs.length x.ac)):=λw' c=>⟨cLz c Z,cLz c v1,cLz c v2,cLz c v3,cLz c v4,cLz c v5,cLz c v6,cLz c v7,cLz c v8,cLz c v9,cLz c aa,cLz c ab,cLz c ac⟩;obtain⟨q,B⟩:=nM ((AY p side a).length);obtain⟨n,o⟩:=nM ((pl.AD p (3 - side)).length);obtain⟨od,A⟩:=nM (3 - side);obtain⟨rl,C⟩:=nM a.length;rw[o,B,C]at E;rw[o,A]at u;rw[A]at F;rw[B,C];clear o B A C z H hs I M K;unfold pl.Ap at u;go_enter func356,ntmps356;go_wp2
 go_region_held3 (λw'=>ϑ w' b (vI p.kind) (vI p.mode) (vI p.low) (vI p.high) (vI p.size) (vI p.limit) (vS x.l p.left.length x.lc) (vS x.r p.right.length x.rc) (vS x.lk p.lkeys.length x.lkc) (vS x.rk p.rkeys.length x.rkc) (.bool p.grouped) (vS x.g p.group.length x.gc) (vS x.a p.aggs.length x.ac)) (first|exact G.o _ hy|exact G.o _ (bR.drew)|go_keep)
  (first
   |(go_at_call 353;refine(E.o _ _ hy S).mono ?_;rintro e wj ⟨⟨f,h,rfl,U⟩,Q⟩;have J:Ϝ w wj:=bT hy Q;have W:w.heap.size<=N.heap.size:=hy.size;have hy:=J)
   |(go_at_call 365;refine(u.o _).mono ?_;rintro e N ⟨⟨m,rfl,ae,S⟩,R⟩;have hy:Ϝ w N:=bR.drew.trans R)
   |(go_at_call 348;refine(F.o _).mono ?_;rintro e w2 ⟨rfl,rfl⟩))
 all_goals
  go_wp2;go_ret;exact⟨⟨f,h,rfl,World.ownsRow.mono U W⟩,J⟩
def BU(p:pl.Pln)(s:Jn)(v:Ev)(fr tO:Int):List Ent:=if pl.hasB p v.side v.row=true then CZ (Ak s (3 - v.side)) (pl.As p v.side v.row) fr tO else []
theorem XD(b:Buf)(k:ByteArray)(a z:Int):((Ac b).filter λy=>decide (y.key=k)&&decide (a<=y.time)&&decide (y.time<=z))=(Ac b).filter (Jk k a z):=by
 congr 1
 funext y
 unfold Jk;rw[Bool.and_assoc]
theorem Vl{b:Buf}(h:okB b){k:ByteArray}{a z:Int}{l:List Ent}(d:l.Perm ((Ac b).filter (Jk k a z)))(c:N0 l):l=CZ b k a z:=by
 unfold CZ;rw[XD];exact NM d c (h.once.sublist (filter_sublist.map _))
theorem Kj{fr:Int}(h:okB (Ak s (3 - v.side))):(BU p s v fr tO).length<=4096:=by
 unfold BU;split
 ·unfold CZ;rw[(BL _).length_eq];exact Nat.le_trans (length_filter_le ..) h.all
 ·exact Nat.zero_le _
theorem Kk{fr:Int}{y:Ent}(h:y∈BU p s v fr tO):y∈Ac (Ak s (3 - v.side)):=by
 unfold BU at h;split at h
 ·unfold CZ at h;exact(mem_filter.1 ((BL _).mem_iff.1 h)).1
 ·exact absurd h not_mem_nil
theorem H9(b:Nat)(p:pl.Pln)(x:pl.PA)(s:Jn)(y:JX)(t:Value)(v:Ev)(ra:Ϛ)(rc:Nat)(fr tO:Int)(w:ϙ)(hs:pl.Bm v.side=true)(h:boxC w b p x s y t)(F:bufAt w (Ak s (3 - v.side)) (B7 y (3 - v.side)))(ok:okB (Ak s (3 - v.side)))(I:∀z∈Ac (Ak s (3 - v.side)),wfE z/\wfP (Bd z)):
 η 352 #[μ b,BE p v ra rc,vI fr,vI tO] w λe w'=>(∃c es,e= .returned (hdV c)/\OE w' w (hdV c) es (BU p s v fr tO))/\Ϝ w w':=by
 unfold BU BE
 cases hk:pl.hasB p v.side v.row with
 |false=>
  rw[if_neg Ϟ];obtain⟨E,d⟩:=nM (pl.As p v.side v.row);obtain⟨rl,C⟩:=nM v.row.length;rw[d,C];clear d C;go_enter func352,ntmps352;go_wp2;go_ret;exact⟨⟨(none,0,0),[],rfl,E4 ϟ⟩,Ϩ⟩
 |true=>
  rw[if_pos rfl];have J:=hIz (λ(a:ϙ)=>I6 v.side a hs);have H:ϛ (∀a,CT 252 #[.pointer (some ⟨b,13,none⟩),vI (3 - v.side)] a λe w'=>e= .returned (.pointer (some ⟨b,13+Au (3 - v.side),none⟩))/\w'=a):=λa=>FJ b 13 (3 - v.side) a;obtain⟨m,o,f⟩:=Ff h.join (3 - v.side);have af:=h.lt;obtain⟨B,M⟩:=nM (Ak s (3 - v.side));obtain⟨X,O⟩:=nM (B7 y (3 - v.side));rw[M]at m F ok I⊢;rw[O]at o f F;have q:ϛ (∀a,Ϝ w a->CT 363 #[AZ B X,.string (pl.As p v.side v.row),vI fr,vI tO] a λe w'=>(∃(c:Hdr) (u:List EM),e= .returned (.tuple #[hdV c,ω])/\OE w' a (hdV c) u (CZ B (pl.As p v.side v.row) fr tO))/\Ϝ a w'):=λa hb=>(Vn B X _ fr tO a (An F hb) I (by have:=ok.all;omega) (Ez ok)).mono (by
   rintro e w' ⟨⟨c,u,l',rfl,hp,ae,A⟩,ac⟩;rw[Vl ok hp ae]at A;exact⟨⟨c,u,rfl,A⟩,ac⟩)
  obtain⟨E,d⟩:=nM (pl.As p v.side v.row);obtain⟨rl,C⟩:=nM v.row.length;obtain⟨k,P⟩:=nM (13+Au (3 - v.side));rw[d]at q;rw[P]at H m o f;rw[d,C];obtain⟨LS,N⟩:=nM (CZ B E fr tO);rw[N]at q⊢;obtain⟨od,R⟩:=nM (3 - v.side);rw[R]at J H;obtain⟨aa,ab,⟨⟨U,W,Z⟩,ml⟩,rs⟩:=X;obtain⟨S,ah,ai⟩:=B;unfold AZ hdV at q;dsimp only at q m o f;obtain⟨n,Q⟩:=nM rs.length;rw[Q]at q f;clear d C P N R Q h F ok I M O hk hs;have ag:b≠w.heap.size:=ϝ;go_enter func352,ntmps352;go_wp2;generalize G:(World.alloc w _)=V;have r:Ϝ w V:=by rw[<-G];exact Ϩ
  have c0:Δ V w 0 (vI v.side):=by subst G;go_simp
  have c3:Δ V w 3 (.string E):=by subst G;go_simp
  replace m:=cLz r m;replace o:=cLz r o;replace f:=cLz r f;clear G;have K:ϛ (∀w',Ϝ V w'->Δ w' w 0 (vI v.side)/\Δ w' w 3 (.string E)/\Ϗ w' b k (vI S) (vS U W Z) (vS aa n ab)):=λw' D=>⟨cLz D c0,cLz D c3,cLz D m,cLz D o,cLz D f⟩
  go_region_held3 (λw'=>Δ w' w 0 (vI v.side)/\Δ w' w 3 (.string E)/\Ϗ w' b k (vI S) (vS U W Z) (vS aa n ab)) (first|exact K.o _ hy|exact K.o _ (bR.drew)|go_keep)
   (first
    |(go_at_call 363;refine(q.o _ r.drew).mono ?_;rintro e wn ⟨⟨c,u,rfl,A⟩,ad⟩;have hy:Ϝ V wn:=bR.drew.trans ad;obtain⟨d,h2,h3⟩:=c;dsimp only at A⊢)
    |(go_at_call 252;refine(H.o _).mono ?_;rintro e w3 ⟨rfl,rfl⟩)
    |(go_at_call 348;refine(J.o _).mono ?_;rintro e w2 ⟨rfl,rfl⟩))
  all_goals
   go_wp2;go_ret;exact⟨⟨(d,h2,h3),u,rfl,A.mono (by have:=r.size;simpa using this)⟩,bT r hy⟩
end jn
end Go.Proofs.YtfkihidbnfkbaaaGreatDoor
