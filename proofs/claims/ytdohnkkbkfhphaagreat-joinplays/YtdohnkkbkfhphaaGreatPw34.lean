import Derived.Test.YtdohnkkbkfhphaaGreatPw33
set_option linter.all false
set_option maxHeartbeats 8000000
set_option maxRecDepth 100000
open Go.ChangeShapes Go.WideShapes Go.ChangeAt Go.RowKit Go.Joins Go.Deep List
open Inhabited renaming default->ϰ
namespace Go.Proofs.YtdohnkkbkfhphaaGreat
open Go.Proofs.Tryz
namespace jn
open vl bf
attribute [local go_sem] Oper.semAt_some
variable {w w0 : ϛ} {s : Jn} {y : JX} {t : Value} {L : List CO}
theorem Sk{N:Nat}(h:stepAt w0 w s y t L)(b:An w N 31)(l:List Value)(o:Nat):stepAt w0 (w.setCells N o l) s y t L:=⟨Bm Dn _ _ _ h.l b,Bm Dn _ _ _ h.r b,F4 _ _ _ h.cg b⟩
theorem LM{w0':ϛ}(h:stepAt w0 w s y t L)(b:w0'.heap.size<=w0.heap.size):stepAt w0' w s y t L:=⟨A5 h.l b,A5 h.r b,Ds h.cg b⟩
theorem XF(p:pl.Pln)(x:pl.PA)(s:Jn)(y:JX)(v:Ev)(m:Ϝ)(n E:Nat)(w:ϛ)(T:pl.wfPlan p)(M:pl.planAt w p x)(J:boxP w E p x)(h:joinAt w s y)(U:wfJ s)(S:evAt w v m):
 η 54 #[joinV s y,evV v m n,μ E] w λe w'=>(∃c t L,e= .returned (.tuple #[joinV (stepJ p s v).2.1 c,t,vI (stepJ p s v).1])/\L.map CO.chg=(stepJ p s v).2.2/\stepAt w w' (stepJ p s v).2.1 c t L)/\Ϟ w w':=by
 have j:=hIz (λ(f:ϛ) (o:Ϟ w f)=>Ri p x s y v m n f T (pl.Aj M o) (h.below o) U (S.below o));obtain⟨ST,I⟩:=nM (stepJ p s v);rw[I]at j⊢;obtain⟨SE,g,SC⟩:=ST;dsimp only at j⊢;have lp:=Qb J;obtain⟨W,X,v2,v3,v4,v5,v6,v7,v8,v9,Y,Z,aa⟩:=J;clear T M h U S I;unfold pl.Ak at j;rw[A0]at j⊢;unfold evV at j⊢;obtain⟨r,K⟩:=nM v.kind;obtain⟨z,O⟩:=nM v.side;obtain⟨A,Q⟩:=nM v.time;obtain⟨u,N⟩:=nM v.row.length;rw[K,O,Q,N]at j⊢;clear K O Q N;go_enter func54,ntmps54;go_upto_region 1 with fail;generalize i:(World.alloc (World.alloc (World.alloc w _) _) _)=V;have b:Ϟ w V:=by rw[<-i];exact(Ϫ.alloc ϡ _).alloc Ϧ _
 have k:ϝ (noJ V (w+1+1)/\An V (w+1+1) 31):=by
  subst i;have F:=EP (ξ (ξ w (Ψ s y) 31) #[vI r,vI z,vI A,vS m u n] 43);have G:=World.alloc_heap_new (ξ (ξ w (Ψ s y) 31) #[vI r,vI z,vI A,vS m u n] 43) (.cells #[ω,ψ,ψ,ω,ψ,ψ,ω,ω,ω] 31);rw[World.size_alloc,World.size_alloc]at F G;exact⟨F,_,_,G⟩
 have ab:ϝ (AK V w s y):=by
  subst i;exact Ah (AL ..) (Ϫ.alloc ϡ _)
 have e0:Δ V (w+1) 0 (vI r):=by subst i;go_simp
 have e1:Δ V (w+1) 1 (vI z):=by subst i;go_simp
 have e2:Δ V (w+1) 2 (vI A):=by subst i;go_simp
 have e3:Δ V (w+1) 3 (vS m u n):=by subst i;go_simp
 clear i;replace W:=cLz b W;replace X:=cLz b X;replace v2:=cLz b v2;replace v3:=cLz b v3;replace v4:=cLz b v4;replace v5:=cLz b v5;replace v6:=cLz b v6;replace v7:=cLz b v7;replace v8:=cLz b v8;replace v9:=cLz b v9;replace Y:=cLz b Y;replace Z:=cLz b Z;replace aa:=cLz b aa;obtain⟨u0,u1,u2,u3,u4,u5,u6,u7,u8⟩:=ab.o;go_wp2_with fail;refine(j.o _ b).mono ?_;rintro e f ⟨⟨c,t,L,rfl,hl,ad⟩,q⟩;have ac:Ϟ w f:=bT b q;replace k:ϝ (noJ f (w+1+1)/\An f (w+1+1) 31):=⟨Ay k.o.1 q,Ae k.o.2 q⟩;have D:ϝ (stepAt w (World.setCells f (w.heap.size+1+1) 0 (Γ g c)) g c t L):=Sk (LM ad b.size) k.o.2 _ _;have d:ϝ ((World.setCells f (w.heap.size+1+1) 0 (Γ g c)).rangeAt (w.heap.size+1+1) 0 (Γ g c)):=CX k.o.1 rfl;have C:ϝ (Ϟ w (World.setCells f (w.heap.size+1+1) 0 (Γ g c))):=below_setCells ϟ _ 0 _ ac;rw[A0];go_wp2_with ((with_reducible refine wpList_store_mid ?_ 31 (.tmp 5) (.tmp 12) ?_ (w.heap.size+1+1) 0 (Ψ g c) ?_ ?_ ?_ ?_ ?_ ?_);exact rfl;exact rfl;exact rfl;exact rfl;exact k.o.1;exact BU;exact Ϩ);generalize (World.setCells f (w.heap.size+1+1) 0 (Γ g c))=W' at d C D⊢;have z0:=d.o 0 _ rfl;have z1:=d.o 1 _ rfl;have z2:=d.o 2 _ rfl;have z3:=d.o 3 _ rfl;have z4:=d.o 4 _ rfl;have z5:=d.o 5 _ rfl;have z6:=d.o 6 _ rfl;have z7:=d.o 7 _ rfl;have z8:=d.o 8 _ rfl;simp only[Nat.zero_add]at z0 z1 z2 z3 z4 z5 z6 z7 z8;exact bodyPost_ret (v:=.tuple #[.agg (Ψ g c),t,vI SE]) (by simp[results,results54,go_sem,z0,z1,z2,z3,z4,z5,z6,z7,z8]) rfl ⟨⟨c,t,L,rfl,hl,D.o⟩,C.o⟩
end jn
namespace jn
open vl bf
variable {w w' wr : ϛ} {a : Ϝ} {l : List Ev} {p : pl.Pln} {s s0 : Jn} {v : Value} {t : TypeId} {base : Nat} {y y0 : JX} {L : List CO}
instance:Inhabited Ev:=⟨⟨0,0,0,[]⟩⟩
abbrev RX:=Option Addr×Nat
def Gi(w:World)(a:Option Addr)(l:List Ev)(xs:List RX):Prop:=
 ∀i,i<l.length->∃b off,a=some ⟨b,off,none⟩/\Δ w b (off+i * 4) (vI (l.getD i ϰ).kind)/\Δ w b (off+i * 4+1) (vI (l.getD i ϰ).side)/\
  Δ w b (off+i * 4+1+1) (vI (l.getD i ϰ).time)/\Δ w b (off+i * 4+1+1+1) (vS (xs.getD i (none,0)).1 (l.getD i ϰ).row.length (xs.getD i (none,0)).2)/\evAt w (l.getD i ϰ) (xs.getD i (none,0)).1
theorem Iq{d:List RX}(h:Gi w a l d)(c:Ϟ w w'):Gi w' a l d:=λi f=>by
 obtain⟨b,g,e,j,k,m,n,o⟩:=h i f;exact⟨b,g,e,cLz c j,cLz c k,cLz c m,cLz c n,o.below c⟩
theorem Ny{f:List RX}(h:Gi w a l f):∀v∈l,wfV v:=λv e=>by
 obtain⟨i,d,rfl⟩:=getElem_of_mem e;obtain⟨b,j,g,k,m,n,o,c⟩:=h i d;rw[getD_at d]at c;exact⟨c.wf,c.len⟩
theorem Lw(p:pl.Pln):∀(l:List Ev) (s:Jn) (v:Ev) (i:Nat),C6 p s (l++[v]) i=(let r:=C6 p s l i
 if (stepJ p r.1 v).1≠0 then(r.1,r.2.1,r.2.2++[((i+l.length:Nat):Int)])else((stepJ p r.1 v).2.1,r.2.1++(stepJ p r.1 v).2.2,r.2.2))
 |[],s,v,i=>by
  rw[nil_append,C6];simp only[C6,length_nil,Nat.add_zero];split
  ·rfl
  ·simp
 |u::l,s,v,i=>by
  rw[cons_append,C6,C6];by_cases h:(stepJ p s u).1≠0
  ·rw[if_pos h,if_pos h,Lw p l s v (i+1)];dsimp only;split
   ·rw[length_cons,cons_append,show i+1+l.length=i+(l.length+1) by omega]
   ·rfl
  ·rw[if_neg h,if_neg h,Lw p l (stepJ p s u).2.1 v (i+1)];dsimp only;split
   ·rw[length_cons,show i+1+l.length=i+(l.length+1) by omega]
   ·rw[append_assoc]
theorem VX(h:goodJ p s):wfJ s:=by
 have c:=h.ok.L.all;have d:=h.ok.R.all;have e:=h.ok.sq;exact⟨⟨λy b=>h.wf y (mem_append.2 (.inl b)),ϟ⟩,⟨λy b=>h.wf y (mem_append.2 (.inr b)),ϟ⟩,by constructor<;>omega⟩
theorem Abz{v:Ev}(h:wfJ s)(c:wfV v)(h0:(stepJ p s v).1=0):wfJ (stepJ p s v).2.1:=
 VX (good_step (λy b=>by
  rcases mem_append.1 b with b|b
  ·exact h.l.ents y b
  ·exact h.r.ents y b) c h0)
theorem Q1{p:pl.Pln}:∀(l:List Ev) (s:Jn) (i:Nat),wfJ s->(∀v∈l,wfV v)->wfJ (C6 p s l i).1
 |[],s,i,h,_=>h
 |v::l,s,i,h,hv=>by
  rw[C6];split
  ·exact Q1 l s (i+1) h (λu b=>hv u (mem_cons_of_mem _ b))
  ·rename_i c;exact Q1 l _ (i+1) (Abz h (hv v (mem_cons_self ..)) (by simpa using c)) (λu b=>hv u (mem_cons_of_mem _ b))
theorem Nz{α β:Type}(f:α->List β)(n:Nat)(b:∀a,(f a).length<=n):∀l:List α,(l.flatMap f).length<=n * l.length
 |[]=>by simp
 |a::l=>by
  have:=Nz f n b l;have:=b a;rw[flatMap_cons,lAp,length_cons,Nat.mul_succ];omega
theorem Ab0(p:pl.Pln)(s:Jn)(v:Ev)(b:okB s.L)(h:okB s.R):(FH p s v).length<=10000:=by
 have i:∀fr d,(Cv p s v fr d).length<=4096:=λfr d=>Kc (by unfold bufOf;split;exact h;exact b);unfold FH;split
 ·split
  ·unfold Gk;split
   ·simp
   ·split<;>simp
  ·unfold DU;refine Nat.le_trans (Nz _ 2 (λe=>?_) _) ?_
   ·split
    ·simp
    ·split<;>simp
   ·have f:(Cq p s v).length<=4096:=by
     unfold Cq;refine Nat.le_trans (length_filter_le ..) ?_;split
     ·unfold Cx;rw[(A9 _).length_eq];exact Nat.le_trans (length_filter_le ..) b.all
     ·exact Nat.zero_le _
    omega
 ·rw[LV];unfold pairT;rw[lAp];have f:=Nz (toldOf p v) 2 (λe=>by unfold toldOf;split<;>simp) (Cv p s v (DX p v) (toJ p v));have j:=i (DX p v) (toJ p v);have g:∀(c:Prop) [Decidable c] (z:ch.Chg),(if c then [z]else []).length<=1:=λc _ z=>by split<;>simp
  have k:=g ((Cv p s v (DX p v) (toJ p v)).isEmpty=true/\keepsJ p.mode v.side=true) ⟨1,AN p v.side v.row⟩;omega
theorem Kh(p:pl.Pln)(s:Jn)(v:Ev):(stepJ p s v).2.2.length<=10000:=by
 unfold stepJ;split
 ·simp
 ·rename_i h;split
  ·simp
  ·split
   ·simp
   ·have b:=Cd (p:=p) (s:=s) (by simpa using h);rw[Ku];exact Ab0 p s v b.2.L b.2.R
def LN(t:TypeId)(w w':World):Prop:=Below 0 w w'/\∀g e,An w g e->e≠t->w'.heap[g]? =w.heap[g]?
theorem IJ{c w2:ϛ}{s n:Nat}{m:List Value}(h:c.ownsRow base t s v n m)(b:c.grownBy w2 v.ownBlock):LN t c w2:=⟨⟨b.os,b.tape,b.output,b.size,λk j=>absurd j (Nat.not_lt_zero k)⟩,λg e d i=>b.block g (AX d) (λf=>tyAt_apart d (A6 h f.symm) i rfl)⟩
theorem CM{N:Nat}:∀(l:List Value) (o:Nat) (w:ϛ),An w N 31->LN 31 w (w.setCells N o l)
 |[],_,w,_=>⟨bR,λ_ _ _ _=>rfl⟩
 |u::l,o,w,h=>by
  have k:=CM l (o+1) (φ w N o u) (Ao h _ _);have d:∀g e,An w g e->e≠31->(w.setCell ⟨N,o,none⟩ u).heap[g]? =w.heap[g]? :=λg e c b=>heap_setCell_other _ _ _ _ (tyAt_apart c h b);exact⟨((Below.refl 0 w).setCell (Nat.zero_le _) u).trans k.1,λg e c b=>(k.2 g e (AW c (d g e c b)) b).trans (d g e c b)⟩
def jAt(s0:Jn)(y0:JX)(w wr:World)(s:Jn)(y:JX):Prop:=Ϟ w wr/\(((s=s0/\y=y0)/\joinAt w s y)\/(OB wr w.heap.size y.l s.L/\OB wr w.heap.size y.r s.R))
theorem jAt.at(h:jAt s0 y0 w wr s y):joinAt wr s y:=by
 rcases h.2 with b|b
 ·exact b.2.below h.1
 ·exact⟨b.1.at,b.2.at⟩
theorem jAt.below(h:jAt s0 y0 w wr s y)(b:Ϟ wr w'):jAt s0 y0 w w' s y:=⟨h.1.trans (b.mono h.1.size),h.2.imp id (λk=>⟨k.1.below b,k.2.below b⟩)⟩
theorem jAt.keep(h:jAt s0 y0 w wr s y)(b:LN t wr w')(f:Ϟ w w')(h1:t≠63)(d:t≠103)(e:t≠26):jAt s0 y0 w w' s y:=by
 have c:∀{Z:BX} {B:Buf},OB wr w Z B->OB w' w Z B:=λk=>OB.other k b.1.size (λg i=>i.elim (λq=>b.2 g _ q h1.symm) (λq=>b.2 g _ q d.symm)) (λg q=>b.2 g _ q e.symm);exact⟨f,h.2.imp id (λk=>⟨c k.1,c k.2⟩)⟩
structure TG(w:World)(base:Nat)(v:Value)(L:List CO):Prop where
 own:w.ownsRow base 55 2 v L.length (ch.Ba (L.map CO.pair))
 rows:∀c∈L,∃bs,A4 w bs c.rv c.row
theorem TG.below(h:TG w base v L)(b:Ϟ w w'):TG w' base v L:=⟨own_below h.own b,λc e=>by
 obtain⟨d,k⟩:=h.rows c e;exact⟨d,own_below k b⟩⟩
theorem TG.keep(h:TG w base v L)(d:LN t w w')(h1:t≠55)(f:t≠103):TG w' base v L:=⟨A2 h.own (λg b=>d.2 g _ (A6 h.own b) h1.symm),λc i=>by
 obtain⟨e,k⟩:=h.rows c i;exact⟨e,A2 k (λg b=>d.2 g _ (A6 k b) f.symm)⟩⟩
theorem Gr(w:ϛ)(base:Nat):TG w base (vS none 0 0) []:=⟨World.ownsRow_nil _ _ _ _,λc b=>absurd b not_mem_nil⟩
theorem CG.rows(h:CG w base v L):∀c∈L,∃b,A4 w b c.rv c.row:=λc d=>⟨base,bt.Est.own h (C7 c.rv c.row) (mem_cons_of_mem _ (mem_map.2 ⟨c,d,rfl⟩))⟩
theorem TG.app{v':Value}{M:List CO}(h:TG w base v L)(f:∀c∈M,∃b,A4 w b c.rv c.row)(j:LN 55 w w')(m:w'.ownsRow base 55 2 v' (L.length+M.length) (ch.Ba (L.map CO.pair)++ch.Ba (M.map CO.pair))):TG w' base v' (L++M):=by
 refine⟨by rw[lAp,map_append,ch.Lz];exact m,λc d=>?_⟩;have e:(∃b,A4 w b c.rv c.row)->∃b,A4 w' b c.rv c.row:=λ⟨b,k⟩=>⟨b,A2 k (λg i=>j.2 g _ (A6 k i) Ϡ)⟩;rcases mem_append.1 d with d|d
 ·exact e (h.rows c d)
 ·exact e (f c d)
end jn
namespace jn
open Go
variable {P : Program} {w : ϛ}
theorem Me(base:Nat)(t h e:TypeId)(i:TypeInfo)(size:Nat)(ht:P.underlying t=some (.slice e))(b:P.info? e=some i)
 (v:Value) (n:Nat) (j:List Value) (f:w.ownsRow base e size v n j) (ad:Ϝ) (c:Nat):
 (Builtin.append_ #[t,t] h #[v,vS ad 0 c]).run P w= .ok v w:=by
 rcases f.2 with⟨rfl,rfl⟩|⟨g,k,m,rfl,_,_,d,_⟩<;>cases ad
 ·simp[Builtin.append_,run_underlying ht,sizeOf,typeInfo,b,Builtin.lenOf,Builtin.firstCells]
 ·simp[Builtin.append_,run_underlying ht,sizeOf,typeInfo,b,Builtin.lenOf,Builtin.firstCells,loadCells,loadCellsFrom]
 ·simp[Builtin.append_,run_underlying ht,sizeOf,typeInfo,b,Builtin.lenOf,Builtin.firstCells,d,storeCells]
 ·simp[Builtin.append_,run_underlying ht,sizeOf,typeInfo,b,Builtin.lenOf,Builtin.firstCells,d,storeCells,loadCells,loadCellsFrom]
theorem J2{b:Array Oper}{rest:List Oper}{o:Oper}{a:Act}{Q:Exit->Act->World->Prop}(g:o.guard=none)(s x:Operand)(t:TypeId)
 (k:o.op= .call {callee:=.builtin .append,args:=#[s,x],argTypes:=#[t,t]})
 (base:Nat) (e:TypeId) (i:TypeInfo) (size:Nat) (ht:P.underlying t=some (.slice e)) (j:P.info? e=some i)
 (v:Value) (n:Nat) (d:List Value) (r:a.eval s=v) (m:w.ownsRow base e size v n d) (ad:Ϝ) (c:Nat) (u:a.eval x=vS ad 0 c)
 (h:wpList P b Q rest (a.put o.dst v) w):wpList P b Q (o::rest) a w:=by
 refine wpList_plain g λK f=>?_;have q:=Me (P:=P) (w:=w) base t o.type e i size ht j v n d m ad c;unfold Oper.wp;simp[execOp,k,resolve,invoke,builtin,r,u,q,Result.andThen];exact f _ _ h
end jn
namespace jn
open vl bf
variable {w w' wr : ϛ} {s s0 : Jn} {y y0 : JX} {B R : Nat}
theorem XG{b:Nat}(h:AK w b s y)(d:w'.heap[b]? =w.heap[b]?):AK w' b s y:=by
 have c:∀{i:Nat} {v:Value},Δ w b i v->Δ w' b i v:=λ{i v} e=>(cOb (w:=w) (a:=⟨b,i,none⟩) d).trans e;obtain⟨u0,u1,u2,u3,u4,u5,u6,u7,u8⟩:=h;exact⟨c u0,c u1,c u2,c u3,c u4,c u5,c u6,c u7,c u8⟩
structure PCo(s0:Jn)(y0:JX)(w wr:World)(R B:Nat)(s:Jn)(y:JX):Prop where
 box:AK wr B s y
 nb:noJ wr B
 tb:An wr B 31
 nr:noJ wr R
 tr:An wr R 31
 j:jAt s0 y0 w wr s y
theorem PCo.below(h:PCo s0 y0 w wr R B s y)(b:Ϟ wr w'):PCo s0 y0 w w' R B s y:=
 ⟨Ah h.box b,Ay h.nb b,Ae h.tb b,Ay h.nr b,Ae h.tr b,h.j.below b⟩
theorem PCo.keep{t:TypeId}(h:PCo s0 y0 w wr R B s y)(b:LN t wr w')(e:Ϟ w w')(h0:t≠31)(h1:t≠63)(c:t≠103)(d:t≠26):PCo s0 y0 w w' R B s y:=
 ⟨XG h.box (b.2 B _ h.tb h0.symm),GV h.nb (b.2 B _ h.tb h0.symm),AW h.tb (b.2 B _ h.tb h0.symm),GV h.nr (b.2 R _ h.tr h0.symm),AW h.tr (b.2 R _ h.tr h0.symm),h.j.keep b e h1 c d⟩
theorem PCo.put{s':Jn}{c:JX}(h:PCo s0 y0 w wr R B s y)(o:w.heap.size<=B)(q:OB wr w c.l s'.L)(r:OB wr w c.r s'.R):
 PCo s0 y0 w (wr.setCells B 0 (Γ s' c)) R B s' c:=by
 refine⟨?_,World.there_setCells h.nb _ _ _,DT _ _ _ h.tb,World.there_setCells h.nr _ _ _,DT _ _ _ h.tr,below_setCells o _ 0 _ h.j.1,.inr ⟨Bm Dn _ _ _ q h.tb,Bm Dn _ _ _ r h.tb⟩⟩;have b:=CX h.nb (l:=(Γ s' c)) rfl;have d:=b 0 _ rfl;have e:=b 1 _ rfl;have f:=b 2 _ rfl;have g:=b 3 _ rfl;have i:=b 4 _ rfl;have j:=b 5 _ rfl;have k:=b 6 _ rfl;have m:=b 7 _ rfl;have n:=b 8 _ rfl;simp only[Nat.zero_add]at d e f g i j k m n;exact⟨d,e,f,g,i,j,k,m,n⟩
theorem Sl{base:Nat}{e:TypeId}{s n:Nat}{v:Value}{g:List Value}(h:w.ownsRow base e s v n g)(b:w.grownBy w' v.ownBlock)(d:base<=w.heap.size):Below base w w':=
 ⟨b.os,b.tape,b.output,b.size,λk f=>b.block k (Nat.lt_of_lt_of_le f d) (λc=>by have:=(ch.AM h c.symm).1;omega)⟩
theorem LO{S:Array Oper}{rest:List Oper}{o:Oper}{a:Act}{Q:Exit->Act->World->Prop}(D:o.guard=none)(s x:Operand)
 (G:o.op= .call {callee:=.builtin .append,args:=#[s,x],argTypes:=#[44,44]})
 (base base':Nat) (v t:Value) (L M:List CO) (b:ϛ) (J:a.eval s=v) (N:a.eval x=t) (d:TG b base v L) (A:CG b base' t M) (hl:L.length+M.length<=1000000000) (C:base<=b.heap.size)
 (h:∀T e,TG e base T (L++M)->LN 55 b e->Below base b e->wpList Tryz.prog S Q rest (a.put o.dst T) e):
 wpList Tryz.prog S Q (o::rest) a b:=by
 obtain⟨O,E,Y,Z,aa⟩:=info_parts ch.S0;have q:=CG.own A;have I:=CG.rows A;rcases Nat.eq_zero_or_pos M.length with f|f
 ·obtain rfl:=length_eq_zero_iff.1 f;have r:∃i c,t=vS i 0 c:=by
   rcases q.2 with⟨rfl,_⟩|⟨g,m,U,rfl,_⟩
   ·exact⟨_,_,rfl⟩
   ·exact⟨_,_,rfl⟩
  obtain⟨i,c,rfl⟩:=r;refine J2 D s x 44 G base 55 O 2 underlying44 E v L.length _ J d.own i c N ?_;exact h v b (by rw[append_nil];exact d) ⟨bR,λ_ _ _ _=>rfl⟩ bR
 ·obtain⟨g,m,rfl,ac,ae⟩:=World.ownsRow.form q f;have X:∀u∈ch.Ba (M.map CO.pair),u.oneCell'=true:=ch.Yf (λz r=>by
   obtain⟨c,W,rfl⟩:=mem_map.1 r;obtain⟨bs,k⟩:=I c W;rcases k.2 with⟨k,_⟩|⟨g,m,U,k,_⟩<;>(show c.rv.oneCell'=true;rw[k];rfl))
  have F:(ch.Ba (M.map CO.pair)).length=M.length * 2:=by rw[ch.Ye,lMp]
  refine wpList_append_lies _ D s x 44 G base 55 O (.agg #[ω,ψ]) 2 32 underlying44 E Y Z aa rfl Ϡ v L.length _ J d.own
   ⟨g,0,none⟩ M.length m (ch.Ba (M.map CO.pair)) N F (λj u K=>?_) X f ϩ ϟ C b.heap.size rfl ?_
  ·rw[ch.addr_add,Nat.zero_add,q.cellAt j (by rw[<-F];exact(List.getElem?_eq_some_iff.1 K).1)];exact K
  ·intro g' ab e V n h4 h5;exact h _ e (d.app I (IJ d.own n) V) (IJ d.own n) (Sl d.own n C)
theorem Sm(w:ϛ)(s:Jn)(y:JX):noJ (ξ w (Ψ s y) 31) w.heap.size:=by
 intro j b
 match j,b with
 |0,_=>exact⟨ϣ,ϣ⟩
 |1,_=>exact⟨ϣ,ϣ⟩
 |2,_=>exact⟨ϣ,ϣ⟩
 |3,_=>exact⟨ϣ,ϣ⟩
 |4,_=>exact⟨ϣ,ϣ⟩
 |5,_=>exact⟨ϣ,ϣ⟩
 |6,_=>exact⟨ϣ,ϣ⟩
 |7,_=>exact⟨ϣ,ϣ⟩
 |8,_=>exact⟨ϣ,ϣ⟩
noncomputable def PK(p:pl.Pln)(s:Jn)(l:List Ev)(k:Nat):Jn×List ch.Chg×List Int:=C6 p s (l.take k) 0
theorem ZO(p:pl.Pln)(s:Jn)(l:List Ev):PK p s l l.length=C6 p s l 0:=by unfold PK;rw[take_length]
theorem VY(p:pl.Pln)(s:Jn)(l:List Ev)(k:Nat)(b:k<l.length):PK p s l (k+1)=if (stepJ p (PK p s l k).1 (l.getD k ϰ)).1≠0 then((PK p s l k).1,(PK p s l k).2.1,(PK p s l k).2.2++[(k:Int)])else((stepJ p (PK p s l k).1 (l.getD k ϰ)).2.1,(PK p s l k).2.1++(stepJ p (PK p s l k).1 (l.getD k ϰ)).2.2,(PK p s l k).2.2):=by
 unfold PK;have e:l.take (k+1)=l.take k++[l.getD k ϰ]:=by
  rw[take_add_one,gEe b,gDe,gEe b];rfl
 rw[e,Lw];simp only[length_take,Nat.min_eq_left (Nat.le_of_lt b),Nat.zero_add]
end jn
namespace jn
open vl bf
attribute [local go_sem] Oper.semAt_some
noncomputable def Fp(p:pl.Pln)(s:Jn)(l:List Ev):Int×Jn×List ch.Chg×List Int:=if 120<l.length then(2,j0,[],[])else(0,C6 p s l 0)
theorem XH(p:pl.Pln)(x:pl.PA)(s0:Jn)(y0:JX)(l:List Ev)(xs:List RX)(la:Ϝ)(lc Y:Nat)(w:ϛ)(hw:pl.wfPlan p)(hp:pl.planAt w p x)(ap:boxP w Y p x)(h:joinAt w s0 y0)(ba:wfJ s0)(X:Gi w la l xs)(hn:l.length<=χ):
 η 53 #[joinV s0 y0,vS la l.length lc,.func (.func 54) #[] #[μ Y]] w λe w'=>(∃q t L nv,e= .returned (.tuple #[joinV (Fp p s0 l).2.1 q,t,nv,vI (Fp p s0 l).1])/\L.map CO.chg=(Fp p s0 l).2.2.1/\jAt s0 y0 w w' (Fp p s0 l).2.1 q/\TG w' w t L/\pl.Dm w' w nv (Fp p s0 l).2.2.2)/\Ϟ w w':=by
 have ak:ϝ (pl.wfPlan p/\(∀c,Ϟ w c->pl.planAt c p x/\boxP c Y p x)):=⟨hw,λc hb=>⟨pl.Aj hp hb,Ad ap hb⟩⟩;have be:=hV0 h;have bd:=hV0 X;have bg:ϝ (∀k,wfJ (C6 p s0 (l.take k) 0).1):=λk=>Q1 _ _ _ ba (λv bn=>Ny X v (mem_of_mem_take bn));obtain⟨n,ar⟩:=nM l.length;have HN:=hV0 ar;have bv:=Qb ap;unfold Fp;rw[ar]at hn⊢;clear hw hp ap h ba X ar;rw[A0 s0 y0];go_enter func53,ntmps53;by_cases hm:120<n
 ·rw[if_pos hm];have U:∀t,binOp .gtr t (vI (n:Int)) (vI 120)=pure (.bool true):=pl.Fl true Ϥ;go_upto_region 3 with fail;generalize z:(World.alloc (World.alloc (World.alloc w _) _) _)=A;have an:Ϟ w A:=by rw[<-z];exact(Ϫ.alloc ϡ _).alloc Ϧ _
  have HZ:ϝ (noJ A (w+1)):=by
   show noJ A _;rw[<-z];exact Ay (by have k:=EP (ξ w (Ψ s0 y0) 31);simpa using k) Ϫ
  have v0:Δ A (w.heap.size+1+1) 0 (vI 0):=by subst z;go_simp
  have v1:Δ A (w.heap.size+1+1) 1 (vS none 0 0):=by subst z;go_simp
  have v2:Δ A (w.heap.size+1+1) 2 (vS none 0 0):=by subst z;go_simp
  have v3:Δ A (w.heap.size+1+1) 3 (vI 0):=by subst z;go_simp
  have v4:Δ A (w.heap.size+1+1) 4 (vS none 0 0):=by subst z;go_simp
  have v5:Δ A (w.heap.size+1+1) 5 (vS none 0 0):=by subst z;go_simp
  have v6:Δ A (w.heap.size+1+1) 6 (vI 0):=by subst z;go_simp
  have v7:Δ A (w.heap.size+1+1) 7 (vI 0):=by subst z;go_simp
  have v8:Δ A (w.heap.size+1+1) 8 (vI 0):=by subst z;go_simp
  clear z;have d:ϝ ((World.setCells A (w.heap.size+1) 0 [ω,ψ,ψ,ω,ψ,ψ,ω,ω,ω]).rangeAt (w.heap.size+1) 0 [ω,ψ,ψ,ω,ψ,ψ,ω,ω,ω]):=CX HZ.o rfl;have G:ϝ (Ϟ w (World.setCells A (w.heap.size+1) 0 [ω,ψ,ψ,ω,ψ,ψ,ω,ω,ω])):=below_setCells ϟ _ 0 _ an;go_wp2_with ((with_reducible refine wpList_store_mid ?_ 31 (.tmp 6) (.tmp 22) ?_ (w.heap.size+1) 0 #[ω,ψ,ψ,ω,ψ,ψ,ω,ω,ω] ?_ ?_ ?_ ?_ ?_ ?_);exact rfl;exact rfl;exact rfl;exact rfl;exact HZ.o;exact BU;exact Ϩ);generalize (World.setCells A (w.heap.size+1) 0 [ω,ψ,ψ,ω,ψ,ψ,ω,ω,ω])=W' at d G⊢;have z0:=d.o 0 _ rfl;have z1:=d.o 1 _ rfl;have z2:=d.o 2 _ rfl;have z3:=d.o 3 _ rfl;have z4:=d.o 4 _ rfl;have z5:=d.o 5 _ rfl;have z6:=d.o 6 _ rfl;have z7:=d.o 7 _ rfl;have z8:=d.o 8 _ rfl;simp only[Nat.zero_add]at z0 z1 z2 z3 z4 z5 z6 z7 z8;exact bodyPost_ret (v:=.tuple #[.agg #[ω,ψ,ψ,ω,ψ,ψ,ω,ω,ω],ψ,ψ,vI 2]) (by simp[results,results53,go_sem,z0,z1,z2,z3,z4,z5,z6,z7,z8]) rfl ⟨⟨jx0,ψ,[],ψ,rfl,rfl,⟨G.o,.inr ⟨Bg (BD G.o.size),Bg (BD G.o.size)⟩⟩,Gr _ _,World.ownsRow_nil _ _ _ _⟩,G.o⟩
 ·rw[if_neg hm];have U:∀t,binOp .gtr t (vI (n:Int)) (vI 120)=pure (.bool false):=pl.Fl false Ϥ;go_upto_region 7 with fail;generalize z:(World.alloc (World.alloc (World.alloc w _) _) _)=V;have an:Ϟ w V:=by rw[<-z];exact(Ϫ.alloc ϡ _).alloc Ϧ _
  have ai:ϝ (PCo s0 y0 w V (w.heap.size+1) (w.heap.size+1+1) s0 y0):=by
   subst z;have e1:=World.size_alloc w (.cells (Ψ s0 y0) 31);have e2:=World.size_alloc (ξ w (Ψ s0 y0) 31) (.cells #[ω,ψ,ψ,ω,ψ,ψ,ω,ω,ω] 31);rw[e1]at e2;have h1:=EP (ξ w (Ψ s0 y0) 31);have h2:=World.alloc_heap_new (ξ w (Ψ s0 y0) 31) (.cells #[ω,ψ,ψ,ω,ψ,ψ,ω,ω,ω] 31);have h3:=Sm (ξ (ξ w (Ψ s0 y0) 31) #[ω,ψ,ψ,ω,ψ,ψ,ω,ω,ω] 31) s0 y0;have h4:=World.alloc_heap_new (ξ (ξ w (Ψ s0 y0) 31) #[ω,ψ,ψ,ω,ψ,ψ,ω,ω,ω] 31) (.cells (Ψ s0 y0) 31);have h5:=AL (ξ (ξ w (Ψ s0 y0) 31) #[ω,ψ,ψ,ω,ψ,ψ,ω,ω,ω] 31) s0 y0 31;rw[e1]at h1 h2;rw[e2]at h3 h4 h5;exact⟨h5,h3,⟨_,_,h4⟩,Ay h1 Ϫ,Ae ⟨_,_,h2⟩ Ϫ,an,.inl ⟨⟨rfl,rfl⟩,be.o⟩⟩
  clear z;go_wp2_with fail
  go_loopw [12,13,26] (λtv nv i wr=> ∃(k:Nat) (q:JX) (L:List CO),k<=n/\i=vI k/\PCo s0 y0 w wr (w.heap.size+1) (w.heap.size+1+1) (PK p s0 l k).1 q/\TG wr w tv L/\L.map CO.chg=(PK p s0 l k).2.1/\L.length<=10000 * k/\pl.Dm wr w nv (PK p s0 l k).2.2/\(PK p s0 l k).2.2.length<=k) (λ_ _ i _=>n - (intOf i).toNat)
  case atStart=>exact⟨0,y0,[],Nat.zero_le _,rfl,ai.o,Gr _ _,rfl,Nat.zero_le _,World.ownsRow_nil _ _ _ _,Nat.zero_le _⟩
  case round=>
   obtain⟨k,y,L,br,rfl,j,ah,I,a5,F,K⟩:=hrel;by_cases a6:k<n
   ·obtain⟨b,bw,e,Z,c1,c2,O,af⟩:=bd.o k (by rw[HN.o];exact a6);have C:ϝ (PK p s0 l (k+1)=_):=VY p s0 l k (by rw[HN.o];exact a6);have bb:wfJ (PK p s0 l k).1:=bg.o k;obtain⟨v,X⟩:=nM (l.getD k ϰ);obtain⟨ra,a7⟩:=nM ((xs.getD k (none,0)).1);obtain⟨rc,a8⟩:=nM ((xs.getD k (none,0)).2);rw[X]at Z c1 c2 O af C;rw[a7]at O af;rw[a8]at O;have Q:Ϟ w wr:=j.j.1;have J:ϝ (∀c,Ϟ wr c->CT 54 #[joinV (PK p s0 l k).1 y,evV v ra rc,μ Y] c λe w'=>(∃q t L,e= .returned (.tuple #[joinV (stepJ p (PK p s0 l k).1 v).2.1 q,t,vI (stepJ p (PK p s0 l k).1 v).1])/\L.map CO.chg=(stepJ p (PK p s0 l k).1 v).2.2/\stepAt c w' (stepJ p (PK p s0 l k).1 v).2.1 q t L)/\Ϟ c w'):=λc hb=>by
     have ao:=bT Q hb;exact XF p x (PK p s0 l k).1 y v ra rc Y c ak.o.1 (ak.o.2 c ao).1 (ak.o.2 c ao).2 (j.j.below hb).at bb (af.below ao)
    have aj:ϝ ((stepJ p (PK p s0 l k).1 v).2.2.length<=10000):=Kh p (PK p s0 l k).1 v;obtain⟨ST,az⟩:=nM (stepJ p (PK p s0 l k).1 v);rw[az]at J aj C;obtain⟨am,ad⟩:=nM (PK p s0 l k);rw[ad]at J C j I F K;obtain⟨S,T,N⟩:=am;obtain⟨SE,D,SC⟩:=ST;dsimp only at J aj C j I F K;subst e;replace Z:=cLz Q Z;replace c1:=cLz Q c1;replace c2:=cLz Q c2;replace O:=cLz Q O;clear az ad af bb a7 a8 X;rw[A0]at J;unfold evV at J;obtain⟨kd,aq⟩:=nM v.kind;obtain⟨sd,av⟩:=nM v.side;obtain⟨bx,aw⟩:=nM v.time;obtain⟨rl,au⟩:=nM v.row.length;rw[aq,av,aw,au]at J;rw[aq]at Z;rw[av]at c1;rw[aw]at c2;rw[au]at O;clear aq av aw au;have u:=hV0 j;have r:ϝ (TG wr w u12 L/\L.map CO.chg=T/\L.length<=10000 * k):=⟨ah,I,a5⟩;have m:ϝ (pl.Dm wr w u13 N/\N.length<=k):=⟨F,K⟩;have i1:(0:Int)<=(k:Int):=ϟ;have i2:(k:Int)<(n:Int):=ϟ;obtain⟨u0,u1,u2,u3,u4,u5,u6,u7,u8⟩:=j.box;have lB:(w.heap.size+1+1)<wr.heap.size:=Vw j.box;clear j ah I a5 F K ai;go_wp2_with fail;refine(J.o _ Ϫ).mono ?_;rintro e c ⟨⟨q,t,M,rfl,hM,a9⟩,a0⟩;have ae:Ϟ wr c:=((Below.refl wr.heap.size wr).alloc nR _).trans (a0.mono ϡ);have bq:Ϟ w c:=bT Q ae;replace u:ϝ (PCo s0 y0 w c (w.heap.size+1) (w.heap.size+1+1) S y):=u.o.below ae;replace r:ϝ (TG c w u12 L/\L.map CO.chg=T/\L.length<=10000 * k):=⟨r.o.1.below ae,r.o.2⟩;replace m:ϝ (pl.Dm c w u13 N/\N.length<=k):=⟨own_below m.o.1 ae,m.o.2⟩;have HM:=hV0 hM;have al:ϝ (OB c w q.l D.L/\OB c w q.r D.R/\CG c w t M):=by
     have hs:=LM (w0':=w) a9 (by have:=Q.size;simp;omega);exact⟨hs.l,hs.r,hs.cg⟩
    have bu:(w.heap.size+1+1)<c.heap.size:=Vw u.o.box;clear u0 u1 u2 u3 u4 u5 u6 u7 u8 Z c1 c2 O hM a9 a0 lB J;rw[A0];by_cases h0:SE=0
    ·subst h0;rw[if_neg Ϡ]at C;go_upto_region 13 with fail;generalize W:(World.alloc c _)=o;have E:Ϟ c o:=by rw[<-W];exact Ϫ
     have bc:ϝ (AK o c D q):=by
      subst W;exact AL ..
     clear W;replace u:ϝ (PCo s0 y0 w o (w.heap.size+1) (w.heap.size+1+1) S y):=u.o.below E;replace r:ϝ (TG o w u12 L/\L.map CO.chg=T/\L.length<=10000 * k):=⟨r.o.1.below E,r.o.2⟩;replace m:ϝ (pl.Dm o w u13 N/\N.length<=k):=⟨own_below m.o.1 E,m.o.2⟩;have ax:ϝ (CG (World.setCells o (w.heap.size+1+1) 0 (Γ D q)) w.heap.size t M):=F4 _ _ _ (al.o.2.2.below E) u.o.tb;have aa:ϝ (PCo s0 y0 w (World.setCells o (w.heap.size+1+1) 0 (Γ D q)) (w.heap.size+1) (w.heap.size+1+1) D q):=u.o.put ϟ (al.o.1.below E) (al.o.2.1.below E);have ac:ϝ (TG (World.setCells o (w.heap.size+1+1) 0 (Γ D q)) w.heap.size u12 L/\L.map CO.chg=T/\L.length<=10000 * k):=⟨r.o.1.keep (CM _ _ _ u.o.tb) Ϡ Ϡ,r.o.2⟩;have ab:ϝ (pl.Dm (World.setCells o (w.heap.size+1+1) 0 (Γ D q)) w.heap.size u13 N/\N.length<=k):=⟨A2 m.o.1 (λg U=>(CM _ _ _ u.o.tb).2 g _ (A6 m.o.1 U) Ϡ),m.o.2⟩;obtain⟨u0,u1,u2,u3,u4,u5,u6,u7,u8⟩:=bc.o;go_upto_region 14 with((with_reducible refine wpList_store_mid ?_ 31 (.tmp 11) (.tmp 45) ?_ (w.heap.size+1+1) 0 (Ψ D q) ?_ ?_ ?_ ?_ ?_ ?_);exact rfl;exact rfl;exact rfl;exact rfl;exact u.o.nb;exact BU;exact Ϩ);generalize (World.setCells o (w.heap.size+1+1) 0 (Γ D q))=w3 at ax aa ac ab⊢;clear u0 u1 u2 u3 u4 u5 u6 u7 u8;have bo:M.length<=10000:=by rw[<-lMp (f:=CO.chg),HM.o];exact aj.o
     have bh:=ac.o.2.2;have ag:=aa.o.j.1.size;go_wp2_with (at_builtin;refine LO rfl (.tmp 46) (.tmp 47) rfl w.heap.size w.heap.size u12 t L M w3 rfl rfl ac.o.1 ax.o ϟ ag ?_;intro v2 w4 bm a4 bi);go_roundw
     case rel=>exact⟨k+1,q,L++M,ϟ,by go_num,by rw[C.o];exact aa.o.keep a4 (aa.o.j.1.trans bi) Ϡ Ϡ Ϡ Ϡ,bm,by rw[C.o,map_append,ac.o.2.1,HM.o],by rw[lAp];omega,by rw[C.o];exact A2 ab.o.1 (λg U=>a4.2 g _ (A6 ab.o.1 U) Ϡ),by rw[C.o];exact Nat.le_succ_of_le ab.o.2⟩
     case measure=>simp[intOf];omega
    ·have bs:(SE !=0)=true:=by simpa using h0
     rw[if_pos h0]at C;go_upto_region 12 with fail;generalize W:(World.alloc c _)=o;have E:Ϟ c o:=by rw[<-W];exact Ϫ
     clear W;replace u:ϝ (PCo s0 y0 w o (w.heap.size+1) (w.heap.size+1+1) S y):=u.o.below E;replace r:ϝ (TG o w u12 L/\L.map CO.chg=T/\L.length<=10000 * k):=⟨r.o.1.below E,r.o.2⟩;replace m:ϝ (pl.Dm o w u13 N/\N.length<=k):=⟨own_below m.o.1 E,m.o.2⟩;have ag:=u.o.j.1.size;have bp:=m.o.2;have bh:=r.o.2.2;go_wp2_with (at_builtin;refine pl.N7 rfl (.tmp 41) (.tmp 43) rfl w.heap.size u13 N rfl o m.o.1 (k:Int) o.heap.size rfl rfl ϟ ag ?_;intro v2 w3 bk a2);have bj:=pl.Jo u.o.j.1 ag m.o.1 a2;have a3:=IJ (World.ownsRow.alloc m.o.1 _) a2;have a1:Ϟ o (ξ o #[vI (k:Int)] 3):=Ϫ;go_roundw
     case rel=>exact⟨k+1,y,L,ϟ,by go_num,by rw[C.o];exact(u.o.below a1).keep a3 bj Ϡ Ϡ Ϡ Ϡ,(r.o.1.below a1).keep a3 Ϡ Ϡ,by rw[C.o];exact r.o.2.1,ϟ,by rw[C.o];exact bk,by rw[C.o,lAp,length_singleton];omega⟩
     case measure=>simp[intOf];omega
   ·have hk:k=n:=ϟ;subst hk;have i2:¬((k:Int)<(k:Int)):=ϟ;rw[show PK p s0 l k=C6 p s0 l 0 by rw[<-HN.o];exact ZO p s0 l]at j I F K;obtain⟨am,ad⟩:=nM (C6 p s0 l 0);rw[ad]at j I F K;obtain⟨S,T,N⟩:=am;dsimp only at j I F K;have u:=hV0 j;have r:ϝ (TG (World.setCells wr (w.heap.size+1) 0 (Γ S y)) w.heap.size u12 L/\L.map CO.chg=T):=⟨ah.keep (CM _ _ _ j.tr) Ϡ Ϡ,I⟩;have m:ϝ (pl.Dm (World.setCells wr (w.heap.size+1) 0 (Γ S y)) w.heap.size u13 N):=A2 F (λg U=>(CM _ _ _ j.tr).2 g _ (A6 F U) Ϡ);have G:ϝ (Ϟ w (World.setCells wr (w.heap.size+1) 0 (Γ S y))):=below_setCells ϟ _ 0 _ j.j.1;have ay:ϝ (jAt s0 y0 w (World.setCells wr (w.heap.size+1) 0 (Γ S y)) S y):=⟨G.o,j.j.2.imp id (λk=>⟨Bm Dn _ _ _ k.1 j.tr,Bm Dn _ _ _ k.2 j.tr⟩)⟩;have d:ϝ ((World.setCells wr (w.heap.size+1) 0 (Γ S y)).rangeAt (w.heap.size+1) 0 (Γ S y)):=CX j.nr rfl;obtain⟨u0,u1,u2,u3,u4,u5,u6,u7,u8⟩:=j.box;clear j ah I F K ai;go_wp2_with ((with_reducible refine wpList_store_mid ?_ 31 (.tmp 6) (.tmp 50) ?_ (w.heap.size+1) 0 (Ψ S y) ?_ ?_ ?_ ?_ ?_ ?_);exact rfl;exact rfl;exact rfl;exact rfl;exact u.o.nr;exact BU;exact Ϩ);generalize (World.setCells wr (w.heap.size+1) 0 (Γ S y))=W' at d G ay r m⊢;have z0:=d.o 0 _ rfl;have z1:=d.o 1 _ rfl;have z2:=d.o 2 _ rfl;have z3:=d.o 3 _ rfl;have z4:=d.o 4 _ rfl;have z5:=d.o 5 _ rfl;have z6:=d.o 6 _ rfl;have z7:=d.o 7 _ rfl;have z8:=d.o 8 _ rfl;simp only[Nat.zero_add]at z0 z1 z2 z3 z4 z5 z6 z7 z8;exact bodyPost_ret (v:=.tuple #[.agg (Ψ S y),u12,u13,ω]) (by simp[results,results53,go_sem,z0,z1,z2,z3,z4,z5,z6,z7,z8]) rfl ⟨⟨y,u12,L,u13,rfl,r.o.2,ay.o,r.o.1,m.o⟩,G.o⟩
end jn
namespace jn
open vl
theorem VZ:Tryz.prog.cellsOf 43=4:=Ϣ
theorem JG:Tryz.prog.cellsOf 41=1:=Ϣ
section
variable {H : Type} {enc : TypeId × Value -> H} {w : ϛ} {base : Nat} {spare : Nat -> Bool} {held : Bool}
theorem Wa{v:Value}{y:DataW H×List MemPlace}{fuel:Nat}(h:DataW.trod enc Tryz.prog w base spare held fuel 41 [v]=some y):
 ∃a e f r,v= .slice a e f/\List.length (α:=Cel) r=e/\vl.rowAt w a r/\Cj r/\e<=9223372036854775807:=by
 rcases open_slice underlying41 h with⟨b,_⟩|⟨x,l,c,m,n,D,o,b,_⟩
 ·simp at b;subst b;obtain⟨r,g,i,j,k⟩:=open_row (a:=none) (len:=0) (cap:=0) (d:=y.1) (p:=y.2) ⟨fuel,h⟩;exact⟨_,_,_,r,rfl,g,i,j,k⟩
 ·simp at b;subst b;obtain⟨r,g,i,j,k⟩:=open_row (a:=some x) (len:=l) (cap:=c) (d:=y.1) (p:=y.2) ⟨fuel,h⟩;exact⟨_,_,_,r,rfl,g,i,j,k⟩
def Wb(w:World)(b o:Nat)(v:Ev)(rx:RX):Prop:=ϙ w b o (vI v.kind) (vI v.side) (vI v.time) (vS rx.1 v.row.length rx.2) (evAt w v rx.1)
theorem Wc{x:Addr}{f:List Value}{y:DataW H×List MemPlace}{fuel:Nat}(D:w.cells? base x 4=some f)(ht:DataW.trod enc Tryz.prog w base spare held fuel 43 f=some y):
 ∃(b e:Nat) (c:Ev×RX),x=⟨b,e,none⟩/\Wb w b e c.1 c.2:=by
 obtain⟨_,F,d⟩:=World.cells?_some D;obtain⟨y0,Y,Z,y3,n,_,_,z,A,C,k⟩:=trod_struct4 underlying43 ht
 match f,F with
 |[a0,a1,a2,a3],_=>
  obtain⟨M,g,_,V⟩:=DataW.trod_int underlying3 z;simp[Cw]at g;subst g;obtain⟨N,h,_,W⟩:=DataW.trod_int underlying3 A;simp[Cw]at h;subst h;obtain⟨O,i,_,X⟩:=DataW.trod_int underlying3 C;simp[Cw]at i;subst i;simp[JG,Cw]at k;obtain⟨Q,U,S,r,m,E,I,K,G⟩:=Wa k;subst m E;obtain⟨b,e,T⟩:=x;have j:=d 0 ϟ;have o:=d 1 ϟ;have q:=d 2 ϟ;have u:=d 3 ϟ;have J:T=none:=by simpa[Addr.add]using World.cell?_spot j
  subst J;refine⟨b,e,(⟨M,N,O,r⟩,(Q,S)),rfl,?_,?_,?_,?_,I,K,G⟩
  ·simpa[Addr.add]using j
  ·simpa[Addr.add]using o
  ·simpa[Addr.add]using q
  ·simpa[Addr.add]using u
theorem Sn{a:Ϝ}{len cap:Nat}{d:DataW H}{p:List MemPlace}(h:DataW.Trod enc Tryz.prog w base spare held 49 (.slice a len cap) d p):
 ∃(l:List Ev) (V:List RX),l.length=len/\Gi w a l V/\len<=9223372036854775807:=by
 obtain⟨fuel,Q⟩:=h;rcases open_slice underlying49 Q with⟨j,_⟩|⟨x,l,c,m,n,D,Y,j,_,hl,T,U,_,u⟩
 ·simp[Value.cells]at j;obtain⟨rfl,rfl,rfl⟩:=j;exact⟨[],[],rfl,λi o=>absurd o (Nat.not_lt_zero i),ϟ⟩
 ·simp[Value.cells]at j;obtain⟨rfl,rfl,rfl⟩:=j;have ac:len<=m:=by rw[U];split<;>omega
  rw[VZ]at u;obtain⟨f,S⟩:=choose_lt (α:=Ev×RX) (n:=len) (p:=λi c=> ∃b k,x=⟨b,k,none⟩/\Wb w b (k+i * 4) c.1 c.2) (λi o=>by
   obtain⟨aa,N,O⟩:=u i ϟ;obtain⟨b,k,c,e,g⟩:=Wc N O;obtain⟨ab,W,X⟩:=u 0 ϟ;obtain⟨r,q,Z,A,_⟩:=Wc W X;have F:x=⟨r,q,none⟩:=by simpa[Addr.add]using A
   subst F;have E:(⟨r,q,none⟩:Addr).add (i * 4)=⟨r,q+i * 4,none⟩:=by unfold Addr.add;split<;>simp_all
   rw[E]at e
   cases e
   exact⟨c,b,q,rfl,g⟩)
  refine⟨(List.range len).map λi=>(f i).1,(List.range len).map λi=>(f i).2,ϡ,?_,by unfold maxLen at T;omega⟩;intro i o;have z:i<len:=by simpa using o
  obtain⟨b,k,rfl,G,I,J,K,M⟩:=S i z;have e:((List.range len).map λi=>(f i).1).getD i ϰ=(f i).1:=by simp[gDe,z]
  have C:((List.range len).map λi=>(f i).2).getD i (none,0)=(f i).2:=by simp[gDe,z]
  rw[e,C];exact⟨b,k,rfl,G,I,J,K,M⟩
end
end jn
end Go.Proofs.YtdohnkkbkfhphaaGreat
