import Derived.Test.YtdohnkkbkfhphaaGreatPq20
set_option linter.all false
set_option maxHeartbeats 4000000
set_option maxRecDepth 100000
namespace Go.Proofs.YtdohnkkbkfhphaaGreat
open Go.Proofs.Tryz
namespace jn
open Go.ChangeShapes Go.WideShapes Go.ChangeAt Go.RowKit
open vl pl bt
attribute [local go_sem] Oper.semAt_some
variable {w w' w1 w2 : World} {b base : Nat} {s : Jn} {rv sv t v v' : Value} {row srow : List Cel} {k : Int} {o : Obj} {ops : Array Oper} {rest : List Oper} {a : Act} {Q : Exit -> Act -> World -> Prop} {p : pl.Pln} {x : pl.PA} {y : JX}
def Kv:Value->Option Addr
 | .slice a _ _=>a
 |_=>none
def N6:Value->Nat
 | .slice _ _ c=>c
 |_=>0
theorem Gx{e:TypeId}{s:Nat}{n:Nat}{xs:List Value}(h:w.ownsRow base e s v n xs):v= .slice (Kv v) n (N6 v):=by
 rcases h.2 with⟨hv,h0⟩|⟨g,cap,cur,hv,_⟩
 ·rw[hv,h0];rfl
 ·rw[hv];rfl
theorem IR{E E':List Own1}(h:∀[DecidableEq Own1] (a:Own1),E.count a=E'.count a):E.Perm E':=by
 haveI:DecidableEq Own1:=fun a b=>Classical.propDecidable (a=b)
 exact List.perm_iff_count.2 (fun a=>h a)
theorem Kw(w:World)(a b c d:Value)(t:TypeId):∀j u,[a,b,c,d][j]? =some u->(w.alloc (.cells #[a,b,c,d] t)).cell? ((⟨w.heap.size,0,none⟩:Addr).add j)=some u:=fun j u hj=>by
 rw[ch.addr_add]
 match j,hj with
 |0,hj=>simp at hj;subst hj;go_simp
 |1,hj=>simp at hj;subst hj;go_simp
 |2,hj=>simp at hj;subst hj;go_simp
 |3,hj=>simp at hj;subst hj;go_simp
 |k+4,hj=>simp at hj
def Ce(rv:Value)(row:List Cel):Own1:=⟨rv,103,3,row.length,celCells row⟩
structure CO where
 k:Int
 rv:Value
 row:List Cel
instance:Inhabited CO:=⟨⟨0,.slice none 0 0,[]⟩⟩
def CO.chg(x:CO):ch.Chg:=⟨x.k,x.row⟩
def CO.pair(x:CO):Int×Value:=(x.k,x.rv)
def CG(w:World)(base:Nat)(v:Value)(L:List CO):Prop:=Est w base ((⟨v,55,2,L.length,ch.Bc (L.map CO.pair)⟩:Own1)::L.map fun x=>Ce x.rv x.row)
theorem CG.start(h:base<=w.heap.size):CG w base (.slice none 0 0) []:=
 ⟨h,fun y hy=>by
  rcases List.mem_cons.1 hy with rfl|hy
  ·exact World.ownsRow_nil _ _ _ _
  ·exact absurd hy List.not_mem_nil,List.pairwise_cons.2 ⟨fun y hy=>absurd hy List.not_mem_nil,List.Pairwise.nil⟩⟩
theorem CG.below{L:List CO}(h:CG w base v L)(hb:Bwz w w'):CG w' base v L:=ED h hb
theorem CG.own{L:List CO}(h:CG w base v L):w.ownsRow base 55 2 v L.length (ch.Bc (L.map CO.pair)):=Est.own h _ (List.mem_cons_self ..)
theorem CG.add{L:List CO}(h:CG w base v L)(hb:Bwz w w1)(hv:AM w1 w.heap.size rv row)(hg:(w1.alloc o).grownBy w2 v.ownBlock)(hx:w2.ownsRow base 55 2 v' (L.length+1) (ch.Bc (L.map CO.pair++[(k,rv)])))(hat:∀g,v'.ownBlock=some g->v.ownBlock=some g\/w1.heap.size+1<=g):CG w2 base v' (L++[⟨k,rv,row⟩]):=by
 have h1:Est w1 base (Ce rv row::(⟨v,55,2,L.length,ch.Bc (L.map CO.pair)⟩:Own1)::L.map fun x=>Ce x.rv x.row):=LG (x:=Ce rv row) h hb (World.ownsRow.mono hv (Est.low h)) (fun g hg=>(ch.AG hv hg).1)
 have h2:=ED (Fk h1 (List.Perm.swap _ _ _)) (bR.alloc nR o)
 have e1:(L++[(⟨k,rv,row⟩:CO)]).length=L.length+1:=by simp
 have e2:(L++[(⟨k,rv,row⟩:CO)]).map CO.pair=L.map CO.pair++[(k,rv)]:=by rw[List.map_append];rfl
 have h3:=ME (x':=(⟨v',55,2,(L++[(⟨k,rv,row⟩:CO)]).length,ch.Bc ((L++[(⟨k,rv,row⟩:CO)]).map CO.pair)⟩:Own1)) h2 hg (by rw[e1,e2];exact hx) (fun g hg=>by
  rcases hat g hg with h|h
  ·exact .inl h
  ·right;simp;exact h)
 refine Fk h3 (IR (fun a=>?_))
 simp only[List.map_append,List.map_cons,List.map_nil,List.count_append,List.count_cons,List.count_nil]
 omega
theorem CG.add2{L:List CO}{k2:Int}{E:List Own1}(h:Est w base ((⟨v,55,2,L.length,ch.Bc (L.map CO.pair)⟩:Own1)::Ce rv row::Ce sv srow::L.map fun x=>Ce x.rv x.row))(hb:Bwz w w1)(hg:(w1.alloc o).grownBy w2 v.ownBlock)(hx:w2.ownsRow base 55 2 v' (L.length+2) (ch.Bc (L.map CO.pair++[(k,rv),(k2,sv)])))(hat:∀g,v'.ownBlock=some g->v.ownBlock=some g\/w1.heap.size+1<=g):CG w2 base v' (L++[⟨k,rv,row⟩,⟨k2,sv,srow⟩]):=by
 have h2:=ED (ED h hb) (bR.alloc nR o)
 have e1:(L++[(⟨k,rv,row⟩:CO),⟨k2,sv,srow⟩]).length=L.length+2:=by simp
 have e2:(L++[(⟨k,rv,row⟩:CO),⟨k2,sv,srow⟩]).map CO.pair=L.map CO.pair++[(k,rv),(k2,sv)]:=by rw[List.map_append];rfl
 have h3:=ME (x':=(⟨v',55,2,(L++[(⟨k,rv,row⟩:CO),⟨k2,sv,srow⟩]).length,ch.Bc ((L++[(⟨k,rv,row⟩:CO),⟨k2,sv,srow⟩]).map CO.pair)⟩:Own1)) h2 hg (by rw[e1,e2];exact hx) (fun g hg=>by
  rcases hat g hg with h|h
  ·exact .inl h
  ·right;simp;exact h)
 refine Fk h3 (IR (fun a=>?_))
 simp only[List.map_append,List.map_cons,List.map_nil,List.count_append,List.count_cons,List.count_nil]
 omega
theorem CG.two{L:List CO}(h:CG w base v L)(hb1:Bwz w w1)(hv1:AM w1 w.heap.size rv row)(hb2:Bwz w1 w2)(hv2:AM w2 w1.heap.size sv srow):Est w2 base ((⟨v,55,2,L.length,ch.Bc (L.map CO.pair)⟩:Own1)::Ce rv row::Ce sv srow::L.map fun x=>Ce x.rv x.row):=by
 have h1:=LG (x:=Ce rv row) h hb1 (World.ownsRow.mono hv1 (Est.low h)) (fun g hg=>(ch.AG hv1 hg).1)
 have h2:=LG (x:=Ce sv srow) h1 hb2 (World.ownsRow.mono hv2 h1.low) (fun g hg=>(ch.AG hv2 hg).1)
 refine Fk h2 (IR (fun a=>?_))
 simp only[List.count_cons]
 omega
theorem CG.two2{L:List CO}(h:CG w base v L)(hb1:Bwz w w1)(hv1:AM w1 w.heap.size sv srow)(hb2:Bwz w1 w2)(hv2:AM w2 w1.heap.size rv row):Est w2 base ((⟨v,55,2,L.length,ch.Bc (L.map CO.pair)⟩:Own1)::Ce rv row::Ce sv srow::L.map fun x=>Ce x.rv x.row):=by
 refine Fk (h.two hb1 hv1 hb2 hv2) (IR (fun a=>?_))
 simp only[List.count_cons]
 omega
theorem Mm{o:Oper}(hgd:o.guard=none)(s x:Operand)
 (hop:o.op= .call {callee:=.builtin .append,args:=#[s,x],argTypes:=#[44,44]})
 (base:Nat) (v:Value) (l:List (Int×Value)) (n1:Int) (v1:Value) (n2:Int) (v2:Value) (w1:World) (ln:Nat) (hln:l.length=ln) (ho:w1.ownsRow base 55 2 v ln (ch.Bc l)) (hl:ln<=1000000000) (hb:base<=w1.heap.size) (o1:v1.oneCell'=true) (o2:v2.oneCell'=true)
 (hs:a.eval s=v) (hx:a.eval x= .slice (some ⟨w1.heap.size,0,none⟩) 2 2)
 (h:∀g cap2 w2,w2.ownsRow base 55 2 (.slice (some ⟨g,0,none⟩) (ln+2) cap2) (ln+2) (ch.Bc (l++[(n1,v1),(n2,v2)]))->(w1.alloc (.cells #[.int .i64 n1,v1,.int .i64 n2,v2] 55)).grownBy w2 v.ownBlock->(v.ownBlock=some g\/g=w1.heap.size+1)->g<w2.heap.size->wpList Tryz.prog ops Q rest (a.put o.dst (.slice (some ⟨g,0,none⟩) (ln+2) cap2)) w2):
 wpList Tryz.prog ops Q (o::rest) a (w1.alloc (.cells #[.int .i64 n1,v1,.int .i64 n2,v2] 55)):=by
 obtain⟨i0,hi,hz0,hz1,hz2⟩:=info_parts ch.So
 refine wpList_append_lies _ hgd s x 44 hop base 55 i0 (.agg #[.int .i64 0,.slice none 0 0]) 2 32 underlying44 hi hz0 hz1 hz2 rfl (by decide) v ln (ch.Bc l) hs
  (ho.alloc _) ⟨w1.heap.size,0,none⟩ 2 2 [.int .i64 n1,v1,.int .i64 n2,v2] hx rfl (Kw _ _ _ _ _ _) (by intro u hu;simp at hu;rcases hu with rfl|rfl|rfl|rfl<;>first|rfl|assumption) (by decide) (by unfold maxLen;omega) (by omega) (by simp;omega) (w1.heap.size+1) (by simp) ?_
 intro g cap2 w2 h2 h3 h4 h5
 refine h g cap2 w2 ?_ h3 h4 h5
 rw[ch.La]
 exact h2
theorem L1(L:List CO)(i:Nat)(h:i<L.length):(L.map CO.pair).getD i (0,.bool false)=((L.getD i default).k,(L.getD i default).rv)/\(L.map CO.chg).getD i default=⟨(L.getD i default).k,(L.getD i default).row⟩:=by
 simp[gDe,h,CO.pair,CO.chg]
theorem CG.chgs{L:List CO}(h:CG w base v L):v= .slice (Kv v) L.length (N6 v)/\ch.Df w (Kv v) (L.map CO.chg):=by
 have ho:=h.own
 refine⟨Gx ho,fun i hi=>?_⟩
 have hi2:i<L.length:=by simpa using hi
 rcases ho.2 with⟨hv,h0⟩|⟨g,c,cur,hv,_⟩
 ·omega
 ·have hc:=World.ownsRow.cells ho (g:=g) (by rw[hv];rfl)
  obtain⟨f1,f2⟩:=ch.MD (L.map CO.pair) i (by simpa using hi2)
  obtain⟨e1,e2⟩:=L1 L i hi2
  rw[e1]at f1 f2
  have c1:=hc _ _ f1
  have c2:=hc _ _ f2
  rw[ch.C9,Nat.zero_add]at c1 c2
  have hr:AM w base (L.getD i default).rv (L.getD i default).row:=Est.own h (Ce (L.getD i default).rv (L.getD i default).row) (List.mem_cons_of_mem _ (List.mem_map.2 ⟨L.getD i default,by rw[gDe,gEe hi2];exact List.getElem_mem hi2,rfl⟩))
  have er:=Gx hr
  rw[er]at hr c2
  refine⟨g,0,Kv (L.getD i default).rv,N6 (L.getD i default).rv,by rw[hv];rfl,?_,?_,?_⟩
  ·rw[e2,Nat.zero_add];exact c1
  ·rw[e2,Nat.zero_add];exact c2
  ·rw[e2];exact vl.Fu hr
theorem N7{o:Oper}(hgd:o.guard=none)(s x:Operand)
 (hop:o.op= .call {callee:=.builtin .append,args:=#[s,x],argTypes:=#[44,44]})
 (base:Nat) (v:Value) (l:List (Int×Value)) (n:Int) (ad:Option Addr) (rl cap:Nat) (w1:World) (ln:Nat) (hln:l.length=ln) (ho:w1.ownsRow base 55 2 v ln (ch.Bc l)) (hl:ln<=1000000000) (hb:base<=w1.heap.size)
 (hs:a.eval s=v) (hx:a.eval x= .slice (some ⟨w1.heap.size,0,none⟩) 1 1)
 (h:∀g cap2 w2,w2.ownsRow base 55 2 (.slice (some ⟨g,0,none⟩) (ln+1) cap2) (ln+1) (ch.Bc (l++[(n,.slice ad rl cap)]))->(w1.alloc (.cells #[.int .i64 n,.slice ad rl cap] 55)).grownBy w2 v.ownBlock->(v.ownBlock=some g\/g=w1.heap.size+1)->g<w2.heap.size->wpList Tryz.prog ops Q rest (a.put o.dst (.slice (some ⟨g,0,none⟩) (ln+1) cap2)) w2):
 wpList Tryz.prog ops Q (o::rest) a (w1.alloc (.cells #[.int .i64 n,.slice ad rl cap] 55)):=by
 obtain⟨i0,hi,hz0,hz1,hz2⟩:=info_parts ch.So
 refine wpList_append_lies _ hgd s x 44 hop base 55 i0 (.agg #[.int .i64 0,.slice none 0 0]) 2 32 underlying44 hi hz0 hz1 hz2 rfl (by decide) v ln (ch.Bc l) hs
  (ho.alloc _) ⟨w1.heap.size,0,none⟩ 1 1 [.int .i64 n,.slice ad rl cap] hx rfl (cell_two_new _ _ _ _) (by intro u hu;simp at hu;rcases hu with rfl|rfl<;>rfl) (by decide) (by unfold maxLen;omega) (by omega) (by simp;omega) (w1.heap.size+1) (by simp) ?_
 intro g cap2 w2 h2 h3 h4 h5
 exact h g cap2 w2 (by rw[ch.Og];exact h2) h3 h4 h5
theorem FU(h:boxC w b p x s y t)(hs:w'.heap[b]? =w.heap[b]?):boxC w' b p x s y t:=by
 have hc:∀{i:Nat} {v:Value},w.cell? ⟨b,i,none⟩=some v->w'.cell? ⟨b,i,none⟩=some v:=fun {i v} hv=>(cOb (w:=w) (a:=⟨b,i,none⟩) hs).trans hv
 refine⟨?_,?_,hc h.told,fun j hj=>?_⟩
 ·obtain⟨v0,v1,v2,v3,v4,v5,v6,v7,v8,v9,v10,v11,v12⟩:=h.plan
  exact⟨hc v0,hc v1,hc v2,hc v3,hc v4,hc v5,hc v6,hc v7,hc v8,hc v9,hc v10,hc v11,hc v12⟩
 ·obtain⟨u0,u1,u2,u3,u4,u5,u6,u7,u8⟩:=h.join
  exact⟨hc u0,hc u1,hc u2,hc u3,hc u4,hc u5,hc u6,hc u7,hc u8⟩
 ·obtain⟨u,hu⟩:=Option.isSome_iff_exists.1 (h.room j hj).1
  exact⟨by rw[hc hu];rfl,(World.frozen?_of_block (w:=w) (a:=⟨b,0+j,none⟩) hs).trans (h.room j hj).2⟩
theorem L2(h:boxC w b p x s y t)(t':Value):boxC (w.setCell ⟨b,22,none⟩ t') b p x s y t':=by
 refine⟨?_,?_,World.cell?_setCell_same _ _ t' h.told,fun j hj=>?_⟩
 ·obtain⟨v0,v1,v2,v3,v4,v5,v6,v7,v8,v9,v10,v11,v12⟩:=h.plan
  exact⟨cell_far v0 (by decide),cell_far v1 (by decide),cell_far v2 (by decide),cell_far v3 (by decide),cell_far v4 (by decide),cell_far v5 (by decide),cell_far v6 (by decide),cell_far v7 (by decide),cell_far v8 (by decide),cell_far v9 (by decide),cell_far v10 (by decide),cell_far v11 (by decide),cell_far v12 (by decide)⟩
 ·obtain⟨u0,u1,u2,u3,u4,u5,u6,u7,u8⟩:=h.join
  exact⟨cell_far u0 (by decide),cell_far u1 (by decide),cell_far u2 (by decide),cell_far u3 (by decide),cell_far u4 (by decide),cell_far u5 (by decide),cell_far u6 (by decide),cell_far u7 (by decide),cell_far u8 (by decide)⟩
 ·exact⟨by
   obtain⟨u,hu⟩:=Option.isSome_iff_exists.1 (h.room j hj).1
   obtain⟨u',hu'⟩:=cell?_setCell_some (p:=⟨b,22,none⟩) (x:=t') hu
   rw[hu'];rfl,by rw[World.frozen?_setCell];exact(h.room j hj).2⟩
def N8(w w':World)(b:Nat)(t:Value):Prop:=Below 0 w w'/\(∀g,g<w.heap.size->g≠b->t.ownBlock≠some g->w'.heap[g]? =w.heap[g]?)/\∀T,bf.An w b T->bf.An w' b T
theorem Mn{T:TypeId}{L:List CO}(h:CG w base v L)(hT:bf.An w b T)(h1:T≠55)(h2:T≠103)(k:Nat)(u:Value):CG (w.setCell ⟨b,k,none⟩ u) base v L:=by
 have hE:Est w base ((⟨v,55,2,L.length,ch.Bc (L.map CO.pair)⟩:Own1)::L.map fun x=>Ce x.rv x.row):=h
 refine Est.mk (by have:=Est.low hE;simpa[World.setCell]using this) (fun z hz=>?_) (Est.two hE)
 have ho:=Est.own hE z hz
 refine bf.A2 ho (fun g hg=>heap_setCell_other _ _ _ _ ?_)
 rcases List.mem_cons.1 hz with rfl|hz
 ·exact bf.tyAt_apart (bf.A7 ho hg) hT h1.symm
 ·obtain⟨c,_,rfl⟩:=List.mem_map.1 hz
  exact bf.tyAt_apart (bf.A7 ho hg) hT h2.symm
theorem Pf(b:Nat)(p:pl.Pln)(x:pl.PA)(s:Jn)(y:JX)(t:Value)(T:TypeId)(ra:Option Addr)(rn rc:Nat)(row:List Cel)(L:List CO)(base:Nat)(w0 w:World)(h:boxC w b p x s y t)(hT:bf.An w b T)(h1:T≠55)(h2:T≠103)(hc:CG w0 base t L)(hb:Bwz w0 w)(hv:AM w w0.heap.size (.slice ra rn rc) row)(hl:L.length<=1000000):
 Calls Tryz.prog 271 #[.pointer (some ⟨b,0,none⟩),.slice ra rn rc] w fun e w'=>e= .returned (.tuple #[])/\∃t',boxC w' b p x s y t'/\CG w' base t' (L++[⟨1,.slice ra rn rc,row⟩])/\N8 w w' b t:=by
 have ht:=h.told
 have hc1:=hc.below hb
 have ho:=hc1.own
 have HB:Hid (boxC w b p x s y t):=h
 have HC:Hid (CG w0 base t L/\Bwz w0 w/\AM w w0.heap.size (.slice ra rn rc) row/\bf.An w b T):=⟨hc,hb,hv,hT⟩
 have hlow:base<=w.heap.size:=Est.low hc1
 have hbl:=h.lt
 have hnt:t.ownBlock≠some b:=fun e=>bf.tyAt_apart (bf.A7 ho e) hT h1.symm rfl
 obtain⟨ln,hln⟩:=nM L.length
 have HLN:Hid ((L.map CO.pair).length=ln):=by show _=_;rw[lMp,hln]
 rw[hln]at ho hl
 clear hc hb hv h hc1
 go_enter func271,ntmps271
 go_wp2_with (at_builtin;refine N7 rfl (.tmp 8) (.tmp 11) rfl base t (L.map CO.pair) 1 ra rn rc w ln HLN.out ho (by omega) hlow rfl rfl ?_;intro g cap2 w2 hx hg hat hgl;have hbk:w2.heap[b]? =w.heap[b]? :=(hg.block b (by simp;omega) (fun e=>hnt e.symm)).trans (Below.heap_alloc _ _ _ hbl);have HB2:Hid (boxC w2 b p x s y t):=FU HB.out hbk;have ht2:=HB2.out.told;have hf2:w2.frozen? ⟨b,22,none⟩=false:=(by have:=(HB2.out.room 22 (by decide)).2;simpa using this))
 refine bodyPost_end (v:=.tuple #[]) (by simp[results,results271,go_sem]) rfl ⟨rfl,.slice (some ⟨g,0,none⟩) (ln+1) cap2,L2 HB2.out _,?_,?_⟩
 ·obtain⟨k1,k2,k3,k4⟩:=HC.out
  exact Mn (CG.add k1 k2 k3 hg (by rw[hln];exact hx) (fun g' e=>by
   have e2:g=g':=by cases e;rfl
   subst e2
   exact hat.imp id (fun e=>by omega))) (bf.AD k4 hbk) h1 h2 _ _
 ·refine⟨⟨hg.os,hg.tape,hg.output,by have:=hg.size;simp[World.setCell]at this⊢;omega,fun k hk=>absurd hk (Nat.not_lt_zero k)⟩,fun g' hl' hb' ht'=>?_,fun T' hT'=>bf.AC (bf.AD hT' hbk) _ _⟩
  rw[heap_setCell_other _ _ _ _ (by exact hb')]
  exact(hg.block g' (by simp;omega) (fun e=>ht' e.symm)).trans (Below.heap_alloc _ _ _ hl')
theorem T4(b:Nat)(p:pl.Pln)(x:pl.PA)(s:Jn)(y:JX)(t:Value)(T:TypeId)(ra sa:Option Addr)(rn rc sn sc:Nat)(row srow:List Cel)(L:List CO)(base:Nat)(w:World)(h:boxC w b p x s y t)(hT:bf.An w b T)(h1:T≠55)(h2:T≠103)(hE:Est w base ((⟨t,55,2,L.length,ch.Bc (L.map CO.pair)⟩:Own1)::Ce (.slice ra rn rc) row::Ce (.slice sa sn sc) srow::L.map fun x=>Ce x.rv x.row))(hl:L.length<=1000000):
 Calls Tryz.prog 269 #[.pointer (some ⟨b,0,none⟩),.slice ra rn rc,.slice sa sn sc] w fun e w'=>e= .returned (.tuple #[])/\∃t',boxC w' b p x s y t'/\CG w' base t' (L++[⟨3,.slice ra rn rc,row⟩,⟨4,.slice sa sn sc,srow⟩])/\N8 w w' b t:=by
 have ht:=h.told
 have ho:w.ownsRow base 55 2 t L.length (ch.Bc (L.map CO.pair)):=Est.own hE _ (List.mem_cons_self ..)
 have HB:Hid (boxC w b p x s y t):=h
 have HE:Hid (Est w base ((⟨t,55,2,L.length,ch.Bc (L.map CO.pair)⟩:Own1)::Ce (.slice ra rn rc) row::Ce (.slice sa sn sc) srow::L.map fun x=>Ce x.rv x.row)/\bf.An w b T):=⟨hE,hT⟩
 have hlow:base<=w.heap.size:=Est.low hE
 have hbl:=h.lt
 have hnt:t.ownBlock≠some b:=fun e=>bf.tyAt_apart (bf.A7 ho e) hT h1.symm rfl
 obtain⟨ln,hln⟩:=nM L.length
 have HLN:Hid ((L.map CO.pair).length=ln):=by show _=_;rw[lMp,hln]
 rw[hln]at ho hl
 clear hE h
 go_enter func269,ntmps269
 go_wp2_with (at_builtin;refine Mm rfl (.tmp 10) (.tmp 15) rfl base t (L.map CO.pair) 3 (.slice ra rn rc) 4 (.slice sa sn sc) w ln HLN.out ho (by omega) hlow rfl rfl rfl rfl ?_;intro g cap2 w2 hx hg hat hgl;have hbk:w2.heap[b]? =w.heap[b]? :=(hg.block b (by simp;omega) (fun e=>hnt e.symm)).trans (Below.heap_alloc _ _ _ hbl);have HB2:Hid (boxC w2 b p x s y t):=FU HB.out hbk;have ht2:=HB2.out.told;have hf2:w2.frozen? ⟨b,22,none⟩=false:=(by have:=(HB2.out.room 22 (by decide)).2;simpa using this))
 refine bodyPost_end (v:=.tuple #[]) (by simp[results,results269,go_sem]) rfl ⟨rfl,.slice (some ⟨g,0,none⟩) (ln+2) cap2,L2 HB2.out _,?_,?_⟩
 ·obtain⟨k1,k4⟩:=HE.out
  exact Mn (CG.add2 (E:=[]) k1 bR hg (by rw[hln];exact hx) (fun g' e=>by
   have e2:g=g':=by cases e;rfl
   subst e2
   exact hat.imp id (fun e=>by omega))) (bf.AD k4 hbk) h1 h2 _ _
 ·refine⟨⟨hg.os,hg.tape,hg.output,by have:=hg.size;simp[World.setCell]at this⊢;omega,fun k hk=>absurd hk (Nat.not_lt_zero k)⟩,fun g' hl' hb' ht'=>?_,fun T' hT'=>bf.AC (bf.AD hT' hbk) _ _⟩
  rw[heap_setCell_other _ _ _ _ (by exact hb')]
  exact(hg.block g' (by simp;omega) (fun e=>ht' e.symm)).trans (Below.heap_alloc _ _ _ hl')
end jn
namespace bt
open Go.ChangeShapes Go.WideShapes Go.ChangeAt Go.RowKit
open vl pl
theorem Mo(a b:List Cel):celCells (a++b)=celCells a++celCells b:=by unfold celCells;rw[List.flatMap_append]
theorem F4(v:Value)(h:v.cells.size=3)(n:Nat):(Builtin.zeroCells v.cells n).size=n * 3:=by
 simp[Builtin.zeroCells,h]
theorem Rx(n:Nat)(w:World)(hn:n<=1000):
 Calls Tryz.prog 277 #[.slice none 0 0,.int .i64 n] w fun e w'=>(∃v,e= .returned v/\AM w' w.heap.size v [])/\Bwz w w':=by
 obtain⟨i0,hi,hz0,hz1,hz2⟩:=info_parts Tryz.infoV
 by_cases h0:n=0
 ·subst h0
  go_enter func277,ntmps277
  go_wp2
  go_ret
  exact⟨⟨_,rfl,World.ownsRow_nil _ _ _ _⟩,bR⟩
 ·have hrz:∀ty,(Builtin.append_ #[41,3] ty #[.slice none 0 0,.int .i64 (n:Int)]).run Tryz.prog w=
   .ok (.slice (some ⟨w.heap.size,0,none⟩) n (grownCap w n 0 103)) (w.drew.alloc (.cells (Builtin.zeroCells (Value.agg #[.int .i64 0,.int .i64 0,.string ⟨#[]⟩]).cells n++Builtin.zeroCells (Value.agg #[.int .i64 0,.int .i64 0,.string ⟨#[]⟩]).cells (grownCap w n 0 103 - n)) 103)):=fun ty=>by
   have h:=Lib.run_append_grow_zeros w 41 3 ty 103 i0 (.agg #[.int .i64 0,.int .i64 0,.string ⟨#[]⟩]) .i64 .i64 underlying41 underlying3 hi hz0 none 0 0 [] (run_firstCells_none w.drew i0.size 0 0 0) n (by omega) (by omega) (by omega) (by omega) (by rw[hz2];omega) (growslice_fits (by omega) (by rw[hz2];omega))
   simpa using h
  have hG1:n<=grownCap w n 0 103:=grownCap_ge w _ _ _
  have hG2:grownCap w n 0 103<=maxLen:=grownCap_le_maxLen w n 0 103 (by unfold maxLen;omega)
  obtain⟨G,hG⟩:∃G,G=grownCap w n 0 103:=⟨_,rfl⟩
  rw[<-hG]at hrz hG1 hG2
  have hsz:(Builtin.zeroCells (Value.agg #[.int .i64 0,.int .i64 0,.string ⟨#[]⟩]).cells n++Builtin.zeroCells (Value.agg #[.int .i64 0,.int .i64 0,.string ⟨#[]⟩]).cells (G - n)).size=G * 3:=by
   rw[Array.size_append,F4 _ rfl,F4 _ rfl];omega
  obtain⟨cur,hcur⟩:∃c,Builtin.zeroCells (Value.agg #[.int .i64 0,.int .i64 0,.string ⟨#[]⟩]).cells n++Builtin.zeroCells (Value.agg #[.int .i64 0,.int .i64 0,.string ⟨#[]⟩]).cells (G - n)=c:=⟨_,rfl⟩
  rw[hcur]at hrz hsz
  have HO:Hid (AM (w.drew.alloc (.cells cur 103)) w.heap.size (.slice (some ⟨w.heap.size,0,none⟩) 0 G) []):=World.ownsRow_made (base:=w.heap.size) (e:=103) (size:=3) w.drew cur G nR hG2 hsz
  have hp:0<(n:Int):=by omega
  unfold maxLen at hG2
  clear hcur hG hi hz0 hz1 hz2
  go_enter func277,ntmps277
  go_wp2_with (at_builtin;refine Lib.wpList_append_run _ rfl _ _ _ _ rfl _ _ rfl rfl _ _ (hrz _) ?_)
  go_ret
  exact⟨⟨_,rfl,HO.out⟩,(bR.drew).alloc nR _⟩
theorem I9(g:Nat)(a1 a2:Option Addr)(c1 c2:Nat)(l1 l2:List Cel)(w:World)(n1:0<l1.length)(n2:0<l2.length)(m1:l1.length<=400)(m2:l2.length<=400)(h1:vl.rowAt w a1 l1)(h2:vl.rowAt w a2 l2)
 (e1:w.cell? ⟨g,0,none⟩=some (.slice a1 l1.length c1)) (e2:w.cell? ⟨g,1,none⟩=some (.slice a2 l2.length c2)):
 Calls Tryz.prog 274 #[.slice (some ⟨g,0,none⟩) 2 2] w fun e w'=>(∃ad cap,e= .returned (.slice ad (l1++l2).length cap)/\AM w' w.heap.size (.slice ad (l1++l2).length cap) (l1++l2))/\Bwz w w':=by
 obtain⟨i0,hi,hz0,hz1,hz2⟩:=info_parts Tryz.infoV
 have HI:Hid (Tryz.prog.info? 103=some i0/\i0.zero=some (.agg #[.int .i64 0,.int .i64 0,.string ⟨#[]⟩])/\i0.size=3/\i0.bytes=32):=⟨hi,hz0,hz1,hz2⟩
 clear hi hz0 hz1 hz2
 obtain⟨b1,o1,rfl,_⟩:=h1 0 n1
 obtain⟨b2,o2,rfl,_⟩:=h2 0 n2
 have HC1:Hid (∀w',Bwz w w'->∀j u,(celCells l1)[j]? =some u->w'.cell? ((⟨b1,o1,none⟩:Addr).add j)=some u):=fun w' hb=>ch.Ed (Ac h1 hb)
 have HC2:Hid (∀w',Bwz w w'->∀j u,(celCells l2)[j]? =some u->w'.cell? ((⟨b2,o2,none⟩:Addr).add j)=some u):=fun w' hb=>ch.Ed (Ac h2 hb)
 have hp1:Hid ((celCells l1).length=l1.length * 3):=Di l1
 have hp2:Hid ((celCells l2).length=l2.length * 3):=Di l2
 clear h1 h2
 obtain⟨k1,hk1⟩:∃n,l1.length=n:=⟨_,rfl⟩
 obtain⟨k2,hk2⟩:∃n,l2.length=n:=⟨_,rfl⟩
 have HK1:Hid (l1.length=k1):=hk1
 have HK2:Hid (l2.length=k2):=hk2
 rw[hk1]at n1 m1 e1 hp1
 rw[hk2]at n2 m2 e2 hp2
 rw[lAp,hk1,hk2]
 clear hk1 hk2
 have HG:Hid (∀w1,Calls Tryz.prog 277 #[.slice none 0 0,.int .i64 ((k1:Int)+k2)] w1 fun e w'=>(∃v,e= .returned v/\AM w' w1.heap.size v [])/\Bwz w1 w'):=fun w1=>by
  have h:=Rx (k1+k2) w1 (by omega)
  rwa[Int.natCast_add]at h
 go_enter func274,ntmps274
 go_wp2
 go_loop [3,11] (fun s i=>(i= .int .i64 0/\s= .int .i64 0)\/(i= .int .i64 1/\s= .int .i64 k1)\/(i= .int .i64 2/\s= .int .i64 ((k1:Int)+k2))) (fun _ i=>2 - (intOf i).toNat)
 case atStart=>exact .inl ⟨rfl,rfl⟩
 case round=>
  rcases hrel with⟨rfl,rfl⟩|⟨rfl,rfl⟩|⟨rfl,rfl⟩
  ·go_wp2
   go_round
   case rel=>exact .inr (.inl ⟨rfl,rfl⟩)
   case measure=>simp[intOf]
  ·go_wp2
   go_round
   case rel=>exact .inr (.inr ⟨rfl,rfl⟩)
   case measure=>simp[intOf]
  ·go_wp2_with fail
   refine(HG.out _).mono ?_
   rintro e w1 ⟨⟨v,rfl,hown⟩,hb1⟩
   have f1:=cLz hb1 e1
   have f2:=cLz hb1 e2
   have HO:Hid (AM w1 w.heap.size v []):=hown
   clear hown
   go_wp2
   go_loopw [6,27] (fun x i wr=> ∃l:List Cel,((i= .int .i64 0/\l=[])\/(i= .int .i64 1/\l=l1)\/(i= .int .i64 2/\l=l1++l2))/\AM wr w.heap.size x l/\Bwz w wr) (fun _ i _=>2 - (intOf i).toNat)
   case atStart=>exact⟨[],.inl ⟨rfl,rfl⟩,HO.out,hb1⟩
   case round=>
    obtain⟨l,hl,hol,hbl⟩:=hrel
    have g1:=cLz hbl e1
    have g2:=cLz hbl e2
    have HOL:Hid (AM wr w.heap.size u6 l):=hol
    have hsz:=hbl.size
    clear hol f1 f2 hb1 HO
    have hl':(u27= .int .i64 0/\[]=l)\/(u27= .int .i64 1/\l1=l)\/(u27= .int .i64 2/\l1++l2=l):=by
     rcases hl with⟨h1,h2⟩|⟨h1,h2⟩|⟨h1,h2⟩
     ·exact .inl ⟨h1,h2.symm⟩
     ·exact .inr (.inl ⟨h1,h2.symm⟩)
     ·exact .inr (.inr ⟨h1,h2.symm⟩)
    clear hl
    rcases hl' with⟨rfl,rfl⟩|⟨rfl,rfl⟩|⟨rfl,rfl⟩
    ·go_wp2_with (at_builtin;refine wpList_append_own _ rfl (.tmp 31) (.tmp 32) 41 rfl w.heap.size 103 i0 (.agg #[.int .i64 0,.int .i64 0,.string ⟨#[]⟩]) 3 32 underlying41 HI.out.1 HI.out.2.1 HI.out.2.2.1 HI.out.2.2.2 rfl (by decide) _ _ _ rfl HOL.out ⟨b1,o1,none⟩ k1 c1 (celCells l1) rfl (by rw[hp1.out]) (HC1.out _ hbl) (ch.DK l1) (by unfold maxLen;(simp only[List.length_nil];omega)) (by(simp only[List.length_nil];omega)) hsz ?_;intro v2 w3 hown3 hgrow3 hnil3)
     have HN:Hid (AM w3 w.heap.size v2 (l1)):=by
      show w3.ownsRow _ _ _ _ (l1).length (celCells l1)
      simpa[HK1.out,celCells]using hown3
     obtain⟨ad,cp,hv,hg⟩:=C1 hown3
     subst hv
     go_roundw
     case rel=>exact⟨l1,.inr (.inl ⟨rfl,rfl⟩),HN.out,hbl.grown hgrow3 hsz (fun b hb=>(World.ownsRow.lt HOL.out b hb).1)⟩
     case measure=>simp[intOf]
    ·go_wp2_with (at_builtin;refine wpList_append_own _ rfl (.tmp 31) (.tmp 32) 41 rfl w.heap.size 103 i0 (.agg #[.int .i64 0,.int .i64 0,.string ⟨#[]⟩]) 3 32 underlying41 HI.out.1 HI.out.2.1 HI.out.2.2.1 HI.out.2.2.2 rfl (by decide) _ _ _ rfl HOL.out ⟨b2,o2,none⟩ k2 c2 (celCells l2) rfl (by rw[hp2.out]) (HC2.out _ hbl) (ch.DK l2) (by unfold maxLen;(rw[HK1.out];omega)) (by(rw[HK1.out];omega)) hsz ?_;intro v2 w3 hown3 hgrow3 hnil3)
     have HN:Hid (AM w3 w.heap.size v2 (l1++l2)):=by
      show w3.ownsRow _ _ _ _ (l1++l2).length (celCells (l1++l2))
      rw[lAp,Mo,HK2.out];exact hown3
     obtain⟨ad,cp,hv,hg⟩:=C1 hown3
     subst hv
     go_roundw
     case rel=>exact⟨l1++l2,.inr (.inr ⟨rfl,rfl⟩),HN.out,hbl.grown hgrow3 hsz (fun b hb=>(World.ownsRow.lt HOL.out b hb).1)⟩
     case measure=>simp[intOf]
    ·obtain⟨ad,cp,hv,hg⟩:=C1 HOL.out
     have hll:(l1++l2).length=k1+k2:=by rw[lAp,HK1.out,HK2.out]
     rw[hll]at hv
     subst hv
     go_wp2
     go_ret
     exact⟨⟨ad,cp,rfl,HOL.out⟩,hbl⟩
end bt
namespace jn
open Go.ChangeShapes Go.WideShapes Go.ChangeAt Go.RowKit
open vl
attribute [local go_sem] Oper.semAt_some
theorem Iu(m s:Int)(w:World):
 Calls Tryz.prog 268 #[.int .i64 m,.int .i64 s] w fun e w'=>e= .returned (.bool (BW m s))/\w'=w:=by
 unfold BW
 by_cases h2:m=2
 ·subst h2
  rw[if_pos rfl]
  go_enter func268,ntmps268
  go_wp2
  go_ret
  exact⟨rfl,rfl⟩
 ·rw[if_neg h2]
  have k2:(m==2)=false:=by simpa using h2
  clear h2
  by_cases h3:m=3
  ·subst h3
   rw[if_pos rfl]
   go_enter func268,ntmps268
   go_wp2
   go_ret
   exact⟨rfl,rfl⟩
  ·rw[if_neg h3]
   have k3:(m==3)=false:=by simpa using h3
   clear h3
   go_enter func268,ntmps268
   go_wp2
   go_ret
   exact⟨rfl,rfl⟩
theorem C0(side:Int)(a1 a2:Option Addr)(c1 c2:Nat)(l1 l2:List Cel)(w:World)(n1:0<l1.length)(n2:0<l2.length)(m1:l1.length<=400)(m2:l2.length<=400)(h1:vl.rowAt w a1 l1)(h2:vl.rowAt w a2 l2):
 Calls Tryz.prog 267 #[.int .i64 side,.slice a1 l1.length c1,.slice a2 l2.length c2] w fun e w'=>(∃ad cap,e= .returned (.slice ad (AO side l1 l2).length cap)/\AM w' w.heap.size (.slice ad (AO side l1 l2).length cap) (AO side l1 l2))/\Bwz w w':=by
 unfold AO
 by_cases h:side=2
 ·have KC:Hid (∀V,Bwz w V->V.cell? ⟨w.heap.size,0,none⟩=some (.slice a2 l2.length c2)->V.cell? ⟨w.heap.size,1,none⟩=some (.slice a1 l1.length c1)->Calls Tryz.prog 274 #[.slice (some ⟨w.heap.size,0,none⟩) 2 2] V fun e w'=>(∃ad cap,e= .returned (.slice ad (l2++l1).length cap)/\AM w' V.heap.size (.slice ad (l2++l1).length cap) (l2++l1))/\Bwz V w'):=fun V hb e1 e2=>bt.I9 w.heap.size a2 a1 c2 c1 l2 l1 V n2 n1 m2 m1 (vl.Ac h2 hb) (vl.Ac h1 hb) e1 e2
  subst h
  rw[if_pos rfl]
  obtain⟨j1,k1⟩:=nM l1.length
  obtain⟨j2,k2⟩:=nM l2.length
  rw[k1,k2]at KC⊢
  obtain⟨q,hq⟩:=nM ((l2++l1).length)
  rw[hq]at KC⊢
  clear h1 h2
  go_enter func267,ntmps267
  go_wp2_with fail
  generalize hV:(World.alloc w _)=V
  have hb0:Bwz w V:=by rw[<-hV];exact bR.alloc nR _
  have hsz:w.heap.size<=V.heap.size:=hb0.size
  have q0:V.cell? ⟨w.heap.size,0,none⟩=some (.slice a2 j2 c2):=by subst hV;go_simp
  have q1:V.cell? ⟨w.heap.size,1,none⟩=some (.slice a1 j1 c1):=by subst hV;go_simp
  clear hV
  refine(KC.out V hb0 q0 q1).mono ?_
  rintro e w1 ⟨⟨ad,cap,rfl,ho⟩,hb1⟩
  go_wp2
  go_ret
  exact⟨⟨ad,cap,rfl,World.ownsRow.mono ho hsz⟩,hb0.trans (hb1.mono hb0.size)⟩
 ·have KC:Hid (∀V,Bwz w V->V.cell? ⟨w.heap.size,0,none⟩=some (.slice a1 l1.length c1)->V.cell? ⟨w.heap.size,1,none⟩=some (.slice a2 l2.length c2)->Calls Tryz.prog 274 #[.slice (some ⟨w.heap.size,0,none⟩) 2 2] V fun e w'=>(∃ad cap,e= .returned (.slice ad (l1++l2).length cap)/\AM w' V.heap.size (.slice ad (l1++l2).length cap) (l1++l2))/\Bwz V w'):=fun V hb e1 e2=>bt.I9 w.heap.size a1 a2 c1 c2 l1 l2 V n1 n2 m1 m2 (vl.Ac h1 hb) (vl.Ac h2 hb) e1 e2
  have h':(side==2)=false:=by simpa using h
  rw[if_neg h]
  obtain⟨j1,k1⟩:=nM l1.length
  obtain⟨j2,k2⟩:=nM l2.length
  rw[k1,k2]at KC⊢
  obtain⟨q,hq⟩:=nM ((l1++l2).length)
  rw[hq]at KC⊢
  clear h1 h2
  go_enter func267,ntmps267
  go_wp2_with fail
  generalize hV:(World.alloc w _)=V
  have hb0:Bwz w V:=by rw[<-hV];exact bR.alloc nR _
  have hsz:w.heap.size<=V.heap.size:=hb0.size
  have q0:V.cell? ⟨w.heap.size,0,none⟩=some (.slice a1 j1 c1):=by subst hV;go_simp
  have q1:V.cell? ⟨w.heap.size,1,none⟩=some (.slice a2 j2 c2):=by subst hV;go_simp
  clear hV
  refine(KC.out V hb0 q0 q1).mono ?_
  rintro e w1 ⟨⟨ad,cap,rfl,ho⟩,hb1⟩
  go_wp2
  go_ret
  exact⟨⟨ad,cap,rfl,World.ownsRow.mono ho hsz⟩,hb0.trans (hb1.mono hb0.size)⟩
end jn
namespace bf
open Go.ChangeShapes Go.WideShapes Go.ChangeAt Go.RowKit
open vl
variable {t : TypeId} {X Y : World} {k : Nat}
def notE:Nat->Obj->Prop:=fun _ o=> ∀c f,o≠ .cells c 63 f
theorem Pg{W:World}{b:Nat}(h:An W b t)(ht:t≠63):names notE W b:=fun o ho c f e=>by
 obtain⟨c',f',h'⟩:=h
 rw[ho]at h'
 rw[e]at h'
 injection h' with e1
 injection e1 with _ e2 _
 exact ht e2.symm
theorem OP.same{w w':World}{base:Nat}{hs:List Hdr}{ess:List (List EM)}{ls:List (List Ent)}(h:OP w base hs ess ls)(hz:w.heap.size<=w'.heap.size)(hb:∀g,An w g 63\/An w g 103->w'.heap[g]? =w.heap[g]?):OP w' base hs ess ls:=
 ⟨Nat.le_trans h.low hz,h.l1,h.l2,fun k hk=>(h.oe k hk).other hz hb,h.two⟩
theorem ty_row{row:Option Nat}(hg:X.grownBy Y row)(hr:∀r,row=some r->∃x:Obj,X.heap[r]? =some x/\x.isCells=false){g:Nat}(h:An X g t):Y.heap[g]? =X.heap[g]? :=
 hg.block g (Ba h) (fun e=>by
  obtain⟨x,h1,h2⟩:=hr g e.symm
  obtain⟨c,f,h3⟩:=h
  rw[h3]at h1;cases h1;cases h2)
theorem CX{α:Type}{l:List α}{d:α}(h:k<l.length):l.drop k=l.getD k d::l.drop (k+1):=by
 rw[List.drop_eq_getElem_cons h,gDe,gEe h];rfl
theorem set_mid{α β:Type}(f:α->β)(A:List α)(k:Nat)(x y:β)(B:List β)(h:k<=A.length):((A.take k).map f++x::B).set k y=(A.take k).map f++y::B:=by
 have hl:((A.take k).map f).length=k:=by rw[lMp,List.length_take];omega
 rw[List.set_append_right _ _ (by omega),hl,Nat.sub_self];rfl
theorem N9{α β:Type}(f:α->β)(l:List α)(k:Nat)(d:α)(h:k<l.length):(l.take (k+1)).map f=(l.take k).map f++[f (l.getD k d)]:=by
 rw[List.take_succ_eq_append_getElem h,List.map_append,gDe,gEe h];rfl
theorem set_self{α:Type}{l:List α}{d:α}(h:k<l.length):l.set k (l.getD k d)=l:=by
 rw[gDe,gEe h]
 exact List.set_getElem_self _
theorem JJ{Pr:Nat->Obj->Prop}(hb:Bwz X Y):Aj Pr X Y:=fun b o h1 _ _=>(hb.block b (Array.getElem?_eq_some_iff.1 h1).1).trans h1
end bf
namespace jn
open Go.ChangeShapes Go.WideShapes Go.ChangeAt Go.RowKit
open vl bf
variable {w w' w0 : World} {b base : Nat} {x : pl.PA} {T : TypeId} {p : pl.Pln} {s : Jn} {y : JX} {t : Value}
structure calmC(T:TypeId):Prop where
 t:calmT T
 c:T≠55
theorem OB.other{x:BX}{b:Buf}(h:OB w base x b)(hs:w.heap.size<=w'.heap.size)(hb:∀g,An w g 63\/An w g 103->w'.heap[g]? =w.heap[g]?)(hh:∀g,An w g 26->w'.heap[g]? =w.heap[g]?):OB w' base x b:=
 ⟨Nat.le_trans h.low hs,h.mem.other hs hb,A2 h.hds (fun g hg=>hh g (A7 h.hds hg)),h.rlen,fun i hi=>(h.runs i hi).other hs hb,h.two⟩
theorem CG.other{v:Value}{L:List CO}(h:CG w base v L)(hs:w.heap.size<=w'.heap.size)(hb:∀g,An w g 55\/An w g 103->w'.heap[g]? =w.heap[g]?):CG w' base v L:=by
 have hE:bt.Est w base ((⟨v,55,2,L.length,ch.Bc (L.map CO.pair)⟩:bt.Own1)::L.map fun x=>Ce x.rv x.row):=h
 refine bt.Est.mk (Nat.le_trans (bt.Est.low hE) hs) (fun z hz=>?_) (bt.Est.two hE)
 have ho:=bt.Est.own hE z hz
 refine A2 ho (fun g hg=>hb g ?_)
 rcases List.mem_cons.1 hz with rfl|hz
 ·exact .inl (A7 ho hg)
 ·obtain⟨c,_,rfl⟩:=List.mem_map.1 hz
  exact .inr (A7 ho hg)
structure JSt(w0 w:World)(b:Nat)(T:TypeId)(p:pl.Pln)(x:pl.PA)(s:Jn)(y:JX)(t:Value)(L:List CO):Prop where
 box:boxC w b p x s y t
 ty:An w b T
 up:w0.heap.size<=b
 l:OB w w0.heap.size y.l s.L
 r:OB w w0.heap.size y.r s.R
 ap:Tm y.l y.r
 cg:CG w w0.heap.size t L
 bl:Bwz w0 w
theorem JSt.below{L:List CO}(h:JSt w0 w b T p x s y t L)(hb:Bwz w w'):JSt w0 w' b T p x s y t L:=
 ⟨h.box.later hb,Af h.ty hb,h.up,h.l.below hb,h.r.below hb,h.ap,h.cg.below hb,h.bl.trans (hb.mono h.bl.size)⟩
theorem Qj{e:TypeId}{L:List CO}(ho:N8 w w' b t)(hT:An w b T)(hc:CG w base t L)(h1:T≠e)(h2:e≠55){g:Nat}(hg:An w g e):w'.heap[g]? =w.heap[g]? :=
 ho.2.1 g (Ba hg) (tyAt_apart hg hT h1.symm) (fun k=>tyAt_apart hg (A7 hc.own k) h2 rfl)
theorem JSt.told{t':Value}{L L':List CO}(h:JSt w0 w b T p x s y t L)(hT:calmC T)(hb:boxC w' b p x s y t')(hc:CG w' w0.heap.size t' L')(ho:N8 w w' b t):JSt w0 w' b T p x s y t' L':=by
 have hty:∀e,T≠e->e≠55->∀g,An w g e->w'.heap[g]? =w.heap[g]? :=fun e h1 h2 g hg=>Qj ho h.ty h.cg h1 h2 hg
 have hE:=hty _ hT.t.e (by decide)
 have hV:=hty _ hT.t.v (by decide)
 have hH:=hty _ hT.t.h (by decide)
 have hbt:An w' b T:=ho.2.2 T h.ty
 exact⟨hb,hbt,h.up,OB.other h.l ho.1.size (fun g hg=>hg.elim (hE g) (hV g)) (hH),OB.other h.r ho.1.size (fun g hg=>hg.elim (hE g) (hV g)) hH,h.ap,hc,⟨ho.1.os.trans h.bl.os,ho.1.tape.trans h.bl.tape,ho.1.output.trans h.bl.output,Nat.le_trans h.bl.size ho.1.size,fun k hk=>(ho.2.1 k (Nat.lt_of_lt_of_le hk h.bl.size) (by have:=h.up;omega) (fun e=>by have:=(AG h.cg.own e).1;omega)).trans (h.bl.block k hk)⟩⟩
end jn
namespace jn
open Go.ChangeShapes Go.WideShapes Go.ChangeAt Go.RowKit Go.Maps Go.WideMaps
open vl bf
variable {w w' : World} {M nn : Nat} {l : List Int} {s : Int}
theorem Wy:Keyed Tryz.prog 3:=int_keyed underlying3
def Db(w:World)(M nn:Nat)(l:List Int):Prop:=∃D:DataW Unit,w.ownsMap Tryz.prog 3 (plainElem (H:=Unit) Tryz.prog 3) M nn D/\∀s,pl.i64 s->D.atKey (.int .i64 s) (.lit (.int .i64 0))= .lit (.int .i64 (l.count s:Nat))
theorem NA(w:World):Db (w.alloc (.map #[] 0)) w.heap.size 0 []:=⟨_,World.ownsMap_made _ _ _ _,fun s hs=>by simp;rfl⟩
theorem Qk(h:Db w M nn l):M<w.heap.size:=by
 obtain⟨D,h1,_⟩:=h
 exact h1.lt
theorem Iv{row:Option Nat}(h:Db w M nn l)(hg:w.grownBy w' row)(hne:some M≠row):Db w' M nn l:=by
 obtain⟨D,h1,h2⟩:=h
 exact⟨D,h1.kept hg hne,h2⟩
theorem L3(h:Db w M nn l)(hs:w'.heap[M]? =w.heap[M]?):Db w' M nn l:=by
 obtain⟨D,⟨es,clock,hb,F,h3,e⟩,h2⟩:=h
 exact⟨D,⟨es,clock,hs.trans hb,F,h3,e⟩,h2⟩
theorem BK(h:Db w M nn l)(hb:Bwz w w'):Db w' M nn l:=L3 h (hb.block M (Qk h))
theorem wfi(hs:pl.i64 s):(Lit.int .i64 s).wf=true:=Jf hs
theorem Dw(h:Db w M nn l)(hs:pl.i64 s):(Instr.lookup 187 (.map (some M)) (.int .i64 s) false).run Tryz.prog w= .ok (.int .i64 (l.count s:Nat)) w:=by
 obtain⟨D,h1,h2⟩:=h
 obtain⟨c,hrun,hat,_⟩:=h1.lookup_int Wy underlying187 underlying3 (Tryz.zeroValue3 w) (keyOf_int_mk underlying3 (wfi hs))
 have hat2:=(h2 s hs).symm.trans hat
 have e:∀a b:Int,(DataW.lit (Lit.int .i64 a):DataW Unit)= .lit (.int .i64 b)->a=b:=fun a b h=>(Lit.int.inj (DataW.lit.inj h)).2
 rw[hrun,e _ _ hat2]
theorem JK(h:Db w M nn l)(hs:pl.i64 s)(hn:nn<maxLen)(hl:l.length<9223372036854775807):
 ∃w',(Instr.mapUpdate 187 (.map (some M)) (.int .i64 s) (.int .i64 ((l.count s:Nat)+1))).run Tryz.prog w= .ok () w'/\Db w' M (nn+1) (l++[s])/\w.grownBy w' (some M):=by
 obtain⟨D,h1,h2⟩:=h
 have hc:=List.count_le_length (a:=s) (l:=l)
 obtain⟨w',hrun,hown,hg⟩:=h1.update Wy underlying187 hn (keyOf_int_mk underlying3 (wfi hs)) (plainElem_int (H:=Unit) (a:=(l.count s:Nat)+1) underlying3 (Jf ⟨by omega,by omega⟩))
 refine⟨w',hrun,⟨_,hown,fun t ht=>?_⟩,hg⟩
 by_cases e:t=s
 ·subst e
  rw[atKey_put_same h1.isMap (Wy.key (keyOf_int_mk underlying3 (wfi hs)))]
  simp[List.count_append]
 ·rw[atKey_put_other (fun k=>e (by injection k)),h2 t ht]
  have:s≠t:=fun k=>e k.symm
  simp[List.count_append,List.count_singleton,this]
theorem Ho(h:Db w M nn l):∃o:Obj,w.heap[M]? =some o/\o.isCells=false:=by
 obtain⟨D,⟨es,clock,hb,_⟩,_⟩:=h
 exact⟨_,hb,rfl⟩
theorem JL(l:List Int)(s:Int):(l++[s]).count s=l.count s+1:=by simp[List.count_append]
end jn
namespace bf
open Go.ChangeShapes Go.WideShapes Go.ChangeAt Go.RowKit
open vl
theorem UW{w:World}{base:Nat}{e:TypeId}{size n cap g:Nat}{xs:List Value}(h:w.ownsRow base e size (.slice (some ⟨g,0,none⟩) n cap) n xs)(j:Nat):w.frozen? ⟨g,j,none⟩=false:=by
 rcases h.2 with⟨e,_⟩|⟨g',cap',cur,hv,hr⟩
 ·cases e
 ·cases hv
  simp[World.frozen?,hr]
theorem T5{W:World}{b o:Nat}{v:Value}(h:W.cell? ⟨b,o,none⟩=some v):W.setCell ⟨b,o,none⟩ v=W:=by
 unfold World.cell? at h
 unfold World.setCell
 dsimp only at h⊢
 cases hb:W.heap[b]? with
 |none=>rw[hb]at h;cases h
 |some x=>
  rw[hb]at h
  cases x with
  |cells c t f=>
   simp only[Option.isSome_none,Bool.false_eq_true,if_false]at h
   have hh:W.heap.modify b (fun x=>match x with
    | .cells c elem frozen=>.cells (if (none:Option Nat).isSome then c else c.setIfInBounds o v) elem frozen
    |o=>o)=W.heap:=by
    refine Array.ext (by simp) (fun i h1 h2=>?_)
    rw[Array.getElem_modify]
    by_cases e:b=i
    ·subst e
     have hx:W.heap[b]= .cells c t f:=by
      have:=Array.getElem?_eq_getElem h2
      rw[hb]at this
      injection this with this
      exact this.symm
     rw[if_pos rfl,hx]
     dsimp only
     have hc:c.setIfInBounds o v=c:=by
      obtain⟨ho,hv⟩:=Array.getElem?_eq_some_iff.1 h
      refine Array.ext (by simp) (fun j k1 k2=>?_)
      rw[Array.getElem_setIfInBounds k2]
      by_cases e2:o=j
      ·subst e2;simp[hv]
      ·simp[e2]
     simp[hc]
    ·rw[if_neg e]
   exact congrArg (fun z:Array Obj=>{W with heap:=z}) hh
  |_=>cases h
end bf
end Go.Proofs.YtdohnkkbkfhphaaGreat
