import Derived.Shelf.SlSortCmp.NoneTotal
import Derived.Test.YtfkihidbnfkbaaaGreatDoorPb16
set_option linter.all false
set_option maxHeartbeats 8000000
set_option maxRecDepth 100000
open Go.ChangeShapes Go.WideShapes Go.ChangeAt Go.RowKit Go.Sort Go.Shelf List
open Inhabited renaming default->ϰ
namespace Go.Proofs.YtfkihidbnfkbaaaGreatDoor
open Go.Proofs.Tryz
namespace bf
open vl
attribute [local go_sem] Oper.semAt_some
end bf
namespace bf
open vl
variable {w w' : ϙ}
def LG(w w':World):Prop:=∃q os,w'=grow (w.drewN q) os
theorem LG.refl(w:ϙ):LG w w:=⟨0,#[],by simp[World.drewN]⟩
theorem LG.drew(h:LG w w'):LG w w'.drew:=by
 obtain⟨q,a,rfl⟩:=h;exact⟨q+1,a,rfl⟩
theorem LG.alloc(h:LG w w')(o:Obj):LG w (w'.alloc o):=by
 obtain⟨q,a,rfl⟩:=h;exact⟨q,a.push o,by simp[grow,World.alloc]⟩
attribute [local go_sem ↓] Go.wp_at_zero Go.wp_at_succ
theorem Qh(e f:EM)(w:ϙ):
 η 272 #[e.val,f.val] w λr w'=>r= .returned (vI (Ge e.ent f.ent))/\LG w w':=by
 have a:ϛ (AG [Lib.compareBytes e.key.data.toList f.key.data.toList,CL e.time f.time,CL e.seq f.seq]=Ge e.ent f.ent):=Jd e.ent f.ent;obtain⟨c,k,i,⟨p,s,u⟩,z⟩:=e;obtain⟨h,m,j,⟨q,t,y⟩,A⟩:=f;rw[<-a.o];clear a;unfold EM.val hdV;dsimp only;go_enter func272,ntmps272;go_wp2
 go_region_held3 (λw'=>ϒ w' w (.string c) (vI k) (vI i) (ϖ w' (w+1) (.string h) (vI m) (vI j))) (go_keep)
  (first
   |(go_at_call 263;refine(IY _ _ _).mono ?_;rintro e w' ⟨rfl,rfl⟩)
   |(go_at_call 283;refine(IX _ _ _).mono ?_;rintro e w' ⟨rfl,rfl⟩)
   |(go_at_call 293;refine(or3 _ (Lib.compareBytes c.data.toList h.data.toList) (CL k m) (CL i j) _ ?_ ?_ ?_).mono ?_;(go_simp);(go_simp);(go_simp);rintro e w' ⟨rfl,rfl⟩))
 all_goals
  go_wp2;go_ret;refine⟨rfl,?_⟩
  repeat (first|exact LG.refl _|apply LG.drew|(refine LG.alloc ?_ _))
theorem AdT(a b:EM):(decide (Ge a.ent b.ent<0))=decide (ltP a.ent b.ent):=decide_eq_decide.2 Rj
theorem XE{α β:Type}(f:α->β):∀{m n:List β},m.Perm n->∀l:List α,n=l.map f->∃l':List α,l'.Perm l/\m=l'.map f:=by
 intro m n h
 induction h with
 |nil=>intro l c;exact⟨l,List.Perm.refl _,c⟩
 |cons x _ ih=>
  intro l c
  cases l with
  |nil=>cases c
  |cons a l=>
   rw[map_cons]at c;injection c with j i
   obtain⟨l',r,e⟩:=ih l i;exact⟨a::l',r.cons a,by rw[map_cons,<-j,e]⟩
 |swap x y _=>
  intro l c
  match l,c with
  |a::b::l,c=>
   rw[map_cons,map_cons]at c;injection c with j i
   injection i with i q
   exact⟨b::a::l,List.Perm.swap ..,by rw[map_cons,map_cons,<-j,<-i,<-q]⟩
 |trans _ _ ih1 ih2=>
  intro l c;obtain⟨s,u,k⟩:=ih2 l c;obtain⟨t,z,p⟩:=ih1 s k;exact⟨t,z.trans u,p⟩
end bf
namespace bf
open vl
variable {w : ϙ} {base cap g n : Nat} {es : List EM} {d : Array EM}
def Kl(e:EM):List Value:=[.string e.key,vI e.time,vI e.seq,hdV e.row,.bool e.met]
theorem Aaj(e:EM):(Kl e).length=5:=rfl
theorem Aak(e:EM):∀v∈Kl e,v.oneCell'=true:=by
 intro v a;unfold Kl hdV at a;simp at a;rcases a with rfl|rfl|rfl|rfl|rfl<;>rfl
theorem Qi(l:List EM)(t:Nat)(h:t<l.length * 5):(A1 l)[t]? =some ((Kl (l.getD (t/5) ϰ))[t % 5]!):=by
 obtain⟨c,f,i,j,k⟩:=Ie l (t/5) ϝ;have m:t % 5=0\/t % 5=1\/t % 5=2\/t % 5=3\/t % 5=4:=ϝ;rcases m with e|e|e|e|e
 ·have a:t=t/5 * 5:=ϝ;rw[e];rw[<-a]at c;exact c
 ·have a:t=t/5 * 5+1:=ϝ;rw[e];rw[<-a]at f;exact f
 ·have a:t=t/5 * 5+2:=ϝ;rw[e];rw[<-a]at i;exact i
 ·have a:t=t/5 * 5+3:=ϝ;rw[e];rw[<-a]at j;exact j
 ·have a:t=t/5 * 5+4:=ϝ;rw[e];rw[<-a]at k;exact k
theorem Ia(l:List EM)(i:Nat)(h:i<l.length):l.toArray[i]! =l.getD i ϰ:=by
 rw[getElem!_pos l.toArray i (by simpa using h),gDe,gEe h];rfl
theorem flat_get(l:List EM)(t:Nat)(h:t<l.length * 5):(A1 l)[t]? =some ((flatK Kl 5 l.toArray)[t]!):=by
 rw[get_flatK _ _ _ _ (by simpa using h),Ia l (t/5) ϝ];exact Qi l t h
theorem XF(h:w.ownsRow base 166 5 (vS (τ g) es.length cap) es.length (A1 es)):HoldsK Kl 5 w g 0 es.toArray:=by
 intro j c;rw[size_flatK]at c;have f:j<es.length * 5:=by simpa using c
 constructor
 ·have:=World.ownsRow.cells h (g:=g) rfl j _ (flat_get es j f);rw[C3]at this;exact this
 ·rcases h.2 with⟨a,_⟩|⟨m,i,k,a,p,e,_⟩
  ·cases a
  ·cases a
   simp[World.frozen?,e]
theorem Qj{os:Array Obj}{b:Nat}(a:b<w.heap.size)(c:b≠g):(sortWorldK Kl 5 w g 0 n d os).heap[b]? =w.heap[b]? :=by
 show((w.heap.modify g _)++os)[b]? =_;rw[Array.getElem?_append_left (by rw[Array.size_modify];exact a),Array.getElem?_modify,if_neg (λe=>c e.symm)]
theorem Vm{os:Array Obj}:w.heap.size<=(sortWorldK Kl 5 w g 0 n d os).heap.size:=by
 show _<=((w.heap.modify g _)++os).size;rw[Array.size_append,Array.size_modify];omega
theorem Aal{os:Array Obj}(a:base<=g)(e:base<=w.heap.size):Below base w (sortWorldK Kl 5 w g 0 n d os):=
 ⟨rfl,rfl,rfl,Vm,λk c=>Qj ϝ ϝ⟩
theorem AdU{d:List EM}{os:Array Obj}(h:w.ownsRow base 166 5 (vS (τ g) es.length cap) es.length (A1 es))(c:d.length=es.length):
 (sortWorldK Kl 5 w g 0 n d.toArray os).ownsRow base 166 5 (vS (τ g) es.length cap) es.length (A1 d):=by
 refine⟨by rw[Kr,c],?_⟩;rcases h.2 with⟨e,_⟩|⟨u,s,a,e,m,j,f,p,i,y⟩
 ·cases e
 ·cases e
  have q:g<w.heap.size:=(Array.getElem?_eq_some_iff.1 j).1;refine .inr ⟨g,cap,putCells id 0 (flatK Kl 5 d.toArray) a,rfl,m,?_,f,p,by simpa[putCells]using i,?_⟩
  ·show((w.heap.modify g _)++os)[g]? =_;rw[Array.getElem?_append_left (by rw[Array.size_modify];exact q),Array.getElem?_modify,if_pos rfl,j];rfl
  ·apply ext_getElem?;intro t;have z:es.length * 5<=a.size:=by rw[i];exact Nat.mul_le_mul_right _ f
   by_cases k:t<es.length * 5
   ·rw[getElem?_take_of_lt k,flat_get d t (by rw[c];exact k)];have r:t<a.size:=ϝ;simp only[putCells,Array.getElem?_toList,Array.getElem?_mapIdx,Array.getElem?_eq_getElem r,Option.map_some];rw[if_pos ⟨Nat.zero_le _,by rw[size_flatK];simp;omega⟩];rfl
   ·rw[getElem?_eq_none (by rw[length_take];omega),getElem?_eq_none (by rw[Kr,c];omega)]
theorem XG{l:List Ent}{d:List EM}{os:Array Obj}(h:OE w base (vS (τ g) es.length cap) es l)(r:d.Perm es):
 ∃l',l'.Perm l/\OE (sortWorldK Kl 5 w g 0 n d.toArray os) base (vS (τ g) es.length cap) d l':=by
 have q:=r.length_eq;have E:es=(es.zip l).map Prod.fst:=(map_fst_zip (by rw[h.len];exact Nat.le_refl _)).symm;have el:(es.zip l).map Prod.snd=l:=map_snd_zip (by rw[h.len];exact Nat.le_refl _);obtain⟨zs,s,m⟩:=XE Prod.fst r (es.zip l) E;refine⟨zs.map Prod.snd,by have:=s.map Prod.snd;rwa[el]at this,⟨Nat.le_trans h.low Vm,?_,?_,λi a=>?_⟩⟩
 ·rw[q];exact AdU h.own q
 ·rw[m,lMp,lMp]
 ·rw[lMp]at a;have H:zs[i]∈es.zip l:=s.mem_iff.1 (getElem_mem a);obtain⟨j,F,f⟩:=getElem_of_mem H;have k:j<l.length:=by rw[length_zip]at F;omega
  have G:j<es.length:=by rw[h.len];exact k
  rw[getElem_zip]at f;have B:d.getD i ϰ=es.getD j ϰ:=by
   rw[m,gDe,getElem?_map,gEe a,<-f,gDe,gEe G];rfl
  have D:(zs.map Prod.snd).getD i ϰ=l.getD j ϰ:=by
   rw[gDe,getElem?_map,gEe a,<-f,gDe,gEe k];rfl
  rw[B,D];obtain⟨t,u,y,z,A,c⟩:=h.rows j k;refine⟨t,u,y,z,A,A4 c (λb p=>Qj (AE c p).2 (λe=>?_))⟩;exact I5 h.own c Ϟ (show(Value.slice (τ g) es.length cap).ownBlock=some b by rw[e];rfl) p
def cfE(a b:EM):Int:=Ge a.ent b.ent
theorem Qk(a b:EM):ltOf cfE a b=decide (ltP a.ent b.ent):=AdT a b
theorem swoE:SWO (ltOf cfE) where
 irrefl x:=by rw[Qk];exact decide_eq_false (Ew _)
 trans x y z h1 h2:=by
  rw[Qk]at *;exact decide_eq_true (DG (of_decide_eq_true h1) (of_decide_eq_true h2))
 ntrans x y z h1 h2:=by
  rw[Qk]at *;have e:=of_decide_eq_false h1;have c:=of_decide_eq_false h2;refine decide_eq_false (λh=>?_);rcases ltP_tri x.ent y.ent with a|a|a
  ·exact e a
  ·exact c (Z0 (MF a) h)
  ·exact c (DG a h)
theorem cmpE(g a size:Nat)(w:ϙ):CmpLays Tryz.prog 272 #[] Kl 5 cfE g a size w:=by
 intro m c dk _ x y;rw[Array.append_empty];exact Qh x y _
theorem AdV{w':ϙ}{a:Nat}{e f:EM}{x y:Ent}(h:OR w base e x)(k:OR w' a f y):ltP e.ent f.ent↔ltP x y:=by
 unfold ltP EM.ent;simp only[h.key,h.time,h.seq,k.key,k.time,k.seq]
theorem Sq(base:Nat)(v:Value)(es:List EM)(l:List Ent)(w:ϙ)(h:OE w base v es l)(M:es.length<=1000000):
 η 351 #[v,.func (.func 272) #[] #[]] w λe w'=>e= .returned (.tuple #[])/\∃es' l',l'.Perm l/\(∀i j,i<j->j<l'.length->¬ltP (l'.getD j ϰ) (l'.getD i ϰ))/\OE w' base v es' l'/\Below base w w'/\(∀b,b<w.heap.size->v.ownBlock≠some b->w'.heap[b]? =w.heap[b]?):=by
 rcases h.own.2 with⟨k,A⟩|⟨g,cap,L,k,B,E,_⟩
 ·subst k;refine(AnyF.slices_SortFunc_none Tryz.sortE none 0 (.func (.func 272) #[] #[]) w).mono ?_;rintro e w' ⟨rfl,rfl⟩;exact⟨rfl,es,l,List.Perm.refl _,λi j r c=>by rw[<-h.len,A]at c;omega,h,bR,λ_ _ _=>rfl⟩
 ·subst k;have F:g<w.heap.size:=(Array.getElem?_eq_some_iff.1 E).1;have y:∀m w,(callFunc 272 m).run Tryz.prog w= .ok (.enter 272 m) w:=enters_of func272 Ϡ rfl;have p:=AnyQ.slices_SortFunc Tryz.sortE 5 Tryz.isAgg166 Tryz.sizeOf166 Kl Aaj Aak cfE swoE 272 #[] g 0 cap es.toArray w y (cmpE g 0 es.toArray.size w) (XF h.own) F Ϣ;rw[size_toArray]at p;refine Calls.mono p ?_;rintro e w' ⟨rfl,a,n,u,t,K,rfl⟩;obtain⟨a,rfl⟩:∃z:List EM,a=z.toArray:=⟨a.toList,ϟ⟩;have q:a.length=es.length:=by have:=t.1;simpa using this
  have J:a.Perm es:=by
   have:=t.2.2;simpa[q,take_of_length_le]using this
  obtain⟨l',pl,f⟩:=XG (n:=n) (os:=u) h J;refine⟨rfl,a,l',pl,λi j r c=>?_,f,Aal B h.low,λb D I=>Qj D (λe=>I (by rw[e];rfl))⟩;have s:j<a.length:=by rw[f.len];exact c
  have:=K i j (Nat.zero_le _) r (by rw[<-q];exact s);rw[Ia a j s,Ia a i ϝ,Qk]at this;have H:=of_decide_eq_false this;exact λG=>H ((AdV (f.rows j c) (f.rows i ϝ)).2 G)
end bf
namespace bf
open vl
attribute [local go_sem] Oper.semAt_some
variable {LB b n : Nat} {W X Y w3 : ϙ} {v : Value} {es : List EM} {l : List Ent} {o : Obj}
def LA(n LB:Nat):Nat->Obj->Prop:=λb o=>b≠LB/\∀c f,o= .cells c 166 f->b<n
theorem XH(h:b<n)(a:n<=LB):names (LA n LB) W b:=λo _=>⟨ϝ,λ_ _ _=>h⟩
theorem Sr{t:TypeId}(h:Ai W b t)(p:t≠166)(k:b≠LB):names (LA n LB) W b:=λo m=>⟨k,λc f e=>by
 obtain⟨q,r,a⟩:=h;rw[m]at a;rw[e]at a;injection a with i
 injection i with _ j _
 exact absurd j.symm p⟩
structure Mk(X:World)(n LB:Nat)(v:Value)(es:List EM)(l:List Ent):Prop where
 oe:OE X n v es l
 c:Δ X LB 0 v
 f:Ξ X LB 0
 ty:Ai X LB 33
theorem Mk.below(h:Mk X n LB v es l)(a:Ϝ X Y):Mk Y n LB v es l:=
 ⟨h.oe.below a,cLz a h.c,(a.frozen (p:=⟨LB,0,none⟩) (A2 h.ty)).trans h.f,Ad h.ty a⟩
theorem Mk.row{q:Option Nat}(h:Mk X n LB v es l)(k:X.grownBy Y q)(y:∀r,q=some r->∃x:Obj,X.heap[r]? =some x/\x.isCells=false):Mk Y n LB v es l:=by
 have m:∀(b:Nat) (c:Array Value) (t:TypeId) (f:Nat×Nat),X.heap[b]? =some (.cells c t f)->Y.heap[b]? =X.heap[b]? :=λb c t f j=>k.block b (Array.getElem?_eq_some_iff.1 j).1 (λe=>by
  obtain⟨x,i,s⟩:=y b e.symm;rw[j]at i;cases i;cases s)
 obtain⟨A,D,z⟩:=h.ty;have e:=m _ _ _ _ z;exact⟨h.oe.same k.size (λg B t u _=>m _ _ _ _ u),(cOb (a:=⟨LB,0,none⟩) e).trans h.c,(AF (p:=⟨LB,0,none⟩) e).trans h.f,A0 h.ty e⟩
theorem LR{w4:ϙ}{e:EM}{y:Ent}{g c4:Nat}(h:Mk X n LB v es l)(i:Ϝ X w3)(P:OR w3 n e y)(K:n<=LB)
 (O:w4.ownsRow n 166 5 (vS (τ g) (es.length+1) c4) (es.length+1) (A1 es++[.string e.key,vI e.time,vI e.seq,hdV e.row,.bool e.met])) (t:(w3.alloc o).grownBy w4 v.ownBlock) (B:Nat):
 Mk (φ w4 LB 0 (vS (τ g) (es.length+1) c4)) n LB (vS (τ g) (es.length+1) c4) (es++[e]) (l++[y])/\Below n X (φ w4 LB 0 (vS (τ g) (es.length+1) c4))/\
 Aq (LA n LB) X (φ w4 LB 0 (vS (τ g) (es.length+1) c4))/\KeepsFrom B X (φ w4 LB 0 (vS (τ g) (es.length+1) c4)):=by
 have c:=h.below i;have I:=LW h.oe i P O t;have M:=A2 c.ty;have s:∀b,b<w3.heap.size->v.ownBlock≠some b->w4.heap[b]? =w3.heap[b]? :=λb j N=>by
  rw[t.block b Ϣ (λe=>N e.symm)];exact Below.heap_alloc _ _ b j
 have q:w4.heap[LB]? =w3.heap[LB]? :=s LB M (λe=>tyAt_apart (Av c.oe.own e) c.ty Ϟ rfl);have z:Ai w4 LB 33:=A0 c.ty q;have J:=(cOb (a:=⟨LB,0,none⟩) q).trans c.c;have S:=(AF (p:=⟨LB,0,none⟩) q).trans c.f;have E:∀b u,b≠LB->(w4.setCell ⟨LB,0,none⟩ u).heap[b]? =w4.heap[b]? :=λb u j=>heap_setCell_other _ _ _ _ j;refine⟨⟨I.1.other (by simp[World.setCell]) (λb j=>E b _ (by rcases j with k|k;exact tyAt_apart k z Ϟ;exact tyAt_apart k z Ϟ)),World.cell?_setCell_same _ _ _ J,ϡ,A6 z _ _⟩,I.2.setCell K _,λb ob f r G=>?_,?_⟩
 ·have H:b<X.heap.size:=(Array.getElem?_eq_some_iff.1 f).1;have D:=i.block b H;rw[E b _ G.1,s b (Nat.lt_of_lt_of_le H i.size) (λe=>?_),D]
  ·exact f
  ·obtain⟨A,F,k⟩:=Av c.oe.own e;rw[D,f]at k;injection k with k
   have:=G.2 A F k;have:=(AE c.oe.own e).1;omega
 ·have Q:KeepsFrom B X w3:=BH i;have R:KeepsFrom B w3 w4:=⟨by have:=t.size;simp at this;omega,λk ob T f r=>by
   have L:k<w3.heap.size:=(Array.getElem?_eq_some_iff.1 f).1;rw[s k L (λe=>?_)]
   ·exact f
   ·obtain⟨A,F,m⟩:=Av c.oe.own e;rw[f]at m;injection m with m
    rw[m]at r
    cases r⟩
  exact(Q.trans R).trans ((KeepsOthers.setCell _ _ _).from _)
theorem TZ{w4:ϙ}(h:Mk X n LB v es l)(i:Ϝ X w3)(j:(w3.alloc o).grownBy w4 v.ownBlock):Δ w4 LB 0 v/\Ξ w4 LB 0:=by
 have c:=h.below i;have k:=A2 c.ty;have f:w4.heap[LB]? =w3.heap[LB]? :=by
  rw[j.block LB Ϣ (λe=>tyAt_apart (Av c.oe.own e.symm) c.ty Ϟ rfl)];exact Below.heap_alloc _ _ LB k
 exact⟨(cOb (a:=⟨LB,0,none⟩) f).trans c.c,(AF (p:=⟨LB,0,none⟩) f).trans c.f⟩
theorem Ed{F:Fence}{f:Array Oper}{o:Oper}{a:Act}{K:Act->World->Prop}{Q:Exit->Act->World->Prop}{E:Prop}{w w':ϙ}{j i:Value}(s x:Operand)(t:TypeId)(e:o.op=Op.call {callee:=Callee.builtin Builtin.append,args:=#[s,x],argTypes:=#[t,t]})
 (p:a.eval s=v) (r:a.eval x=j) (q:Region.wanted o (yielded f a.tmps)=true) (m:(Builtin.append_ #[t,t] o.type #[v,j]).run Tryz.prog w= .ok i w') (h:K (a.put o.dst i) w'):
 if Region.wanted o (yielded f a.tmps)=true then Oper.wpIn F n Tryz.prog o a w K Q else E:=by
 rw[if_pos q];unfold Oper.wpIn;refine⟨?_,?_⟩
 ·simp[Oper.about,e,resolve,Target.leads,Sem.run_pure]
 ·rw[Oper.semAt_plain F _ _ (by rw[e];intro c k;cases k)];simp[execOp,e,resolve,invoke,builtin,p,r,m,Result.andThen];exact h
theorem OW(J:FuncId)(eg:∀a0 w,(callFunc J a0).run Tryz.prog w= .ok (.enter J a0) w)(N:Array Value)(P:Ent->Bool)(b:Buf)(x:BX)(w:ϙ)(h:bufAt w b x)(hs:(Ac b).length<=100000)(az:∀y∈Ac b,y.row.length<=1000000)
 (H:∀e y M,ER M e y->y∈Ac b->Ϝ w M->Calls Tryz.prog J (#[e.val]++N) M (θ M (.bool (P y)))):
 η 376 #[AZ b x,.func (.func J) #[] N] w λe w'=>(∃(hh:Hdr) (es':List EM) (l':List Ent),e= .returned (hdV hh)/\l'.Perm ((Ac b).filter P)/\(∀i j,i<j->j<l'.length->¬ltP (l'.getD j ϰ) (l'.getD i ϰ))/\OE w' w (hdV hh) es' l')/\Ϝ w w':=by
 obtain⟨i0,a1,a4,a5,a6⟩:=info_parts VD;have HI:ϛ (Tryz.prog.info? 166=some i0/\i0.zero=some (.agg #[ϊ,ω,ω,ψ,ϋ])/\i0.size=5/\i0.bytes=64):=⟨a1,a4,a5,a6⟩;clear a1 a4 a5 a6;have HB:=hqz h;have ai:ϛ (ERs w (ems (x.m::x.rs)) (Ac b)):=D8 h;obtain⟨L,hL⟩:=nM (Ac b);rw[hL]at ai hs az H⊢;have HH:ϛ (∀e y M,ER M e y->y∈L->Ϝ w M->CT J (#[e.val]++N) M (θ M (.bool (P y)))):=H;have ao:ϛ ((∀y∈L,y.row.length<=1000000)/\L.length<=100000):=⟨az,hs⟩;clear hL h H az hs;obtain⟨G,I,⟨⟨q,s,A⟩,ml⟩,Q⟩:=x;obtain⟨F,bp,bq⟩:=b;unfold AZ;dsimp only at ai⊢;rw[show hdV (q,s,A)=vS q s A from rfl];obtain⟨n,hn⟩:∃n,Q.length=n:=⟨_,rfl⟩;have HN:=hqz hn;rw[hn];clear hn;refine(callsIn_wide (n:=0)).1 ?_;refine callsIn_of_wp_marks func376 rfl trivial ?_ rfl;simp only[ntmps376,size_toArray,length_cons,length_nil,Nat.reduceAdd,Nat.reduceSub,Array.replicate_succ,Array.replicate_zero,push_toArray,append_toArray,nil_append,cons_append]
 gi_wp2_with (refine⟨trivial,rfl,?_⟩;gi_at_call 237;refine(callsIn_wide.2 (Ir _ _ _ rfl rfl rfl _)).mono ?_;rintro e w' ⟨rfl,rfl⟩)
 have V0:Δ (ξ (ξ (ξ (ξ w (ν F q s A G n I) 36) #[.func (.func J) #[] N] 247) #[ψ] 33) (ν F q s A G n I) 36) (w+1) 0 (.func (.func J) #[] N):=ϡ;have V3:Δ (ξ (ξ (ξ (ξ w (ν F q s A G n I) 36) #[.func (.func J) #[] N] 247) #[ψ] 33) (ν F q s A G n I) 36) (w+1+1) 0 (vS none 0 0):=ϡ;have V4:Ξ (ξ (ξ (ξ (ξ w (ν F q s A G n I) 36) #[.func (.func J) #[] N] 247) #[ψ] 33) (ν F q s A G n I) 36) (w+1+1) 0:=ϡ;have V5:Δ (ξ (ξ (ξ (ξ w (ν F q s A G n I) 36) #[.func (.func J) #[] N] 247) #[ψ] 33) (ν F q s A G n I) 36) (w+1+1+1) 0 (vI F):=ϡ;have V6:Δ (ξ (ξ (ξ (ξ w (ν F q s A G n I) 36) #[.func (.func J) #[] N] 247) #[ψ] 33) (ν F q s A G n I) 36) (w+1+1+1) 1 (vS q s A):=ϡ;have V7:Δ (ξ (ξ (ξ (ξ w (ν F q s A G n I) 36) #[.func (.func J) #[] N] 247) #[ψ] 33) (ν F q s A G n I) 36) (w+1+1+1) 2 (vS G n I):=ϡ;have V8:Ϝ w (ξ (ξ (ξ (ξ w (ν F q s A G n I) 36) #[.func (.func J) #[] N] 247) #[ψ] 33) (ν F q s A G n I) 36):=by
  repeat (first|exact bR|(refine Below.alloc ?_ Ϥ _))
 have V9:((((w.alloc (.cells (ν F q s A G n I) 36)).alloc (.cells #[.func (.func J) #[] N] 247)).alloc (.cells #[ψ] 33)).alloc (.cells (ν F q s A G n I) 36)).heap.size=w.heap.size+1+1+1+1:=ϟ;have T1:Ai (ξ (ξ (ξ (ξ w (ν F q s A G n I) 36) #[.func (.func J) #[] N] 247) #[ψ] 33) (ν F q s A G n I) 36) (w.heap.size+1) 247:=Ad (Ad ⟨_,_,(by have h:=World.alloc_heap_new (ξ w (ν F q s A G n I) 36) (.cells #[.func (.func J) #[] N] 247);rw[World.size_alloc]at h;exact h)⟩ Ϩ) Ϩ;have T2:Ai (ξ (ξ (ξ (ξ w (ν F q s A G n I) 36) #[.func (.func J) #[] N] 247) #[ψ] 33) (ν F q s A G n I) 36) (w.heap.size+1+1) 33:=Ad ⟨_,_,(by have h:=World.alloc_heap_new (ξ (ξ w (ν F q s A G n I) 36) #[.func (.func J) #[] N] 247) (.cells #[ψ] 33);rw[World.size_alloc,World.size_alloc]at h;exact h)⟩ Ϩ;have T3:Ai (ξ (ξ (ξ (ξ w (ν F q s A G n I) 36) #[.func (.func J) #[] N] 247) #[ψ] 33) (ν F q s A G n I) 36) (w.heap.size+1+1+1) 36:=⟨_,_,(by have h:=World.alloc_heap_new (ξ (ξ (ξ w (ν F q s A G n I) 36) #[.func (.func J) #[] N] 247) #[ψ] 33) (.cells (ν F q s A G n I) 36);rw[World.size_alloc,World.size_alloc,World.size_alloc]at h;exact h)⟩;generalize ((((w.alloc (.cells (ν F q s A G n I) 36)).alloc (.cells #[.func (.func J) #[] N] 247)).alloc (.cells #[ψ] 33)).alloc (.cells (ν F q s A G n I) 36))=V at *;have N1:names (LA w.heap.size (w.heap.size+1+1)) V (w.heap.size+1):=Sr T1 Ϟ ϝ;have N3:names (LA w.heap.size (w.heap.size+1+1)) V (w.heap.size+1+1+1):=Sr T3 Ϟ ϝ;have aw:=Gs HB.o V8 (w.heap.size+1+1+1) (LA w.heap.size (w.heap.size+1+1)) V5 V6 (by rw[HN.o];exact V7) N3 (λk hk=>XH hk ϝ) (λk c f hk=>⟨ϝ,λc' f' e=>by injection e with _ e2 _;exact absurd e2 Ϟ⟩) (λk c f hk=>⟨ϝ,λc' f' e=>by injection e with _ e2 _;exact absurd e2 Ϟ⟩);have a9:ϛ (Mk V w.heap.size (w.heap.size+1+1) (vS none 0 0) [] []):=⟨E4 ϝ,V3,V4,T2⟩
 clear V3 V4 V5 V6 V7 T1 T2 T3;dsimp only at aw;obtain⟨E,hE⟩:=nM (ems ((((q,s,A):Hdr),ml)::Q));rw[hE]at aw ai;clear hE;refine Db (gf:=276) (lb:=#[.pointer (some ⟨w+1+1+1,0,none⟩)]) rfl (enters_of func276 Ϡ rfl) aw bR (λx hx=>by obtain⟨p,_,rfl⟩:=mem_map.1 hx;rfl) (λh k=>Aq.trans h k) (λW l o o' _ h ho=>Aq.put W l o o' h ho)
  (λi X=>(∃(v:Hdr) (es':List EM),Mk X w.heap.size (w.heap.size+1+1) (hdV v) es' ((L.take i).filter P))/\Aq (LA w.heap.size (w.heap.size+1+1)) V X/\Ϝ w X) (λc X=>False)
  (λi X X' a8 hs hg hr=>by
   obtain⟨⟨v,es',O⟩,h2,h3⟩:=hs;exact⟨⟨v,es',O.row hg (λr e=>(hr r e).2)⟩,h2.grown hg (λr e=>(hr r e).2),CU h3 nR ϝ hg hr⟩)
  (λc X X' a8 hs hg hr=>hs)
  ⟨⟨(none,0,0),[],a9.o⟩,Aq.refl _ _,V8⟩
  (λi a' X=> ∃B,a'={tmps:=#[.agg #[vI F,vS q s A,vS G n I],.func (.func J) #[] N,.pointer (some ⟨w,0,none⟩),.pointer (some ⟨w+1,0,none⟩),vS none 0 0,.pointer (some ⟨w+1+1,0,none⟩),.pointer (some ⟨B,0,none⟩),.agg #[vI F,vS q s A,vS G n I],.func (.func 276) #[] #[.pointer (some ⟨w+1+1+1,0,none⟩)],(E.getD i ϰ).val,undef,undef,undef,undef,undef,undef,undef,undef,undef,undef,undef],defers:=[]}/\ώ X B (.string (E.getD i ϰ).key) (vI (E.getD i ϰ).time) (vI (E.getD i ϰ).seq) (hdV (E.getD i ϰ).row) (.bool (E.getD i ϰ).met))
  (λi a' u X X' a8 hs hg hr=>by
   obtain⟨B,h1,h2,h3,h4,h5,h6⟩:=hs;exact⟨B,h1,cell_kept h2 hg (λr e=>(hr r e).2),cell_kept h3 hg (λr e=>(hr r e).2),cell_kept h4 hg (λr e=>(hr r e).2),cell_kept h5 hg (λr e=>(hr r e).2),cell_kept h6 hg (λr e=>(hr r e).2)⟩) ?assign ?body ?done ?stop
 case assign=>
  intro l' k x X K hx hi m;obtain⟨hk,a2⟩:=List.getElem?_eq_some_iff.1 hx;rw[lMp]at hk;rw[getElem_map]at a2;subst a2;have hd:E.getD k ϰ=E[k]:=by rw[gDe,gEe hk];rfl
  have ah:=m;rw[hd]at ah;clear m hd hx;obtain⟨⟨ek,et,es,⟨r1,r2,r3⟩,em⟩,hz⟩:∃z,E[k]=z:=⟨_,rfl⟩;rw[hz]at ah⊢;unfold EM.val hdV at ah⊢;dsimp only at ah⊢;obtain⟨⟨v,es',O⟩,j2,Z⟩:=hi
  gi_wp2
  exact ah _ _ ((KeepsOthers.alloc _ _).from _) (Aq.alloc _ _) ⟨⟨v,es',O.below Ϩ⟩,j2.trans (Aq.alloc _ _),Z.alloc Z.size _⟩ ⟨X.heap.size,rfl,ϡ,ϡ,ϡ,ϡ,ϡ⟩
 case body=>
  intro l' i x a' X hx bk bn bd aq;obtain⟨⟨⟨v1,v2,v3⟩,es',O⟩,j2,Z⟩:=bd;obtain⟨B,aq,b0,b1,b2,b3,b4⟩:=aq;subst aq;obtain⟨hi,_⟩:=List.getElem?_eq_some_iff.1 hx;rw[lMp]at hi;have bc:=ai.o.1;have av:i<L.length:=ϝ;have am:=ai.o.2 i av;have ax:L.getD i ϰ∈L:=Bj av;have KK:ϛ (∀M,Ϝ X M->CT J (#[(E.getD i ϰ).val]++N) M (θ M (.bool (P (L.getD i ϰ))))):=λM hb=>HH.o _ _ M (am.below (bT Z hb)) ax (bT Z hb);have KF:ϛ (∀M,Ϝ X M->CT 295 #[(E.getD i ϰ).val] M λr w'=>(∃ad c,r= .returned ((E.getD i ϰ).to (ad,(L.getD i ϰ).row.length,c)).val/\AA w' M (vS ad (L.getD i ϰ).row.length c) (L.getD i ϰ).row)/\Ϝ M w'):=λM hb=>FX _ _ M (am.below (bT Z hb)) (ao.o.1 _ ax);have HF:ϛ ((L.take (i+1)).filter P=(L.take i).filter P++(if P (L.getD i ϰ)=true then [L.getD i ϰ]else [])):=L9 av;have T:=hqz am;have HM:=hqz O;have ar:es'.length<=100000:=by
   have h1:=O.oe.len;have h2:=length_filter_le P (L.take i);have h3:=ao.o.2;rw[length_take]at h2;omega
  have bg:v2=es'.length:=by
   obtain⟨ad,cp,hf⟩:=O.oe.form;unfold hdV at hf;injection hf with _ e2 _
  obtain⟨yy,a3⟩:=nM (L.getD i ϰ);rw[a3]at KK KF HF T;obtain⟨⟨ek,et,ag,⟨r1,r2,r3⟩,em⟩,hz⟩:∃z,E.getD i ϰ=z:=⟨_,rfl⟩;rw[hz]at KK KF b0 b1 b2 b3 b4 T⊢;unfold EM.val EM.to hdV at KF;unfold EM.val hdV at KK;unfold hdV at b3;dsimp only at KK KF b0 b1 b2 b3 b4;have c0:=j2.cell N1 V0;have cL:Δ X (w+1+1) 0 (vS v1 v2 v3):=O.c;have lL:=A2 O.ty;have lB:B<X.heap.size:=bLt _ _ b0;have bm:Tryz.prog.follows .mixedOrders=true:=Ϡ;have HJ:ϛ (Aq (LA w.heap.size (w.heap.size+1+1)) V X):=j2;clear hz a3 hx O am ax bc j2;obtain⟨rl,ay⟩:=nM yy.row.length;have al:=hqz ay;rw[ay]at KF;clear ay
  cases hp:P yy with
  |false=>
   rw[hp]at KK HF
   gi_wp2_with (refine⟨trivial,rfl,?_⟩;refine(CallsIn.inRound l' (callsIn_wide.2 (KK.o _ bR))).mono ?_;rintro e w2 ⟨rfl,ac⟩)
   exact⟨BH ac,λk ob h1 _ _=>(ac.block k (Array.getElem?_eq_some_iff.1 h1).1).trans h1,⟨(v1,v2,v3),es',by rw[HF.o];simpa using HM.o.below ac⟩,HJ.o.trans (λk ob h1 _ _=>(ac.block k (Array.getElem?_eq_some_iff.1 h1).1).trans h1),bT Z ac⟩
  |true=>
   rw[hp]at KK HF;subst bg;obtain⟨en,au⟩:=nM es'.length;have R:=hqz au;rw[au]at ar cL;clear au
   gi_wp2_with (refine⟨trivial,rfl,?_⟩;refine(CallsIn.inRound l' (callsIn_wide.2 (KK.o _ bR))).mono ?_;rintro e w2 ⟨rfl,ac⟩;have d0:=cLz ac b0;have d1:=cLz ac b1;have d2:=cLz ac b2;have d3:=cLz ac b3;have d4:=cLz ac b4;have dL:=cLz ac cL)
   have ae:Ϝ X w2:=ac;have an:ϛ (∀w3 aa c3,Ϝ X w3->∃g S w4,(Builtin.append_ #[33,33] 33 #[vS v1 en v3,vS (τ w3) 1 1]).run Tryz.prog (ξ w3 (ζ ek et ag aa rl c3 em) 166)= .ok (vS (τ g) (en+1) S) w4/\
    w4.ownsRow w 166 5 (vS (τ g) (en+1) S) (en+1) (A1 es'++[.string ek,vI et,vI ag,vS aa rl c3,.bool em])/\(w3.alloc (.cells (ζ ek et ag aa rl c3 em) 166)).grownBy w4 (Value.slice v1 en v3).ownBlock):=λw3 aa c3 hb=>by
    have ho:=own_below HM.o.oe.own hb;unfold hdV at ho;rw[R.o]at ho;have bo:=Nat.le_trans Z.size hb.size;obtain⟨v4,w4,q1,q2,q3,_⟩:=run_append_own (P:=Tryz.prog) (ξ w3 (ζ ek et ag aa rl c3 em) 166) w.heap.size 33 33 166 i0 (.agg #[ϊ,ω,ω,ψ,ϋ]) 5 64 underlying33 HI.o.1 HI.o.2.1 HI.o.2.2.1 HI.o.2.2.2 rfl Ϟ _ en _ (World.ownsRow.alloc ho _) ⟨w3,0,none⟩ 1 1 [.string ek,vI et,vI ag,vS aa rl c3,.bool em] rfl (EA _ _ _ _ _ _ _) (by intro u hu;simp at hu;rcases hu with rfl|rfl|rfl|rfl|rfl<;>rfl) ϧ ϝ Ϣ;obtain⟨g,S,bh⟩:=Nu q2;subst bh;exact⟨g,S,w4,q1,q2,q3⟩
   refine wpIn_region_any (by assumption) ?_
   try (change wpAnyIn _ _ _ _ _ _ _ _ _ (World.drew _))
   refine wpAnyIn_ready (rs:=[0,1]) Ϡ ϟ ?_;refine AllReadyIn.cons rfl (λK m=>?_) ?_
   ·skip;go_simp;refine m _ _ ?_;clear m K;refine wpAnyIn_ready (rs:=[1]) Ϡ ϟ ?_;refine AllReadyIn.cons rfl (λK m=>?_) ?_
    ·skip;go_simp;refine m _ _ ?_;clear m K;refine wpAnyIn_ready (rs:=[2]) Ϡ ϟ ?_;refine AllReadyIn.cons rfl (λK m=>?_) ?_
     ·skip;go_simp
      gi_wp2_with (refine⟨trivial,rfl,?_⟩;gi_at_call 295;refine(CallsIn.inRound l' (callsIn_wide.2 (KF.o _ ae.drew))).mono ?_;rintro e w3 ⟨⟨aa,c3,rfl,aj⟩,ak⟩;have U:Ϝ X w3:=ae.drew.trans (ak.mono ae.size);have fL:=cLz U cL;have a7:=Nat.lt_of_lt_of_le lL U.size;obtain⟨g4,S,w4,q1,q2,q3⟩:=an.o w3 aa c3 U;have ab:=TZ HM.o U (by unfold hdV;dsimp only;rw[R.o];exact q3);unfold hdV at ab;dsimp only at ab;rw[R.o]at ab;obtain⟨m4,mf⟩:=ab)
      try (refine m _ _ ?_;clear m K)
      refine wpAnyIn_ready (rs:=[3]) Ϡ ϟ ?_;refine AllReadyIn.cons rfl (λK m=>?_) ?_
      ·skip;go_simp;refine m _ _ ?_;clear m K;refine wpAnyIn_ready (rs:=[4]) Ϡ ϟ ?_;refine AllReadyIn.cons rfl (λK m=>?_) ?_
       ·skip;refine Ed (.tmp 13) (.tmp 16) 33 rfl rfl rfl rfl q1 ?_;refine m _ _ ?_;clear m K;refine wpAnyIn_ready (rs:=[5]) Ϡ ϟ ?_;refine AllReadyIn.cons rfl (λK m=>?_) ?_
        ·skip;go_simp;refine m _ _ ?_;clear m K;refine wpAnyIn_done Ϡ ?_ _
         gi_wp2
         have af:=LR (e:=⟨ek,et,ag,(aa,rl,c3),em⟩) (y:=yy) (g:=g4) (c4:=S) HM.o U ⟨T.o.key,T.o.time,T.o.seq,T.o.met,al.o.symm,by unfold hdV;dsimp only;exact Di aj (by have:=ae.size;have:=Z.size;show w.heap.size<=w2.heap.size;omega)⟩ ϝ (by rw[R.o];exact q2) (by unfold hdV;dsimp only;rw[R.o];exact q3) V.heap.size;rw[R.o]at af;obtain⟨s1,s2,s3,s4⟩:=af;exact⟨s4,s3,⟨(some ⟨g4,0,none⟩,en+1,S),_,by rw[HF.o,if_pos ϥ];exact s1⟩,HJ.o.trans s3,Z.trans s2⟩
        exact AllReadyIn.nil
       exact AllReadyIn.nil
      exact AllReadyIn.nil
     exact AllReadyIn.nil
    exact AllReadyIn.nil
   refine AllReadyIn.cons rfl (λK m=>?_) ?_
   ·skip;go_simp;refine m _ _ ?_;clear m K;refine wpAnyIn_ready (rs:=[0,2]) Ϡ ϟ ?_;refine AllReadyIn.cons rfl (λK m=>?_) ?_
    ·skip;go_simp;refine m _ _ ?_;clear m K;refine wpAnyIn_ready (rs:=[2]) Ϡ ϟ ?_;refine AllReadyIn.cons rfl (λK m=>?_) ?_
     ·skip;go_simp
      gi_wp2_with (refine⟨trivial,rfl,?_⟩;gi_at_call 295;refine(CallsIn.inRound l' (callsIn_wide.2 (KF.o _ ae.drew))).mono ?_;rintro e w3 ⟨⟨aa,c3,rfl,aj⟩,ak⟩;have U:Ϝ X w3:=ae.drew.trans (ak.mono ae.size);have fL:=cLz U cL;have a7:=Nat.lt_of_lt_of_le lL U.size;obtain⟨g4,S,w4,q1,q2,q3⟩:=an.o w3 aa c3 U;have ab:=TZ HM.o U (by unfold hdV;dsimp only;rw[R.o];exact q3);unfold hdV at ab;dsimp only at ab;rw[R.o]at ab;obtain⟨m4,mf⟩:=ab)
      try (refine m _ _ ?_;clear m K)
      refine wpAnyIn_ready (rs:=[3]) Ϡ ϟ ?_;refine AllReadyIn.cons rfl (λK m=>?_) ?_
      ·skip;go_simp;refine m _ _ ?_;clear m K;refine wpAnyIn_ready (rs:=[4]) Ϡ ϟ ?_;refine AllReadyIn.cons rfl (λK m=>?_) ?_
       ·skip;refine Ed (.tmp 13) (.tmp 16) 33 rfl rfl rfl rfl q1 ?_;refine m _ _ ?_;clear m K;refine wpAnyIn_ready (rs:=[5]) Ϡ ϟ ?_;refine AllReadyIn.cons rfl (λK m=>?_) ?_
        ·skip;go_simp;refine m _ _ ?_;clear m K;refine wpAnyIn_done Ϡ ?_ _
         gi_wp2
         have af:=LR (e:=⟨ek,et,ag,(aa,rl,c3),em⟩) (y:=yy) (g:=g4) (c4:=S) HM.o U ⟨T.o.key,T.o.time,T.o.seq,T.o.met,al.o.symm,by unfold hdV;dsimp only;exact Di aj (by have:=ae.size;have:=Z.size;show w.heap.size<=w2.heap.size;omega)⟩ ϝ (by rw[R.o];exact q2) (by unfold hdV;dsimp only;rw[R.o];exact q3) V.heap.size;rw[R.o]at af;obtain⟨s1,s2,s3,s4⟩:=af;exact⟨s4,s3,⟨(some ⟨g4,0,none⟩,en+1,S),_,by rw[HF.o,if_pos ϥ];exact s1⟩,HJ.o.trans s3,Z.trans s2⟩
        exact AllReadyIn.nil
       exact AllReadyIn.nil
      exact AllReadyIn.nil
     exact AllReadyIn.nil
    refine AllReadyIn.cons rfl (λK m=>?_) ?_
    ·skip;go_simp
     gi_wp2_with (refine⟨trivial,rfl,?_⟩;gi_at_call 295;refine(CallsIn.inRound l' (callsIn_wide.2 (KF.o _ ae.drew))).mono ?_;rintro e w3 ⟨⟨aa,c3,rfl,aj⟩,ak⟩;have U:Ϝ X w3:=ae.drew.trans (ak.mono ae.size);have fL:=cLz U cL;have a7:=Nat.lt_of_lt_of_le lL U.size;obtain⟨g4,S,w4,q1,q2,q3⟩:=an.o w3 aa c3 U;have ab:=TZ HM.o U (by unfold hdV;dsimp only;rw[R.o];exact q3);unfold hdV at ab;dsimp only at ab;rw[R.o]at ab;obtain⟨m4,mf⟩:=ab)
     try (refine m _ _ ?_;clear m K)
     refine wpAnyIn_ready (rs:=[0,3]) Ϡ ϟ ?_;refine AllReadyIn.cons rfl (λK m=>?_) ?_
     ·skip;go_simp;refine m _ _ ?_;clear m K;refine wpAnyIn_ready (rs:=[3]) Ϡ ϟ ?_;refine AllReadyIn.cons rfl (λK m=>?_) ?_
      ·skip;go_simp;refine m _ _ ?_;clear m K;refine wpAnyIn_ready (rs:=[4]) Ϡ ϟ ?_;refine AllReadyIn.cons rfl (λK m=>?_) ?_
       ·skip;refine Ed (.tmp 13) (.tmp 16) 33 rfl rfl rfl rfl q1 ?_;refine m _ _ ?_;clear m K;refine wpAnyIn_ready (rs:=[5]) Ϡ ϟ ?_;refine AllReadyIn.cons rfl (λK m=>?_) ?_
        ·skip;go_simp;refine m _ _ ?_;clear m K;refine wpAnyIn_done Ϡ ?_ _
         gi_wp2
         have af:=LR (e:=⟨ek,et,ag,(aa,rl,c3),em⟩) (y:=yy) (g:=g4) (c4:=S) HM.o U ⟨T.o.key,T.o.time,T.o.seq,T.o.met,al.o.symm,by unfold hdV;dsimp only;exact Di aj (by have:=ae.size;have:=Z.size;show w.heap.size<=w2.heap.size;omega)⟩ ϝ (by rw[R.o];exact q2) (by unfold hdV;dsimp only;rw[R.o];exact q3) V.heap.size;rw[R.o]at af;obtain⟨s1,s2,s3,s4⟩:=af;exact⟨s4,s3,⟨(some ⟨g4,0,none⟩,en+1,S),_,by rw[HF.o,if_pos ϥ];exact s1⟩,HJ.o.trans s3,Z.trans s2⟩
        exact AllReadyIn.nil
       exact AllReadyIn.nil
      exact AllReadyIn.nil
     refine AllReadyIn.cons rfl (λK m=>?_) ?_
     ·skip;go_simp;refine m _ _ ?_;clear m K;refine wpAnyIn_ready (rs:=[0]) Ϡ ϟ ?_;refine AllReadyIn.cons rfl (λK m=>?_) ?_
      ·skip;go_simp;refine m _ _ ?_;clear m K;refine wpAnyIn_ready (rs:=[4]) Ϡ ϟ ?_;refine AllReadyIn.cons rfl (λK m=>?_) ?_
       ·skip;refine Ed (.tmp 13) (.tmp 16) 33 rfl rfl rfl rfl q1 ?_;refine m _ _ ?_;clear m K;refine wpAnyIn_ready (rs:=[5]) Ϡ ϟ ?_;refine AllReadyIn.cons rfl (λK m=>?_) ?_
        ·skip;go_simp;refine m _ _ ?_;clear m K;refine wpAnyIn_done Ϡ ?_ _
         gi_wp2
         have af:=LR (e:=⟨ek,et,ag,(aa,rl,c3),em⟩) (y:=yy) (g:=g4) (c4:=S) HM.o U ⟨T.o.key,T.o.time,T.o.seq,T.o.met,al.o.symm,by unfold hdV;dsimp only;exact Di aj (by have:=ae.size;have:=Z.size;show w.heap.size<=w2.heap.size;omega)⟩ ϝ (by rw[R.o];exact q2) (by unfold hdV;dsimp only;rw[R.o];exact q3) V.heap.size;rw[R.o]at af;obtain⟨s1,s2,s3,s4⟩:=af;exact⟨s4,s3,⟨(some ⟨g4,0,none⟩,en+1,S),_,by rw[HF.o,if_pos ϥ];exact s1⟩,HJ.o.trans s3,Z.trans s2⟩
        exact AllReadyIn.nil
       exact AllReadyIn.nil
      exact AllReadyIn.nil
     exact AllReadyIn.nil
    exact AllReadyIn.nil
   exact AllReadyIn.nil
 case done=>
  rintro D X hD ⟨⟨⟨v1,v2,v3⟩,es',O⟩,j2,Z⟩ m;rw[lMp,ai.o.1,take_length]at O;have ar:es'.length<=1000000:=by
   have h1:=O.oe.len;have h2:=length_filter_le P L;have h3:=ao.o.2;omega
  have cL:Δ X (w+1+1) 0 (vS v1 v2 v3):=O.c;have lL:=A2 O.ty;have lD:D<X.heap.size:=(Array.getElem?_eq_some_iff.1 m).1;have bi:ϛ (OE X w (vS v1 v2 v3) es' (L.filter P)):=O.oe;have KS:ϛ (CT 351 #[vS v1 v2 v3,.func (.func 272) #[] #[]] X λe w'=>e= .returned (.tuple #[])/\∃ap l2,l2.Perm (L.filter P)/\(∀i j,i<j->j<l2.length->¬ltP (l2.getD j ϰ) (l2.getD i ϰ))/\OE w' w (vS v1 v2 v3) ap l2/\Below w.heap.size X w'/\(∀b,b<X.heap.size->(Value.slice v1 v2 v3).ownBlock≠some b->w'.heap[b]? =X.heap[b]?)):=Sq w.heap.size (vS v1 v2 v3) es' (L.filter P) X O.oe ar;have bb:ϛ ((Value.slice v1 v2 v3).ownBlock≠some (w.heap.size+1+1)):=λe=>tyAt_apart (Av O.oe.own e) O.ty Ϟ rfl;have ba:ϛ ((Value.slice v1 v2 v3).ownBlock≠some D):=λe=>by
   obtain⟨cc,ff,k⟩:=Av O.oe.own e;rw[m]at k;cases k
  clear O j2
  gi_wp2_with (refine⟨trivial,rfl,?_⟩;gi_at_call 351;refine(callsIn_wide.2 KS.o).mono ?_;rintro e w2 ⟨rfl,ap,l2,hp,hs,be,hb,hk⟩;have dL:Δ w2 (w+1+1) 0 (vS v1 v2 v3):=(cOb (a:=⟨w+1+1,0,none⟩) (hk _ lL bb.o)).trans cL)
  have ah:w2.heap[D]? =some (.deferred (some [])):=(hk D lD ba.o).trans m;refine⟨ϟ,.inl ⟨_,_,rfl,run_takeDeferred ah,?_⟩⟩;refine⟨_,results_tmp rfl _ _ _,⟨(v1,v2,v3),ap,l2,rfl,hp,hs,?_⟩,Cq (Z.trans hb) ϝ ah _⟩;exact be.same ϟ (λg bj t hg _=>World.putObj_heap_other (λe=>by rw[e]at hg;rw[ah]at hg;cases hg))
 case stop=>
  rintro D c X hD h m;exact h.elim
end bf
namespace bf
open vl
attribute [local go_sem] Oper.semAt_some
def N0(l:List Ent):Prop:=∀i j,i<j->j<l.length->¬ltP (l.getD j ϰ) (l.getD i ϰ)
theorem H3(b:Buf)(x:BX)(w:ϙ)(h:bufAt w b x)(I:∀y∈Ac b,wfE y/\wfP (Bd y))(G:(Ac b).length<=4611686018427387904)(j:FV b=0):
 η 386 #[AZ b x] w λe w'=>(∃(c:Hdr) (es':List EM) (l':List Ent),e= .returned (.tuple #[hdV c,ω])/\l'.Perm (Ac b)/\N0 l'/\OE w' w (hdV c) es' l')/\Ϝ w w':=by
 have u:ϛ (∀a,Ϝ w a->CT 100 #[AZ b x] a (θ a (vI 0))):=λa z=>by
  have:=AH b x a (An h z) I G;rwa[j]at this
 have H:=(FU j).small;have J:=(FU j).all;have f:ϛ (∀a,Ϝ w a->CT 376 #[AZ b x,.func (.func 254) #[] #[]] a λe w'=>(∃(c:Hdr) (es':List EM) (l':List Ent),e= .returned (hdV c)/\l'.Perm (Ac b)/\N0 l'/\OE w' a (hdV c) es' l')/\Ϝ a w'):=λa z=>by
  have k:=OW 254 (enters_of func254 Ϡ rfl) #[] (λ_=>true) b x a (An h z) ϝ H.2.2 (λe y w2 _ _ _=>by rw[Array.append_empty];exact GR e w2);rw[filter_eq_self.2 (λ_ _=>rfl)]at k;exact k
 clear h I G j H J;obtain⟨L,D⟩:=nM (Ac b);rw[D]at f⊢;clear D;obtain⟨s,t,⟨⟨p,q,r⟩,P⟩,B⟩:=x;obtain⟨m,O,Q⟩:=b;rw[show AZ ⟨m,O,Q⟩ ⟨s,t,((p,q,r),P),B⟩= .agg #[vI m,vS p q r,vS s B.length t]from rfl]at u f⊢;obtain⟨n,F⟩:∃n,B.length=n:=⟨_,rfl⟩;rw[F]at u f⊢;clear F;have E:Ϝ w (ξ w (ν m p q r s n t) 36):=Ϩ;go_enter func386,ntmps386;go_wp2_with (first
  |(go_at_call 100;refine(u.o _ E).mono ?_;rintro e w2 ⟨rfl,i⟩;have A:Ϝ w w2:=bT E i;have R:Δ w2 w 0 (vI m):=cLz i ϡ;have S:Δ w2 w 1 (vS p q r):=cLz i ϡ;have T:Δ w2 w 2 (vS s n t):=cLz i ϡ)
  |(go_at_call 376;refine(f.o _ A).mono ?_;rintro e w3 ⟨⟨c,es',l',rfl,N,hy,M⟩,K⟩))
 go_ret2
 exact⟨⟨c,es',l',rfl,N,hy,M.mono A.size⟩,bT A K⟩
def Jk(k:ByteArray)(a z:Int)(y:Ent):Bool:=decide (y.key=k)&&(decide (a<=y.time)&&decide (y.time<=z))
theorem XI(e:EM)(k:ByteArray)(a z:Int)(m p q:Nat)(w:ϙ)(t:Δ w m 0 (.string k))(u:Δ w p 0 (vI a))(y:Δ w q 0 (vI z)):
 η 377 #[e.val,μ m,μ p,μ q] w (θ w (.bool (decide (e.key=k)&&(decide (a<=e.time)&&decide (e.time<=z))))):=by
 obtain⟨i,j,es,⟨G,H,I⟩,B⟩:=e;unfold EM.val hdV;dsimp only;have D:m<w.heap.size:=bLt _ _ t;have E:p<w.heap.size:=bLt _ _ u;have F:q<w.heap.size:=bLt _ _ y;obtain⟨R,c⟩:∃A,(decide (i=k)&&(decide (a<=j)&&decide (j<=z)))=A:=⟨_,rfl⟩;rw[c];by_cases h:i=k
 ·by_cases r:a<=j
  ·by_cases s:j<=z
   ·have f:ϛ (R=true):=by show _=_;rw[<-c];simp[h,r,s]
    clear c;subst h;go_enter func377,ntmps377;go_wp2;go_ret;exact⟨Aa f.o.symm,Ϩ⟩
   ·have f:ϛ (R=false):=by show _=_;rw[<-c];simp[s]
    clear c;subst h;go_enter func377,ntmps377;go_wp2;go_ret;exact⟨Aa f.o.symm,Ϩ⟩
  ·have f:ϛ (R=false):=by show _=_;rw[<-c];simp[r]
   clear c;subst h;go_enter func377,ntmps377;go_wp2;go_ret;exact⟨Aa f.o.symm,Ϩ⟩
 ·have f:ϛ (R=false):=by show _=_;rw[<-c];simp[h]
  clear c;have J:¬i.toList=k.toList:=λe=>h (by have:=bytes_beq i k;rw[e]at this;simpa using this.symm);go_enter func377,ntmps377;go_wp2;go_ret;exact⟨Aa f.o.symm,Ϩ⟩
theorem Vn(b:Buf)(x:BX)(k:ByteArray)(a z:Int)(w:ϙ)(h:bufAt w b x)(M:∀y∈Ac b,wfE y/\wfP (Bd y))(J:(Ac b).length<=4611686018427387904)(m:FV b=0):
 η 363 #[AZ b x,.string k,vI a,vI z] w λe w'=>(∃(i:Hdr) (es':List EM) (l':List Ent),e= .returned (.tuple #[hdV i,ω])/\l'.Perm ((Ac b).filter (Jk k a z))/\N0 l'/\OE w' w (hdV i) es' l')/\Ϝ w w':=by
 have A:ϛ (∀c,Ϝ w c->CT 100 #[AZ b x] c (θ c (vI 0))):=λc B=>by
  have:=AH b x c (An h B) M J;rwa[m]at this
 have K:=(FU m).small;have Q:=(FU m).all;have j:ϛ (∀c,Ϝ w c->Δ c (w+1) 0 (.string k)->Δ c (w+1+1) 0 (vI a)->Δ c (w+1+1+1) 0 (vI z)->CT 376 #[AZ b x,.func (.func 377) #[] #[μ (w+1),μ (w+1+1),μ (w+1+1+1)]] c λe w'=>(∃(i:Hdr) (es':List EM) (l':List Ent),e= .returned (hdV i)/\l'.Perm ((Ac b).filter (Jk k a z))/\N0 l'/\OE w' c (hdV i) es' l')/\Ϝ c w'):=λc B N O P=>
  OW 377 (enters_of func377 Ϡ rfl) #[μ (w+1),μ (w+1+1),μ (w+1+1+1)] (Jk k a z) b x c (An h B) ϝ K.2.2 (λe y w2 H _ f=>by
   have:=XI e k a z (w.heap.size+1) (w.heap.size+1+1) (w.heap.size+1+1+1) w2 (cLz f N) (cLz f O) (cLz f P);rw[H.key,H.time]at this;exact this)
 clear h M J m K Q;obtain⟨L,F⟩:∃z',(Ac b).filter (Jk k a z)=z':=⟨_,rfl⟩;rw[F]at j⊢;clear F;obtain⟨t,u,⟨⟨q,r,s⟩,ml⟩,E⟩:=x;obtain⟨p,aa,ab⟩:=b;rw[show AZ ⟨p,aa,ab⟩ ⟨t,u,((q,r,s),ml),E⟩= .agg #[vI p,vS q r s,vS t E.length u]from rfl]at A j⊢;obtain⟨n,I⟩:∃n,E.length=n:=⟨_,rfl⟩;rw[I]at A j⊢;clear I;have G:Ϝ w (ξ (ξ (ξ (ξ w (ν p q r s t n u) 36) #[.string k] 9) #[vI a] 3) #[vI z] 3):=by
  repeat (first|exact bR|(refine Below.alloc ?_ Ϥ _))
 go_enter func363,ntmps363;go_wp2_with (first
  |(go_at_call 100;refine(A.o _ G).mono ?_;rintro e w2 ⟨rfl,f⟩;have D:Ϝ w w2:=bT G f;have k0:Δ w2 w 0 (vI p):=cLz f ϡ;have k1:Δ w2 w 1 (vS q r s):=cLz f ϡ;have k2:Δ w2 w 2 (vS t n u):=cLz f ϡ;have U:Δ w2 (w+1) 0 (.string k):=cLz f ϡ;have V:Δ w2 (w+1+1) 0 (vI a):=cLz f ϡ;have Z:Δ w2 (w+1+1+1) 0 (vI z):=cLz f ϡ)
  |(go_at_call 376;refine(j.o _ D U V Z).mono ?_;rintro e w3 ⟨⟨i,es',l',rfl,T,hy,S⟩,R⟩))
 go_ret2
 exact⟨⟨i,es',l',rfl,T,hy,S.mono D.size⟩,bT D R⟩
theorem AdW(k:Int)(w:ϙ)(h:BG k 1 64=true):η 152 #[vI k] w (θ w (.tuple #[.agg #[vI k,ψ,ψ],ω])):=by
 have c:ϛ (∀a,CT 166 #[vI k] a λe w'=>e= .returned (.bool true)/\w'=a):=λa=>by have:=Ho k a;rwa[h]at this
 clear h;go_enter func152,ntmps152;go_wp2_with (go_at_call 166;refine(c.o _).mono ?_;rintro e w2 ⟨rfl,rfl⟩);exact bodyPost_ret (v:=.tuple #[.agg #[vI k,ψ,ψ],ω]) (by simp[results,results152,go_sem]) rfl ⟨rfl,Ϩ⟩
end bf
namespace bf
open vl
variable {b : Buf} {W W' w w2 : ϙ} {C NB base : Nat} {x : BX} {es' : List EM} {l' : List Ent}
theorem Jl(h:okB b):CY (λ_=>true) b=b:=by
 obtain⟨k,e,a⟩:=b;have c:=h.full;unfold CY DK;dsimp only at c⊢;have f:e.filter (λ_=>true)=e:=filter_eq_self.2 (λ_ _=>rfl);have i:a.map (·.filter (λ_=>true))=a:=by
  conv=>rhs;rw[<-map_id a]
  refine map_congr_left (λr _=>?_);exact filter_eq_self.2 (λ_ _=>rfl)
 rw[f,i,filter_eq_self.2 (λr j=>decide_eq_true (c r j))]
theorem OB.run(h:OB w base x b){p:Part}(j:p∈x.rs):∃i,i<b.runs.length/\x.rs.getD i ϰ=p/\OE w base (hdV p.1) p.2 (b.runs.getD i ϰ):=by
 obtain⟨i,a,rfl⟩:=getElem_of_mem j;have e:x.rs.getD i ϰ=x.rs[i]:=by rw[gDe,gEe a];rfl
 have c:i<b.runs.length:=by rw[<-h.rlen];exact a
 have f:=h.runs i c;rw[e]at f;exact⟨i,c,e,f⟩
theorem Aam{w':ϙ}{f:Hdr}(h:OB w base x b)(F:OE w' base (hdV f) es' l')(A:w.heap.size<=w'.heap.size)(z:∀k,k<w.heap.size->(hdV x.m.1).ownBlock≠some k->w'.heap[k]? =w.heap[k]?)
 (D:∀g,(hdV f).ownBlock=some g->(hdV x.m.1).ownBlock=some g\/w.heap.size<=g):OB w' base ⟨x.ra,x.rc,(f,es'),x.rs⟩ ⟨b.lim,l',b.runs⟩:=by
 have r:=pairwise_cons.1 h.two;refine⟨Nat.le_trans h.low A,F,A4 h.hds (λg a=>z g (AE h.hds a).2 (λe=>I5 h.mem.own h.hds Ϟ e a)),h.rlen,λi j=>?_,?_⟩
 ·have m:=h.runs i j;have E:i<x.rs.length:=by rw[h.rlen];exact j
  have B:apB (hdV x.m.1) (hdV (x.rs.getD i ϰ).1):=r.1 _ (mem_map.2 ⟨_,Bj E,rfl⟩);refine m.same A (λg I t a q=>z g (Array.getElem?_eq_some_iff.1 a).1 (λe=>?_));rcases q with⟨H,_⟩|q
  ·exact B g e H
  ·subst q;exact tyAt_apart (Av h.mem.own e) ⟨_,_,a⟩ Ϟ rfl
 ·refine pairwise_cons.2 ⟨λc u g a y=>?_,r.2⟩;rcases D g a with s|s
  ·exact r.1 c u g s y
  ·obtain⟨p,G,rfl⟩:=mem_map.1 u;obtain⟨i,j,_,m⟩:=h.run G;have:=(AE m.own y).2;omega
theorem Acm{g cap2:Nat}(h:OB w base x b)(z:w2.ownsRow base 33 1 (vS (τ g) (x.rs.length+1) cap2) (x.rs.length+1) ((x.rs.map λp=>hdV p.1)++[hdV x.m.1]))(e:w.heap.size<=w2.heap.size)
 (r:∀k,Ai w k 166\/Ai w k 119->w2.heap[k]? =w.heap[k]?):OB w2 base ⟨some ⟨g,0,none⟩,cap2,((none,0,0),[]),x.rs++[x.m]⟩ ⟨b.lim,[],b.runs++[b.mem]⟩:=by
 have s:=pairwise_cons.1 h.two;refine⟨Nat.le_trans h.low e,E4 (Nat.le_trans h.low e),?_,?_,λi j=>?_,?_⟩
 ·dsimp only;rw[lAp,map_append];exact z
 ·dsimp only;rw[lAp,lAp,h.rlen];rfl
 ·dsimp only at j⊢;rw[lAp]at j;by_cases m:i<b.runs.length
  ·rw[Bc (by rw[h.rlen];exact m),Bc m];exact(h.runs i m).other e r
  ·have:i=b.runs.length:=by simp at j;omega
   subst this;rw[AP (by rw[h.rlen];exact Nat.le_refl _),AP nR,h.rlen,Nat.sub_self];exact h.mem.other e r
 ·dsimp only;rw[map_cons,map_append];refine pairwise_cons.2 ⟨λc _ q f=>(by cases f),pairwise_append.2 ⟨s.2,pairwise_singleton _ _,λa ha c t q f y=>?_⟩⟩;have u:c=hdV x.m.1:=by simpa using t
  subst u;exact s.1 a ha q y f
structure PSt(W:World)(C NB base:Nat)(x:BX)(b:Buf):Prop where
 k:KSt W C NB base x b
 f1:Ξ W NB 1
theorem PSt.below(h:PSt W C NB base x b)(a:Ϝ W W'):PSt W' C NB base x b:=
 ⟨h.k.below a,(a.frozen (p:=⟨NB,1,none⟩) (A2 h.k.ty)).trans h.f1⟩
theorem AdX(e:nbAt w2 C)(h:OB w2 base x b)(f:base<=C):
 PSt (ξ w2 #[vI b.lim,hdV x.m.1,vS x.ra x.rs.length x.rc] 36) C w2.heap.size base x b:=by
 have c:Ϝ w2 (ξ w2 #[vI b.lim,hdV x.m.1,vS x.ra x.rs.length x.rc] 36):=Ϩ;have a:=Cl c e;have i:=A2 e.ty;refine⟨⟨h.below c,?_,?_,?_,?_,⟨_,_,World.alloc_heap_new _ _⟩,a.n0,a.n1,a.n2,a.o0,a.o1,a.o2,a.ty,i,f⟩,?_⟩
 ·unfold hdV;go_simp
 ·unfold hdV;go_simp
 ·unfold hdV;go_simp
 ·unfold hdV;go_simp
 ·unfold hdV;go_simp
theorem N2(h:PSt W C NB base x b)(c:W.heap.size<=W'.heap.size)(a:∀k,k<W.heap.size->(hdV x.m.1).ownBlock≠some k->W'.heap[k]? =W.heap[k]?):W'.heap[NB]? =W.heap[NB]? /\W'.heap[C]? =W.heap[C]? :=
 ⟨a NB (A2 h.k.ty) (λe=>tyAt_apart (Av h.k.ob.mem.own e) h.k.ty Ϟ rfl),a C (A2 h.k.rt) (λe=>tyAt_apart (Av h.k.ob.mem.own e) h.k.rt Ϟ rfl)⟩
theorem Ss(h:PSt W C NB base x b)(m:OE W' base (hdV x.m.1) es' l')(i:W.heap.size<=W'.heap.size)(f:∀k,k<W.heap.size->(hdV x.m.1).ownBlock≠some k->W'.heap[k]? =W.heap[k]?):
 PSt W' C NB base ⟨x.ra,x.rc,(x.m.1,es'),x.rs⟩ ⟨b.lim,l',b.runs⟩:=by
 obtain⟨e,c⟩:=N2 h i f;exact⟨⟨Aam h.k.ob m i f (λg j=>.inl j),(cOb (a:=⟨NB,0,none⟩) e).trans h.k.c0,(cOb (a:=⟨NB,1,none⟩) e).trans h.k.c1,(cOb (a:=⟨NB,2,none⟩) e).trans h.k.c2,(AF (p:=⟨NB,2,none⟩) e).trans h.k.f2,A0 h.k.ty e,
  (cOb (a:=⟨C,0,none⟩) c).trans h.k.r0,(cOb (a:=⟨C,1,none⟩) c).trans h.k.r1,(cOb (a:=⟨C,2,none⟩) c).trans h.k.r2,(AF (p:=⟨C,0,none⟩) c).trans h.k.g0,(AF (p:=⟨C,1,none⟩) c).trans h.k.g1,(AF (p:=⟨C,2,none⟩) c).trans h.k.g2,A0 h.k.rt c,h.k.ne,h.k.up⟩,(AF (p:=⟨NB,1,none⟩) e).trans h.f1⟩
end bf
namespace jn
open vl
attribute [local go_sem] Oper.semAt_some
def C5(p:pl.Pln):Jn:=if pl.Ag p=0 then⟨⟨p.limit,[],[]⟩,⟨p.limit,[],[]⟩,noMark,noMark,0⟩else j0
theorem Aan{p:pl.Pln}(h:pl.Ag p=0):bf.BG p.limit 1 64=true:=(bf.BN _ _ _).2 (pl.Bf h).2.1.2.2
theorem XJ(p:pl.Pln)(x:pl.PA)(w:ϙ)(U:pl.wfPlan p)(T:pl.planAt w p x):
 η 95 #[pl.Ap p x] w (θ w (.tuple #[joinV (C5 p) jx0,vI (pl.Ag p)])):=by
 have G:=hIz (λ(c:ϙ) (hb:Ϝ w c)=>pl.C0 p x c U (pl.Ae T hb));have H:ϛ (pl.Ag p=0->∀c,CT 152 #[vI p.limit] c (θ c (.tuple #[.agg #[vI p.limit,ψ,ψ],ω]))):=λh c=>bf.AdW p.limit c (Aan h);obtain⟨JV,L⟩:=nM (joinV (C5 p) jx0);have j:=hqz L;rw[L];clear L;unfold C5 at j;obtain⟨E,P⟩:=nM (pl.Ag p);rw[P]at G H j⊢;clear P U T;unfold pl.Ap at G⊢;go_enter func95,ntmps95;go_wp2_with fail;generalize i:(World.alloc (World.alloc w _) _)=V;have M:Ϝ w V:=by rw[<-i];exact Ϩ.alloc ϟ _
 have q:ϛ (Bh V w p x):=by
  subst i;exact Ah (Cg ..) Ϩ
 have f:ϛ (noJ V (w+1)):=by
  subst i;have:=PN (ξ w (Φ p x) 32);rw[World.size_alloc]at this;exact this
 clear i;refine(G.o _ M).mono ?_;rintro e c ⟨rfl,I⟩;have O:Ϝ w c:=bT M I;replace q:ϛ (Bh c w p x):=Ah q.o I;replace f:ϛ (noJ c (w+1)):=Dc f.o I;clear I M G;by_cases K:E=0
 ·subst K;rw[if_pos rfl]at j;have v5:=q.o.2.2.2.2.2.1;go_wp2_with fail;refine(H.o ϥ _).mono ?_;rintro e w2 ⟨rfl,J⟩;have Q:Ϝ w w2:=bT O J;have u5:=(Ah q.o J).2.2.2.2.2.1;replace f:ϛ (noJ w2 (w+1)):=Dc f.o J;have lw:=Z6 f.o;have ac:w.heap.size<w2.heap.size:=ϝ;clear v5 J q;go_wp2_with fail;generalize i:(World.alloc w2 _)=k;have N:Ϝ w2 k:=by rw[<-i];exact Ϩ
  have R:Ϝ w k:=bT Q N;have Z:Δ k w2 0 (vI p.limit):=by subst i;go_simp
  have p1:Δ k w2 1 (vS none 0 0):=by subst i;go_simp
  have p2:Δ k w2 2 (vS none 0 0):=by subst i;go_simp
  replace f:ϛ (noJ k (w+1)):=Dc f.o N;clear i u5;refine(H.o ϥ _).mono ?_;rintro e w4 ⟨rfl,m⟩;have S:Ϝ w w4:=bT R m;have q0:=cLz m Z;have q1:=cLz m p1;have q2:=cLz m p2;have ad:w2.heap.size<w4.heap.size:=bLt _ _ q0;have ae:w.heap.size+1<w4.heap.size:=ϝ;replace f:ϛ (noJ (ξ w4 #[vI p.limit,ψ,ψ] 36) (w.heap.size+1)):=Dc (Dc f.o m) Ϩ;have aa:Ϝ w (ξ w4 #[vI p.limit,ψ,ψ] 36):=S.alloc S.size _;clear Z p1 p2 N m R Q O H;have a:ϛ ((World.setCells (ξ w4 #[vI p.limit,ψ,ψ] 36) (w.heap.size+1) 0 [vI p.limit,ψ,ψ,vI p.limit,ψ,ψ,vI (-1099511627777),vI (-1099511627777),ω]).rangeAt (w.heap.size+1) 0 [vI p.limit,ψ,ψ,vI p.limit,ψ,ψ,vI (-1099511627777),vI (-1099511627777),ω]):=GL f.o rfl;have r:ϛ (Ϝ w (World.setCells (ξ w4 #[vI p.limit,ψ,ψ] 36) (w.heap.size+1) 0 [vI p.limit,ψ,ψ,vI p.limit,ψ,ψ,vI (-1099511627777),vI (-1099511627777),ω])):=below_setCells (Nat.le_succ w.heap.size) _ 0 _ aa;go_wp2_with ((with_reducible refine wpList_store_mid ?_ 38 (.tmp 2) (.tmp 29) ?_ (w.heap.size+1) 0 #[vI p.limit,ψ,ψ,vI p.limit,ψ,ψ,vI (-1099511627777),vI (-1099511627777),ω] ?_ ?_ ?_ ?_ ?_ ?_);exact rfl;exact rfl;exact rfl;exact rfl;exact f.o;exact MO;exact Ϧ);generalize (World.setCells (ξ w4 #[vI p.limit,ψ,ψ] 36) (w.heap.size+1) 0 [vI p.limit,ψ,ψ,vI p.limit,ψ,ψ,vI (-1099511627777),vI (-1099511627777),ω])=W' at a r⊢;have s:=a.o 0 _ rfl;have t:=a.o 1 _ rfl;have u:=a.o 2 _ rfl;have y:=a.o 3 _ rfl;have z:=a.o 4 _ rfl;have A:=a.o 5 _ rfl;have B:=a.o 6 _ rfl;have D:=a.o 7 _ rfl;have F:=a.o 8 _ rfl;simp only[Nat.zero_add]at s t u y z A B D F;exact bodyPost_ret (v:=.tuple #[.agg #[vI p.limit,ψ,ψ,vI p.limit,ψ,ψ,vI (-1099511627777),vI (-1099511627777),ω],ω]) (by simp[results,results95,go_sem,s,t,u,y,z,A,B,D,F]) rfl ⟨by rw[<-j.o];rfl,r.o⟩
 ·rw[if_neg K]at j;have ab:(E !=0)=true:=by simpa using K
  have a:ϛ ((World.setCells c (w.heap.size+1) 0 [ω,ψ,ψ,ω,ψ,ψ,ω,ω,ω]).rangeAt (w.heap.size+1) 0 [ω,ψ,ψ,ω,ψ,ψ,ω,ω,ω]):=GL f.o rfl;have r:ϛ (Ϝ w (World.setCells c (w.heap.size+1) 0 [ω,ψ,ψ,ω,ψ,ψ,ω,ω,ω])):=below_setCells (Nat.le_succ w.heap.size) _ 0 _ O;go_wp2_with ((with_reducible refine wpList_store_mid ?_ 38 (.tmp 2) (.tmp 13) ?_ (w.heap.size+1) 0 #[ω,ψ,ψ,ω,ψ,ψ,ω,ω,ω] ?_ ?_ ?_ ?_ ?_ ?_);exact rfl;exact rfl;exact rfl;exact rfl;exact f.o;exact MO;exact Ϧ);generalize (World.setCells c (w.heap.size+1) 0 [ω,ψ,ψ,ω,ψ,ψ,ω,ω,ω])=W' at a r⊢;have s:=a.o 0 _ rfl;have t:=a.o 1 _ rfl;have u:=a.o 2 _ rfl;have y:=a.o 3 _ rfl;have z:=a.o 4 _ rfl;have A:=a.o 5 _ rfl;have B:=a.o 6 _ rfl;have D:=a.o 7 _ rfl;have F:=a.o 8 _ rfl;simp only[Nat.zero_add]at s t u y z A B D F;exact bodyPost_ret (v:=.tuple #[.agg #[ω,ψ,ψ,ω,ψ,ψ,ω,ω,ω],vI E]) (by simp[results,results95,go_sem,s,t,u,y,z,A,B,D,F]) rfl ⟨by rw[<-j.o];rfl,r.o⟩
theorem II(m:Int)(w:ϙ):η 169 #[vI m] w (θ w (.bool (Ei m))):=by
 unfold Ei;have c:=tm.CF m;by_cases h:m=noMark
 ·have f:(m== -1099511627777)=true:=by unfold noMark at h;simpa using h
  have a:ϛ (true=(decide (m=noMark)||tm.Br m)):=by show _=_;rw[decide_eq_true h];rfl
  clear c;unfold noMark at h;subst h;go_enter func169,ntmps169;go_wp2;go_ret;exact⟨Aa a.o,bR⟩
 ·have f:(m== -1099511627777)=false:=by unfold noMark at h;simpa using h
  have a:ϛ (tm.Br m=(decide (m=noMark)||tm.Br m)):=by show _=_;rw[decide_eq_false h];rfl
  go_enter func169,ntmps169;go_wp2_with (go_at_call 197;refine(c _).mono ?_;rintro e w2 ⟨rfl,rfl⟩);go_ret;exact⟨Aa a.o,bR⟩
end jn
end Go.Proofs.YtfkihidbnfkbaaaGreatDoor
