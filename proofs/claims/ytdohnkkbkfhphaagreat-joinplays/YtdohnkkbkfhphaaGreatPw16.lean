import Derived.Test.YtdohnkkbkfhphaaGreatPw11
import Derived.Test.YtdohnkkbkfhphaaGreatPw15
set_option linter.all false
set_option maxHeartbeats 4000000
set_option maxRecDepth 100000
open Go.ChangeShapes Go.WideShapes Go.ChangeAt Go.RowKit Go.Maps Go.WideMaps List
namespace Go.Proofs.YtdohnkkbkfhphaaGreat
open Go.Proofs.Tryz
namespace ch
open vl
end ch
namespace bt
open vl
variable {w w' w2 : ϛ} {base : Nat}
structure Own1 where
 v:Value
 e:TypeId
 s:Nat
 n:Nat
 xs:List Value
def Own1.here(x:Own1)(w:World)(base:Nat):Prop:=w.ownsRow base x.e x.s x.v x.n x.xs
def apart(x y:Own1):Prop:=∀g,x.v.ownBlock=some g->y.v.ownBlock≠some g
theorem T5{x y:Own1}(h:apart x y):apart y x:=λg c d=>h g d c
structure Est(w:World)(base:Nat)(E:List Own1):Prop where
 low:base<=w.heap.size
 own:∀x∈E,x.here w base
 two:E.Pairwise apart
theorem Gw{E c:List Own1}(h:Est w base E)(d:E.Perm c):Est w base c:=
 ⟨h.low,λx e=>h.own x (d.mem_iff.2 e),d.pairwise h.two (λh=>T5 h)⟩
theorem Gx{E:List Own1}(h:Est w base E)(c:Ϟ w w'):Est w' base E:=
 ⟨Nat.le_trans h.low c.size,λx d=>ch.own_below (h.own x d) c,h.two⟩
theorem WR{x x':Own1}{E:List Own1}(h:Est w base (x::E))(m:w.heap.size<=w2.heap.size)(l:∀b,b<w.heap.size->x.v.ownBlock≠some b->w2.heap[b]? =w.heap[b]?)(n:x'.here w2 base)
 (k:∀g,x'.v.ownBlock=some g->x.v.ownBlock=some g\/w.heap.size<=g):Est w2 base (x'::E):=by
 have f:=pairwise_cons.1 h.two;refine⟨Nat.le_trans h.low m,λy c=>?_,pairwise_cons.2 ⟨λy c g d=>?_,f.2⟩⟩
 ·rcases mem_cons.1 c with rfl|c
  ·exact n
  ·have j:=h.own y (mem_cons_of_mem _ c);exact ch.A2 j (λg d=>l g (ch.AM j d).2 (λe=>f.1 y c g e d))
 ·rcases k g d with i|i
  ·exact f.1 y c g i
  ·intro e;have:=(ch.AM (h.own y (mem_cons_of_mem _ c)) e).2;omega
theorem Rj{x x':Own1}{E:List Own1}(h:Est w base (x::E))(c:w.grownBy w2 x.v.ownBlock)(j:x'.here w2 base)(d:∀g,x'.v.ownBlock=some g->x.v.ownBlock=some g\/w.heap.size<=g):Est w2 base (x'::E):=
 WR h c.size (λb f i=>c.block b f (λe=>i e.symm)) j d
theorem PX{x:Own1}{E:List Own1}(h:Est w base E)(f:Ϟ w w')(k:x.here w' base)(j:∀g,x.v.ownBlock=some g->w.heap.size<=g):Est w' base (x::E):=by
 have d:=Gx h f;refine⟨d.low,λy c=>?_,pairwise_cons.2 ⟨λy c g i e=>?_,h.two⟩⟩
 ·rcases mem_cons.1 c with rfl|c
  ·exact k
  ·exact d.own y c
 ·have:=(ch.AM (h.own y c) e).2;have:=j g i;omega
end bt
namespace pl
open vl
variable {w : ϛ} {b : Nat} {x : Int} {a : Ϝ}
def Ef:Pln:=⟨1,4, -5,5,0,2,[2,2],[2,2],[0],[0],false,[],[]⟩
theorem WT:wfPlan Ef:=⟨by unfold i64;decide,by unfold i64;decide,Ϡ,Ϡ,Ϡ,Ϡ,Ϡ,Ϡ⟩
theorem T6:Al Ef=0:=Ϣ
theorem Acr(h0:Δ w b 0 (vI x)):AA w (τ b) [x]:=by
 intro i c
 match i,c with
 |0,_=>exact⟨b,0,rfl,h0⟩
theorem Acs{y:Int}(h0:Δ w b 0 (vI x))(h1:Δ w b 1 (vI y)):AA w (τ b) [x,y]:=by
 intro i c
 match i,c with
 |0,_=>exact⟨b,0,rfl,h0⟩
 |1,_=>exact⟨b,0,rfl,h1⟩
theorem Adw:AA w a []:=λi c=>absurd c (Nat.not_lt_zero i)
theorem Adx:EL w a []:=λi c=>absurd c (Nat.not_lt_zero i)
theorem WU{p:Pln}{x:PA}(h1:AA w x.l p.left)(c:AA w x.r p.right)(d:AA w x.lk p.lkeys)(e:AA w x.rk p.rkeys)(f:AA w x.g p.group)(g:EL w x.a p.aggs):planAt w p x:=⟨h1,c,d,e,f,g⟩
def Rk(n:Nat)(a:Option Addr):Prop:=∀y,a=some y->n<=y.block
theorem JI{n o:Nat}(h:n<=b):Rk n (some ⟨b,o,none⟩):=λy c=>by cases c;exact h
theorem T7(w:ϛ):η 35 #[] w λe w'=>(∃x,e= .returned (Ak Ef x)/\planAt w' Ef x/\Rk w.heap.size x.l/\Rk w.heap.size x.r/\Rk w.heap.size x.lk/\Rk w.heap.size x.rk)/\Ϟ w w':=by
 go_enter func35,ntmps35;go_wp2;exact bodyPost_ret (v:=.agg #[vI 1,vI 4,vI (-5),vI 5,ω,vI 2,vS (τ (w+1)) 2 2,vS (τ (w+1)) 2 2,vS (τ (w+1+1)) 1 1,vS (τ (w+1+1+1)) 1 1,ϋ,ψ,ψ]) (by simp[results,results35,go_sem]) rfl
  ⟨⟨⟨some ⟨w+1,0,none⟩,2,some ⟨w+1,0,none⟩,2,some ⟨w+1+1,0,none⟩,1,some ⟨w+1+1+1,0,none⟩,1,none,0,none,0⟩,rfl,
   WU (Acs ϣ ϣ) (Acs ϣ ϣ) (Acr ϣ) (Acr ϣ) Adw Adx,JI (n:=w.heap.size) (b:=w.heap.size+1) ϟ,JI (n:=w.heap.size) (b:=w.heap.size+1) ϟ,JI (n:=w.heap.size) (b:=w.heap.size+1+1) ϟ,JI (n:=w.heap.size) (b:=w.heap.size+1+1+1) ϟ⟩,by
   repeat (first|exact bR|apply Below.drew|(refine Below.setCell ?_ ϡ _)|(refine Below.alloc ?_ Ϧ _))
   ⟩
end pl
namespace bt
open vl pl
end bt
namespace bt
open vl pl
end bt
end Go.Proofs.YtdohnkkbkfhphaaGreat
