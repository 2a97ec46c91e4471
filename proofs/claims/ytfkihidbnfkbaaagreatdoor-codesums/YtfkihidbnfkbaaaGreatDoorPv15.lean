import Derived.Test.YtfkihidbnfkbaaaGreatDoorPv14
import Derived.Test.YtfkihidbnfkbaaaGreatDoorPv13
set_option linter.all false
open Go.ChangeShapes Go.WideShapes Go.ChangeAt Go.RowKit Go.Maps Go.WideMaps List
namespace Go.Proofs.YtfkihidbnfkbaaaGreatDoor
namespace ch
open vl
end ch
namespace bt
open vl
variable {w w' w2 : Ϙ} {base : Nat}
structure Own1 where
 v:Value
 e:TypeId
 s:Nat
 n:Nat
 xs:List Value
def Own1.here(x:Own1)(w:World)(base:Nat):Prop:=w.ownsRow base x.e x.s x.v x.n x.xs
def apart(x y:Own1):Prop:=∀g,x.v.ownBlock=some g->y.v.ownBlock≠some g
theorem RL{x y:Own1}(h:apart x y):apart y x:=λg a b=>h g b a
structure Est(w:World)(base:Nat)(E:List Own1):Prop where
 low:base<=w.heap.size
 own:∀x∈E,x.here w base
 two:E.Pairwise apart
theorem FI{E a:List Own1}(h:Est w base E)(b:E.Perm a):Est w base a:=
 ⟨h.low,λx c=>h.own x (b.mem_iff.2 c),b.pairwise h.two (λh=>RL h)⟩
theorem FJ{E:List Own1}(h:Est w base E)(a:ϛ w w'):Est w' base E:=
 ⟨Nat.le_trans h.low a.size,λx b=>ch.own_below (h.own x b) a,h.two⟩
theorem UC{x x':Own1}{E:List Own1}(h:Est w base (x::E))(l:w.heap.size<=w2.heap.size)(k:∀b,b<w.heap.size->x.v.ownBlock≠some b->w2.heap[b]? =w.heap[b]?)(m:x'.here w2 base)
 (j:∀g,x'.v.ownBlock=some g->x.v.ownBlock=some g\/w.heap.size<=g):Est w2 base (x'::E):=by
 have d:=pairwise_cons.1 h.two;refine⟨Nat.le_trans h.low l,λy a=>?_,pairwise_cons.2 ⟨λy a g c=>?_,d.2⟩⟩
 ·rcases mem_cons.1 a with rfl|a
  ·exact m
  ·have i:=h.own y (mem_cons_of_mem _ a);exact ch.As i (λg c=>k g (ch.A5 i c).2 (λe=>d.1 y a g e c))
 ·rcases j g c with f|f
  ·exact d.1 y a g f
  ·intro e;have:=(ch.A5 (h.own y (mem_cons_of_mem _ a)) e).2;omega
theorem Qi{x x':Own1}{E:List Own1}(h:Est w base (x::E))(a:w.grownBy w2 x.v.ownBlock)(i:x'.here w2 base)(c:∀g,x'.v.ownBlock=some g->x.v.ownBlock=some g\/w.heap.size<=g):Est w2 base (x'::E):=
 UC h a.size (λb d f=>a.block b d (λe=>f e.symm)) i c
theorem O5{x:Own1}{E:List Own1}(h:Est w base E)(c:ϛ w w')(i:x.here w' base)(f:∀g,x.v.ownBlock=some g->w.heap.size<=g):Est w' base (x::E):=by
 have b:=FJ h c;refine⟨b.low,λy a=>?_,pairwise_cons.2 ⟨λy a g d e=>?_,h.two⟩⟩
 ·rcases mem_cons.1 a with rfl|a
  ·exact i
  ·exact b.own y a
 ·have:=(ch.A5 (h.own y a) e).2;have:=f g d;omega
end bt
namespace ch
open vl
theorem Bb(a:ϙ)(cap:Nat)(v:List Cnt)(w:Ϙ)(i:viewAt w a v)(j:Cd v)(g:v.length<=χ):
 η 104 #[vS a v.length cap] w (θ w (vI (A4 v))):=by
 have b:=Ms a cap v w i j g;obtain⟨n,d⟩:∃n,v.length=n:=⟨_,rfl⟩;rw[d]at b;rw[d];go_enter Tryz.func104,Tryz.ntmps104;go_wp2_with fail;refine b.mono ?_;rintro e k ⟨h,c⟩;rcases h with⟨f,_,B,rfl,_⟩|⟨_,rfl⟩
 ·go_wp2;go_ret;exact⟨by rw[f];rfl,c⟩
 ·go_wp2;go_ret;exact⟨rfl,c⟩
end ch
end Go.Proofs.YtfkihidbnfkbaaaGreatDoor
