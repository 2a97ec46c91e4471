import Derived.Test.YtdohnkkbkfhphaaGreatPw8
import Derived.Shelf.SlSortCmp.NoneTotal
import Derived.Test.YtdohnkkbkfhphaaGreatPw16
set_option linter.all false
set_option maxHeartbeats 8000000
set_option maxRecDepth 100000
open Go.ChangeShapes Go.WideShapes Go.ChangeAt Go.RowKit Go.Sort Go.Shelf List
open Inhabited renaming default->ϰ
namespace Go.Proofs.YtdohnkkbkfhphaaGreat
open Go.Proofs.Tryz
namespace bf
open vl
attribute [local go_sem] Oper.semAt_some
end bf
namespace bf
open vl
variable {w w' : ϛ}
def Mc(w w':World):Prop:=∃q os,w'=grow (w.drewN q) os
theorem Mc.refl(w:ϛ):Mc w w:=⟨0,#[],by simp[World.drewN]⟩
theorem Mc.drew(h:Mc w w'):Mc w w'.drew:=by
 obtain⟨q,a,rfl⟩:=h;exact⟨q+1,a,rfl⟩
theorem Mc.alloc(h:Mc w w')(o:Obj):Mc w (w'.alloc o):=by
 obtain⟨q,a,rfl⟩:=h;exact⟨q,a.push o,by simp[grow,World.alloc]⟩
attribute [local go_sem ↓] Go.wp_at_zero Go.wp_at_succ
theorem Qf(e f:EM)(w:ϛ):
 η 116 #[e.val,f.val] w λr w'=>r= .returned (vI (cmpP e.ent f.ent))/\Mc w w':=by
 have a:ϝ (Bd [Lib.compareBytes e.key.data.toList f.key.data.toList,Dl e.time f.time,Dl e.seq f.seq]=cmpP e.ent f.ent):=Jz e.ent f.ent;obtain⟨c,k,i,⟨p,s,u⟩,y⟩:=e;obtain⟨h,m,j,⟨q,t,x⟩,z⟩:=f;rw[<-a.o];clear a;unfold EM.val hdV;dsimp only;go_enter func116,ntmps116;go_wp2
 go_region_held3 (λw'=>ϖ w' w (.string c) (vI k) (vI i) (ϕ w' (w+1) (.string h) (vI m) (vI j))) (go_keep)
  (first
   |(go_at_call 166;refine(Jy _ _ _).mono ?_;rintro e w' ⟨rfl,rfl⟩)
   |(go_at_call 165;refine(Jw _ _ _).mono ?_;rintro e w' ⟨rfl,rfl⟩)
   |(go_at_call 164;refine(or3 _ (Lib.compareBytes c.data.toList h.data.toList) (Dl k m) (Dl i j) _ ?_ ?_ ?_).mono ?_;(go_simp);(go_simp);(go_simp);rintro e w' ⟨rfl,rfl⟩))
 all_goals
  go_wp2;go_ret;refine⟨rfl,?_⟩
  repeat (first|exact Mc.refl _|apply Mc.drew|(refine Mc.alloc ?_ _))
theorem AcC(a b:EM):(decide (cmpP a.ent b.ent<0))=decide (ltP a.ent b.ent):=decide_eq_decide.2 Fc
theorem Xa{α β:Type}(f:α->β):∀{m n:List β},m.Perm n->∀l:List α,n=l.map f->∃j:List α,j.Perm l/\m=j.map f:=by
 intro m n h
 induction h with
 |nil=>intro l c;exact⟨l,List.Perm.refl _,c⟩
 |cons x _ ih=>
  intro l c
  cases l with
  |nil=>cases c
  |cons a l=>
   rw[map_cons]at c;injection c with k i
   obtain⟨j,s,e⟩:=ih l i;exact⟨a::j,s.cons a,by rw[map_cons,<-k,e]⟩
 |swap x y _=>
  intro l c
  match l,c with
  |a::b::l,c=>
   rw[map_cons,map_cons]at c;injection c with k i
   injection i with i r
   exact⟨b::a::l,List.Perm.swap ..,by rw[map_cons,map_cons,<-k,<-i,<-r]⟩
 |trans _ _ ih1 ih2=>
  intro l c;obtain⟨t,z,p⟩:=ih2 l c;obtain⟨u,A,q⟩:=ih1 t p;exact⟨u,A.trans z,q⟩
end bf
namespace bf
open vl
variable {w : ϛ} {base cap g n : Nat} {es : List EM} {d : Array EM}
def JQ(e:EM):List Value:=[.string e.key,vI e.time,vI e.seq,hdV e.row,.bool e.met]
theorem Ze(e:EM):(JQ e).length=5:=rfl
theorem Zf(e:EM):∀v∈JQ e,v.oneCell'=true:=by
 intro v a;unfold JQ hdV at a;simp at a;rcases a with rfl|rfl|rfl|rfl|rfl<;>rfl
theorem Qg(l:List EM)(t:Nat)(h:t<l.length * 5):(Aq l)[t]? =some ((JQ (l.getD (t/5) ϰ))[t % 5]!):=by
 obtain⟨c,f,i,j,k⟩:=Fb l (t/5) ϟ;have m:t % 5=0\/t % 5=1\/t % 5=2\/t % 5=3\/t % 5=4:=ϟ;rcases m with e|e|e|e|e
 ·have a:t=t/5 * 5:=ϟ;rw[e];rw[<-a]at c;exact c
 ·have a:t=t/5 * 5+1:=ϟ;rw[e];rw[<-a]at f;exact f
 ·have a:t=t/5 * 5+2:=ϟ;rw[e];rw[<-a]at i;exact i
 ·have a:t=t/5 * 5+3:=ϟ;rw[e];rw[<-a]at j;exact j
 ·have a:t=t/5 * 5+4:=ϟ;rw[e];rw[<-a]at k;exact k
theorem H4(l:List EM)(i:Nat)(h:i<l.length):l.toArray[i]! =l.getD i ϰ:=by
 rw[getElem!_pos l.toArray i (by simpa using h),gDe,gEe h];rfl
theorem flat_get(l:List EM)(t:Nat)(h:t<l.length * 5):(Aq l)[t]? =some ((flatK JQ 5 l.toArray)[t]!):=by
 rw[get_flatK _ _ _ _ (by simpa using h),H4 l (t/5) ϟ];exact Qg l t h
theorem Xb(h:w.ownsRow base 63 5 (vS (τ g) es.length cap) es.length (Aq es)):HoldsK JQ 5 w g 0 es.toArray:=by
 intro j c;rw[size_flatK]at c;have f:j<es.length * 5:=by simpa using c
 constructor
 ·have:=World.ownsRow.cells h (g:=g) rfl j _ (flat_get es j f);rw[Ch]at this;exact this
 ·rcases h.2 with⟨a,_⟩|⟨m,i,k,a,p,e,_⟩
  ·cases a
  ·cases a
   simp[World.frozen?,e]
theorem Qh{os:Array Obj}{b:Nat}(a:b<w.heap.size)(c:b≠g):(sortWorldK JQ 5 w g 0 n d os).heap[b]? =w.heap[b]? :=by
 show((w.heap.modify g _)++os)[b]? =_;rw[Array.getElem?_append_left (by rw[Array.size_modify];exact a),Array.getElem?_modify,if_neg (λe=>c e.symm)]
theorem Vy{os:Array Obj}:w.heap.size<=(sortWorldK JQ 5 w g 0 n d os).heap.size:=by
 show _<=((w.heap.modify g _)++os).size;rw[Array.size_append,Array.size_modify];omega
theorem Zg{os:Array Obj}(a:base<=g)(e:base<=w.heap.size):Below base w (sortWorldK JQ 5 w g 0 n d os):=
 ⟨rfl,rfl,rfl,Vy,λk c=>Qh ϟ ϟ⟩
theorem AcD{d:List EM}{os:Array Obj}(h:w.ownsRow base 63 5 (vS (τ g) es.length cap) es.length (Aq es))(c:d.length=es.length):
 (sortWorldK JQ 5 w g 0 n d.toArray os).ownsRow base 63 5 (vS (τ g) es.length cap) es.length (Aq d):=by
 refine⟨by rw[E4,c],?_⟩;rcases h.2 with⟨e,_⟩|⟨u,s,a,e,m,j,f,p,i,x⟩
 ·cases e
 ·cases e
  have q:g<w.heap.size:=(Array.getElem?_eq_some_iff.1 j).1;refine .inr ⟨g,cap,putCells id 0 (flatK JQ 5 d.toArray) a,rfl,m,?_,f,p,by simpa[putCells]using i,?_⟩
  ·show((w.heap.modify g _)++os)[g]? =_;rw[Array.getElem?_append_left (by rw[Array.size_modify];exact q),Array.getElem?_modify,if_pos rfl,j];rfl
  ·apply ext_getElem?;intro t;have y:es.length * 5<=a.size:=by rw[i];exact Nat.mul_le_mul_right _ f
   by_cases k:t<es.length * 5
   ·rw[getElem?_take_of_lt k,flat_get d t (by rw[c];exact k)];have r:t<a.size:=ϟ;simp only[putCells,Array.getElem?_toList,Array.getElem?_mapIdx,Array.getElem?_eq_getElem r,Option.map_some];rw[if_pos ⟨Nat.zero_le _,by rw[size_flatK];simp;omega⟩];rfl
   ·rw[getElem?_eq_none (by rw[length_take];omega),getElem?_eq_none (by rw[E4,c];omega)]
theorem Xc{l:List Ent}{d:List EM}{os:Array Obj}(h:OE w base (vS (τ g) es.length cap) es l)(s:d.Perm es):
 ∃t,t.Perm l/\OE (sortWorldK JQ 5 w g 0 n d.toArray os) base (vS (τ g) es.length cap) d t:=by
 have r:=s.length_eq;have E:es=(es.zip l).map Prod.fst:=(map_fst_zip (by rw[h.len];exact Nat.le_refl _)).symm;have el:(es.zip l).map Prod.snd=l:=map_snd_zip (by rw[h.len];exact Nat.le_refl _);obtain⟨m,u,p⟩:=Xa Prod.fst s (es.zip l) E;refine⟨m.map Prod.snd,by have:=u.map Prod.snd;rwa[el]at this,⟨Nat.le_trans h.low Vy,?_,?_,λi a=>?_⟩⟩
 ·rw[r];exact AcD h.own r
 ·rw[p,lMp,lMp]
 ·rw[lMp]at a;have H:m[i]∈es.zip l:=u.mem_iff.1 (getElem_mem a);obtain⟨j,F,f⟩:=getElem_of_mem H;have k:j<l.length:=by rw[length_zip]at F;omega
  have G:j<es.length:=by rw[h.len];exact k
  rw[getElem_zip]at f;have C:d.getD i ϰ=es.getD j ϰ:=by
   rw[p,gDe,getElem?_map,gEe a,<-f,gDe,gEe G];rfl
  have D:(m.map Prod.snd).getD i ϰ=l.getD j ϰ:=by
   rw[gDe,getElem?_map,gEe a,<-f,gDe,gEe k];rfl
  rw[C,D];obtain⟨x,y,z,A,B,c⟩:=h.rows j k;refine⟨x,y,z,A,B,A2 c (λb q=>Qh (AM c q).2 (λe=>?_))⟩;exact IF h.own c Ϡ (show(Value.slice (τ g) es.length cap).ownBlock=some b by rw[e];rfl) q
def cfE(a b:EM):Int:=cmpP a.ent b.ent
theorem Qi(a b:EM):ltOf cfE a b=decide (ltP a.ent b.ent):=AcC a b
theorem swoE:SWO (ltOf cfE) where
 irrefl x:=by rw[Qi];exact decide_eq_false (CL _)
 trans x y z h1 h2:=by
  rw[Qi]at *;exact decide_eq_true (Co (of_decide_eq_true h1) (of_decide_eq_true h2))
 ntrans x y z h1 h2:=by
  rw[Qi]at *;have e:=of_decide_eq_false h1;have c:=of_decide_eq_false h2;refine decide_eq_false (λh=>?_);rcases ltP_tri x.ent y.ent with a|a|a
  ·exact e a
  ·exact c (ZM (FC a) h)
  ·exact c (Co a h)
theorem cmpE(g a size:Nat)(w:ϛ):CmpLays Tryz.prog 116 #[] JQ 5 cfE g a size w:=by
 intro m c dk _ x y;rw[Array.append_empty];exact Qf x y _
theorem AcE{w':ϛ}{base':Nat}{e f:EM}{x y:Ent}(h:OR w base e x)(k:OR w' base' f y):ltP e.ent f.ent↔ltP x y:=by
 unfold ltP EM.ent;simp only[h.key,h.time,h.seq,k.key,k.time,k.seq]
theorem Ry(base:Nat)(v:Value)(es:List EM)(l:List Ent)(w:ϛ)(h:OE w base v es l)(M:es.length<=1000000):
 η 115 #[v,.func (.func 116) #[] #[]] w λe w'=>e= .returned (.tuple #[])/\∃A c,c.Perm l/\(∀i j,i<j->j<c.length->¬ltP (c.getD j ϰ) (c.getD i ϰ))/\OE w' base v A c/\Below base w w'/\(∀b,b<w.heap.size->v.ownBlock≠some b->w'.heap[b]? =w.heap[b]?):=by
 rcases h.own.2 with⟨m,B⟩|⟨g,cap,L,m,C,E,_⟩
 ·subst m;refine(AnyF.slices_SortFunc_none Tryz.sortE none 0 (.func (.func 116) #[] #[]) w).mono ?_;rintro e w' ⟨rfl,rfl⟩;exact⟨rfl,es,l,List.Perm.refl _,λi j s f=>by rw[<-h.len,B]at f;omega,h,bR,λ_ _ _=>rfl⟩
 ·subst m;have F:g<w.heap.size:=(Array.getElem?_eq_some_iff.1 E).1;have y:∀p w,(callFunc 116 p).run Tryz.prog w= .ok (.enter 116 p) w:=enters_of func116 Ϣ rfl;have q:=AnyQ.slices_SortFunc Tryz.sortE 5 Tryz.isAgg63 Tryz.sizeOf63 JQ Ze Zf cfE swoE 116 #[] g 0 cap es.toArray w y (cmpE g 0 es.toArray.size w) (Xb h.own) F Ϥ;rw[size_toArray]at q;refine Calls.mono q ?_;rintro e w' ⟨rfl,a,n,x,u,K,rfl⟩;obtain⟨a,rfl⟩:∃z:List EM,a=z.toArray:=⟨a.toList,ϡ⟩;have r:a.length=es.length:=by have:=u.1;simpa using this
  have J:a.Perm es:=by
   have:=u.2.2;simpa[r,take_of_length_le]using this
  obtain⟨c,pl,k⟩:=Xc (n:=n) (os:=x) h J;refine⟨rfl,a,c,pl,λi j s f=>?_,k,Zg C h.low,λb D I=>Qh D (λe=>I (by rw[e];rfl))⟩;have t:j<a.length:=by rw[k.len];exact f
  have:=K i j (Nat.zero_le _) s (by rw[<-r];exact t);rw[H4 a j t,H4 a i ϟ,Qi]at this;have H:=of_decide_eq_false this;exact λG=>H ((AcE (k.rows j f) (k.rows i ϟ)).2 G)
end bf
namespace bf
open vl
attribute [local go_sem] Oper.semAt_some
variable {LB b n : Nat} {W X Y w3 w4 : ϛ} {v : Value} {es : List EM} {l : List Ent} {o : Obj}
def LJ(n LB:Nat):Nat->Obj->Prop:=λb o=>b≠LB/\∀c f,o= .cells c 63 f->b<n
theorem Xd(h:b<n)(a:n<=LB):names (LJ n LB) W b:=λo _=>⟨ϟ,λ_ _ _=>h⟩
theorem Rz{t:TypeId}(h:An W b t)(ht:t≠63)(k:b≠LB):names (LJ n LB) W b:=λo m=>⟨k,λc f e=>by
 obtain⟨p,q,a⟩:=h;rw[m]at a;rw[e]at a;injection a with i
 injection i with _ j _
 exact absurd j.symm ht⟩
structure Mk(X:World)(n LB:Nat)(v:Value)(es:List EM)(l:List Ent):Prop where
 oe:OE X n v es l
 c:Δ X LB 0 v
 f:Ξ X LB 0
 ty:An X LB 26
theorem Mk.below(h:Mk X n LB v es l)(a:Ϟ X Y):Mk Y n LB v es l:=
 ⟨h.oe.below a,cLz a h.c,(a.frozen (p:=⟨LB,0,none⟩) (AX h.ty)).trans h.f,Ae h.ty a⟩
theorem Mk.row{row:Option Nat}(h:Mk X n LB v es l)(k:X.grownBy Y row)(u:∀r,row=some r->∃x:Obj,X.heap[r]? =some x/\x.isCells=false):Mk Y n LB v es l:=by
 have m:∀(b:Nat) (c:Array Value) (t:TypeId) (f:Nat×Nat),X.heap[b]? =some (.cells c t f)->Y.heap[b]? =X.heap[b]? :=λb c t f j=>k.block b (Array.getElem?_eq_some_iff.1 j).1 (λe=>by
  obtain⟨x,i,q⟩:=u b e.symm;rw[j]at i;cases i;cases q)
 obtain⟨z,B,y⟩:=h.ty;have e:=m _ _ _ _ y;exact⟨h.oe.same k.size (λg A t s _=>m _ _ _ _ s),(cOb (a:=⟨LB,0,none⟩) e).trans h.c,(AG (p:=⟨LB,0,none⟩) e).trans h.f,AW h.ty e⟩
theorem Ml{e:EM}{y:Ent}{g c4:Nat}(h:Mk X n LB v es l)(i:Ϟ X w3)(N:OR w3 n e y)(I:n<=LB)
 (M:w4.ownsRow n 63 5 (vS (τ g) (es.length+1) c4) (es.length+1) (Aq es++[.string e.key,vI e.time,vI e.seq,hdV e.row,.bool e.met])) (t:(w3.alloc o).grownBy w4 v.ownBlock) (B:Nat):
 Mk (φ w4 LB 0 (vS (τ g) (es.length+1) c4)) n LB (vS (τ g) (es.length+1) c4) (es++[e]) (l++[y])/\Below n X (φ w4 LB 0 (vS (τ g) (es.length+1) c4))/\
 KeepO (LJ n LB) X (φ w4 LB 0 (vS (τ g) (es.length+1) c4))/\KeepsFrom B X (φ w4 LB 0 (vS (τ g) (es.length+1) c4)):=by
 have c:=h.below i;have G:=IG h.oe i N M t;have K:=AX c.ty;have s:∀b,b<w3.heap.size->v.ownBlock≠some b->w4.heap[b]? =w3.heap[b]? :=λb j L=>by
  rw[t.block b Ϥ (λe=>L e.symm)];exact Below.heap_alloc _ _ b j
 have q:w4.heap[LB]? =w3.heap[LB]? :=s LB K (λe=>tyAt_apart (A6 c.oe.own e) c.ty Ϡ rfl);have x:An w4 LB 26:=AW c.ty q;have H:=(cOb (a:=⟨LB,0,none⟩) q).trans c.c;have Q:=(AG (p:=⟨LB,0,none⟩) q).trans c.f;have C:∀b u,b≠LB->(w4.setCell ⟨LB,0,none⟩ u).heap[b]? =w4.heap[b]? :=λb u j=>heap_setCell_other _ _ _ _ j;refine⟨⟨G.1.other (by simp[World.setCell]) (λb j=>C b _ (by rcases j with k|k;exact tyAt_apart k x Ϡ;exact tyAt_apart k x Ϡ)),World.cell?_setCell_same _ _ _ H,ϣ,Ao x _ _⟩,G.2.setCell I _,λb ob f r E=>?_,?_⟩
 ·have F:b<X.heap.size:=(Array.getElem?_eq_some_iff.1 f).1;have A:=i.block b F;rw[C b _ E.1,s b (Nat.lt_of_lt_of_le F i.size) (λe=>?_),A]
  ·exact f
  ·obtain⟨z,D,k⟩:=A6 c.oe.own e;rw[A,f]at k;injection k with k
   have:=E.2 z D k;have:=(AM c.oe.own e).1;omega
 ·have O:KeepsFrom B X w3:=Cl i;have P:KeepsFrom B w3 w4:=⟨by have:=t.size;simp at this;omega,λk ob R f r=>by
   have J:k<w3.heap.size:=(Array.getElem?_eq_some_iff.1 f).1;rw[s k J (λe=>?_)]
   ·exact f
   ·obtain⟨z,D,m⟩:=A6 c.oe.own e;rw[f]at m;injection m with m
    rw[m]at r
    cases r⟩
  exact(O.trans P).trans ((KeepsOthers.setCell _ _ _).from _)
theorem TJ(h:Mk X n LB v es l)(i:Ϟ X w3)(j:(w3.alloc o).grownBy w4 v.ownBlock):Δ w4 LB 0 v/\Ξ w4 LB 0:=by
 have c:=h.below i;have k:=AX c.ty;have f:w4.heap[LB]? =w3.heap[LB]? :=by
  rw[j.block LB Ϥ (λe=>tyAt_apart (A6 c.oe.own e.symm) c.ty Ϡ rfl)];exact Below.heap_alloc _ _ LB k
 exact⟨(cOb (a:=⟨LB,0,none⟩) f).trans c.c,(AG (p:=⟨LB,0,none⟩) f).trans c.f⟩
theorem Ez{F:Fence}{f:Array Oper}{o:Oper}{a:Act}{K:Act->World->Prop}{Q:Exit->Act->World->Prop}{E:Prop}{w w':ϛ}{i v':Value}(s x:Operand)(t:TypeId)(e:o.op=Op.call {callee:=Callee.builtin Builtin.append,args:=#[s,x],argTypes:=#[t,t]})
 (m:a.eval s=v) (q:a.eval x=i) (p:Region.wanted o (yielded f a.tmps)=true) (k:(Builtin.append_ #[t,t] o.type #[v,i]).run Tryz.prog w= .ok v' w') (h:K (a.put o.dst v') w'):
 if Region.wanted o (yielded f a.tmps)=true then Oper.wpIn F n Tryz.prog o a w K Q else E:=by
 rw[if_pos p];unfold Oper.wpIn;refine⟨?_,?_⟩
 ·simp[Oper.about,e,resolve,Target.leads,Sem.run_pure]
 ·rw[Oper.semAt_plain F _ _ (by rw[e];intro c j;cases j)];simp[execOp,e,resolve,invoke,builtin,m,q,k,Result.andThen];exact h
theorem OT(I:FuncId)(eg:∀a0 w,(callFunc I a0).run Tryz.prog w= .ok (.enter I a0) w)(M:Array Value)(P:Ent->Bool)(b:Buf)(x:BX)(w:ϛ)(h:bufAt w b x)(hs:(Aa b).length<=100000)(az:∀y∈Aa b,y.row.length<=1000000)
 (H:∀e y J,ER J e y->y∈Aa b->Ϟ w J->Calls Tryz.prog I (#[e.val]++M) J (θ J (.bool (P y)))):
 η 58 #[AF b x,.func (.func I) #[] M] w λe w'=>(∃(hh:Hdr) (Z:List EM) (l':List Ent),e= .returned (hdV hh)/\l'.Perm ((Aa b).filter P)/\(∀i j,i<j->j<l'.length->¬ltP (l'.getD j ϰ) (l'.getD i ϰ))/\OE w' w (hdV hh) Z l')/\Ϟ w w':=by
 obtain⟨i0,a1,a4,a5,a6⟩:=info_parts Nk;have HI:ϝ (Tryz.prog.info? 63=some i0/\i0.zero=some (.agg #[ϊ,ω,ω,ψ,ϋ])/\i0.size=5/\i0.bytes=64):=⟨a1,a4,a5,a6⟩;clear a1 a4 a5 a6;have HB:=hV0 h;have ai:ϝ (ERs w (ems (x.m::x.rs)) (Aa b)):=Ek h;obtain⟨L,hL⟩:=nM (Aa b);rw[hL]at ai hs az H⊢;have HH:ϝ (∀e y J,ER J e y->y∈L->Ϟ w J->CT I (#[e.val]++M) J (θ J (.bool (P y)))):=H;have ao:ϝ ((∀y∈L,y.row.length<=1000000)/\L.length<=100000):=⟨az,hs⟩;clear hL h H az hs;obtain⟨F,G,⟨⟨q,s,A⟩,ml⟩,O⟩:=x;obtain⟨C,bp,bq⟩:=b;unfold AF;dsimp only at ai⊢;rw[show hdV (q,s,A)=vS q s A from rfl];obtain⟨n,hn⟩:∃n,O.length=n:=⟨_,rfl⟩;have HN:=hV0 hn;rw[hn];clear hn;refine(callsIn_wide (n:=0)).1 ?_;refine callsIn_of_wp_marks func58 rfl trivial ?_ rfl;simp only[ntmps58,size_toArray,length_cons,length_nil,Nat.reduceAdd,Nat.reduceSub,Array.replicate_succ,Array.replicate_zero,push_toArray,append_toArray,nil_append,cons_append]
 gi_wp2_with (refine⟨trivial,rfl,?_⟩;gi_at_call 113;refine(callsIn_wide.2 (II _ _ _ rfl rfl rfl _)).mono ?_;rintro e w' ⟨rfl,rfl⟩)
 have V0:Δ (ξ (ξ (ξ (ξ w (ν C q s A F n G) 29) #[.func (.func I) #[] M] 110) #[ψ] 26) (ν C q s A F n G) 29) (w+1) 0 (.func (.func I) #[] M):=ϣ;have V3:Δ (ξ (ξ (ξ (ξ w (ν C q s A F n G) 29) #[.func (.func I) #[] M] 110) #[ψ] 26) (ν C q s A F n G) 29) (w+1+1) 0 (vS none 0 0):=ϣ;have V4:Ξ (ξ (ξ (ξ (ξ w (ν C q s A F n G) 29) #[.func (.func I) #[] M] 110) #[ψ] 26) (ν C q s A F n G) 29) (w+1+1) 0:=ϣ;have V5:Δ (ξ (ξ (ξ (ξ w (ν C q s A F n G) 29) #[.func (.func I) #[] M] 110) #[ψ] 26) (ν C q s A F n G) 29) (w+1+1+1) 0 (vI C):=ϣ;have V6:Δ (ξ (ξ (ξ (ξ w (ν C q s A F n G) 29) #[.func (.func I) #[] M] 110) #[ψ] 26) (ν C q s A F n G) 29) (w+1+1+1) 1 (vS q s A):=ϣ;have V7:Δ (ξ (ξ (ξ (ξ w (ν C q s A F n G) 29) #[.func (.func I) #[] M] 110) #[ψ] 26) (ν C q s A F n G) 29) (w+1+1+1) 2 (vS F n G):=ϣ;have V8:Ϟ w (ξ (ξ (ξ (ξ w (ν C q s A F n G) 29) #[.func (.func I) #[] M] 110) #[ψ] 26) (ν C q s A F n G) 29):=by
  repeat (first|exact bR|(refine Below.alloc ?_ Ϧ _))
 have V9:((((w.alloc (.cells (ν C q s A F n G) 29)).alloc (.cells #[.func (.func I) #[] M] 110)).alloc (.cells #[ψ] 26)).alloc (.cells (ν C q s A F n G) 29)).heap.size=w.heap.size+1+1+1+1:=ϡ;have T1:An (ξ (ξ (ξ (ξ w (ν C q s A F n G) 29) #[.func (.func I) #[] M] 110) #[ψ] 26) (ν C q s A F n G) 29) (w.heap.size+1) 110:=Ae (Ae ⟨_,_,(by have h:=World.alloc_heap_new (ξ w (ν C q s A F n G) 29) (.cells #[.func (.func I) #[] M] 110);rw[World.size_alloc]at h;exact h)⟩ Ϫ) Ϫ;have T2:An (ξ (ξ (ξ (ξ w (ν C q s A F n G) 29) #[.func (.func I) #[] M] 110) #[ψ] 26) (ν C q s A F n G) 29) (w.heap.size+1+1) 26:=Ae ⟨_,_,(by have h:=World.alloc_heap_new (ξ (ξ w (ν C q s A F n G) 29) #[.func (.func I) #[] M] 110) (.cells #[ψ] 26);rw[World.size_alloc,World.size_alloc]at h;exact h)⟩ Ϫ;have T3:An (ξ (ξ (ξ (ξ w (ν C q s A F n G) 29) #[.func (.func I) #[] M] 110) #[ψ] 26) (ν C q s A F n G) 29) (w.heap.size+1+1+1) 29:=⟨_,_,(by have h:=World.alloc_heap_new (ξ (ξ (ξ w (ν C q s A F n G) 29) #[.func (.func I) #[] M] 110) #[ψ] 26) (.cells (ν C q s A F n G) 29);rw[World.size_alloc,World.size_alloc,World.size_alloc]at h;exact h)⟩;generalize ((((w.alloc (.cells (ν C q s A F n G) 29)).alloc (.cells #[.func (.func I) #[] M] 110)).alloc (.cells #[ψ] 26)).alloc (.cells (ν C q s A F n G) 29))=V at *;have N1:names (LJ w.heap.size (w.heap.size+1+1)) V (w.heap.size+1):=Rz T1 Ϡ ϟ;have N3:names (LJ w.heap.size (w.heap.size+1+1)) V (w.heap.size+1+1+1):=Rz T3 Ϡ ϟ;have aw:=GP HB.o V8 (w.heap.size+1+1+1) (LJ w.heap.size (w.heap.size+1+1)) V5 V6 (by rw[HN.o];exact V7) N3 (λk hk=>Xd hk ϟ) (λk c f hk=>⟨ϟ,λc' f' e=>by injection e with _ e2 _;exact absurd e2 Ϡ⟩) (λk c f hk=>⟨ϟ,λc' f' e=>by injection e with _ e2 _;exact absurd e2 Ϡ⟩);have a9:ϝ (Mk V w.heap.size (w.heap.size+1+1) (vS none 0 0) [] []):=⟨BD ϟ,V3,V4,T2⟩
 clear V3 V4 V5 V6 V7 T1 T2 T3;dsimp only at aw;obtain⟨E,hE⟩:=nM (ems ((((q,s,A):Hdr),ml)::O));rw[hE]at aw ai;clear hE;refine D6 (gf:=161) (lb:=#[.pointer (some ⟨w+1+1+1,0,none⟩)]) rfl (enters_of func161 Ϣ rfl) aw bR (λx hx=>by obtain⟨p,_,rfl⟩:=mem_map.1 hx;rfl) (λh k=>KeepO.trans h k) (λW l o o' _ h ho=>KeepO.put W l o o' h ho)
  (λi X=>(∃(v:Hdr) (Z:List EM),Mk X w.heap.size (w.heap.size+1+1) (hdV v) Z ((L.take i).filter P))/\KeepO (LJ w.heap.size (w.heap.size+1+1)) V X/\Ϟ w X) (λc X=>False)
  (λi X X' a8 hs hg hr=>by
   obtain⟨⟨v,Z,N⟩,h2,h3⟩:=hs;exact⟨⟨v,Z,N.row hg (λr e=>(hr r e).2)⟩,h2.grown hg (λr e=>(hr r e).2),Di h3 nR ϟ hg hr⟩)
  (λc X X' a8 hs hg hr=>hs)
  ⟨⟨(none,0,0),[],a9.o⟩,KeepO.refl _ _,V8⟩
  (λi a' X=> ∃B,a'={tmps:=#[.agg #[vI C,vS q s A,vS F n G],.func (.func I) #[] M,.pointer (some ⟨w,0,none⟩),.pointer (some ⟨w+1,0,none⟩),vS none 0 0,.pointer (some ⟨w+1+1,0,none⟩),.pointer (some ⟨B,0,none⟩),.agg #[vI C,vS q s A,vS F n G],.func (.func 161) #[] #[.pointer (some ⟨w+1+1+1,0,none⟩)],(E.getD i ϰ).val,undef,undef,undef,undef,undef,undef,undef,undef,undef,undef,undef],defers:=[]}/\Ϗ X B (.string (E.getD i ϰ).key) (vI (E.getD i ϰ).time) (vI (E.getD i ϰ).seq) (hdV (E.getD i ϰ).row) (.bool (E.getD i ϰ).met))
  (λi a' u X X' a8 hs hg hr=>by
   obtain⟨B,h1,h2,h3,h4,h5,h6⟩:=hs;exact⟨B,h1,cell_kept h2 hg (λr e=>(hr r e).2),cell_kept h3 hg (λr e=>(hr r e).2),cell_kept h4 hg (λr e=>(hr r e).2),cell_kept h5 hg (λr e=>(hr r e).2),cell_kept h6 hg (λr e=>(hr r e).2)⟩) ?assign ?body ?done ?stop
 case assign=>
  intro l' k x X K hx hi m;obtain⟨hk,a2⟩:=List.getElem?_eq_some_iff.1 hx;rw[lMp]at hk;rw[getElem_map]at a2;subst a2;have hd:E.getD k ϰ=E[k]:=by rw[gDe,gEe hk];rfl
  have ah:=m;rw[hd]at ah;clear m hd hx;obtain⟨⟨ek,et,es,⟨r1,r2,r3⟩,em⟩,hz⟩:∃z,E[k]=z:=⟨_,rfl⟩;rw[hz]at ah⊢;unfold EM.val hdV at ah⊢;dsimp only at ah⊢;obtain⟨⟨v,Z,N⟩,j2,U⟩:=hi
  gi_wp2
  exact ah _ _ ((KeepsOthers.alloc _ _).from _) (KeepO.alloc _ _) ⟨⟨v,Z,N.below Ϫ⟩,j2.trans (KeepO.alloc _ _),U.alloc U.size _⟩ ⟨X.heap.size,rfl,ϣ,ϣ,ϣ,ϣ,ϣ⟩
 case body=>
  intro l' i x a' X hx bk bn bd aq;obtain⟨⟨⟨v1,v2,v3⟩,Z,N⟩,j2,U⟩:=bd;obtain⟨B,aq,b0,b1,b2,b3,b4⟩:=aq;subst aq;obtain⟨hi,_⟩:=List.getElem?_eq_some_iff.1 hx;rw[lMp]at hi;have bc:=ai.o.1;have av:i<L.length:=ϟ;have am:=ai.o.2 i av;have ax:L.getD i ϰ∈L:=AD av;have KK:ϝ (∀J,Ϟ X J->CT I (#[(E.getD i ϰ).val]++M) J (θ J (.bool (P (L.getD i ϰ))))):=λJ hb=>HH.o _ _ J (am.below (bT U hb)) ax (bT U hb);have KF:ϝ (∀J,Ϟ X J->CT 114 #[(E.getD i ϰ).val] J λr w'=>(∃ad c,r= .returned ((E.getD i ϰ).to (ad,(L.getD i ϰ).row.length,c)).val/\A4 w' J (vS ad (L.getD i ϰ).row.length c) (L.getD i ϰ).row)/\Ϟ J w'):=λJ hb=>GC _ _ J (am.below (bT U hb)) (ao.o.1 _ ax);have HF:ϝ ((L.take (i+1)).filter P=(L.take i).filter P++(if P (L.getD i ϰ)=true then [L.getD i ϰ]else [])):=EY av;have S:=hV0 am;have HM:=hV0 N;have ar:Z.length<=100000:=by
   have h1:=N.oe.len;have h2:=length_filter_le P (L.take i);have h3:=ao.o.2;rw[length_take]at h2;omega
  have bg:v2=Z.length:=by
   obtain⟨ad,cp,hf⟩:=N.oe.form;unfold hdV at hf;injection hf with _ e2 _
  obtain⟨yy,a3⟩:=nM (L.getD i ϰ);rw[a3]at KK KF HF S;obtain⟨⟨ek,et,ag,⟨r1,r2,r3⟩,em⟩,hz⟩:∃z,E.getD i ϰ=z:=⟨_,rfl⟩;rw[hz]at KK KF b0 b1 b2 b3 b4 S⊢;unfold EM.val EM.to hdV at KF;unfold EM.val hdV at KK;unfold hdV at b3;dsimp only at KK KF b0 b1 b2 b3 b4;have c0:=j2.cell N1 V0;have cL:Δ X (w+1+1) 0 (vS v1 v2 v3):=N.c;have lL:=AX N.ty;have lB:B<X.heap.size:=bLt _ _ b0;have bm:Tryz.prog.follows .mixedOrders=true:=Ϣ;have HJ:ϝ (KeepO (LJ w.heap.size (w.heap.size+1+1)) V X):=j2;clear hz a3 hx N am ax bc j2;obtain⟨rl,ay⟩:=nM yy.row.length;have al:=hV0 ay;rw[ay]at KF;clear ay
  cases hp:P yy with
  |false=>
   rw[hp]at KK HF
   gi_wp2_with (refine⟨trivial,rfl,?_⟩;refine(CallsIn.inRound l' (callsIn_wide.2 (KK.o _ bR))).mono ?_;rintro e w2 ⟨rfl,ac⟩)
   exact⟨Cl ac,λk ob h1 _ _=>(ac.block k (Array.getElem?_eq_some_iff.1 h1).1).trans h1,⟨(v1,v2,v3),Z,by rw[HF.o];simpa using HM.o.below ac⟩,HJ.o.trans (λk ob h1 _ _=>(ac.block k (Array.getElem?_eq_some_iff.1 h1).1).trans h1),bT U ac⟩
  |true=>
   rw[hp]at KK HF;subst bg;obtain⟨en,au⟩:=nM Z.length;have Q:=hV0 au;rw[au]at ar cL;clear au
   gi_wp2_with (refine⟨trivial,rfl,?_⟩;refine(CallsIn.inRound l' (callsIn_wide.2 (KK.o _ bR))).mono ?_;rintro e w2 ⟨rfl,ac⟩;have d0:=cLz ac b0;have d1:=cLz ac b1;have d2:=cLz ac b2;have d3:=cLz ac b3;have d4:=cLz ac b4;have dL:=cLz ac cL)
   have ae:Ϟ X w2:=ac;have an:ϝ (∀w3 aa c3,Ϟ X w3->∃g R w4,(Builtin.append_ #[26,26] 26 #[vS v1 en v3,vS (τ w3) 1 1]).run Tryz.prog (ξ w3 (ζ ek et ag aa rl c3 em) 63)= .ok (vS (τ g) (en+1) R) w4/\
    w4.ownsRow w 63 5 (vS (τ g) (en+1) R) (en+1) (Aq Z++[.string ek,vI et,vI ag,vS aa rl c3,.bool em])/\(w3.alloc (.cells (ζ ek et ag aa rl c3 em) 63)).grownBy w4 (Value.slice v1 en v3).ownBlock):=λw3 aa c3 hb=>by
    have ho:=own_below HM.o.oe.own hb;unfold hdV at ho;rw[Q.o]at ho;have bo:=Nat.le_trans U.size hb.size;obtain⟨v4,w4,q1,q2,q3,_⟩:=run_append_own (P:=Tryz.prog) (ξ w3 (ζ ek et ag aa rl c3 em) 63) w.heap.size 26 26 63 i0 (.agg #[ϊ,ω,ω,ψ,ϋ]) 5 64 underlying26 HI.o.1 HI.o.2.1 HI.o.2.2.1 HI.o.2.2.2 rfl Ϡ _ en _ (World.ownsRow.alloc ho _) ⟨w3,0,none⟩ 1 1 [.string ek,vI et,vI ag,vS aa rl c3,.bool em] rfl (Dd _ _ _ _ _ _ _) (by intro u hu;simp at hu;rcases hu with rfl|rfl|rfl|rfl|rfl<;>rfl) ϩ ϟ Ϥ;obtain⟨g,R,bh⟩:=Fa q2;subst bh;exact⟨g,R,w4,q1,q2,q3⟩
   refine wpIn_region_any (by assumption) ?_
   try (change wpAnyIn _ _ _ _ _ _ _ _ _ (World.drew _))
   refine wpAnyIn_ready (rs:=[0,1]) Ϣ ϡ ?_;refine AllReadyIn.cons rfl (λK m=>?_) ?_
   ·skip;go_simp;refine m _ _ ?_;clear m K;refine wpAnyIn_ready (rs:=[1]) Ϣ ϡ ?_;refine AllReadyIn.cons rfl (λK m=>?_) ?_
    ·skip;go_simp;refine m _ _ ?_;clear m K;refine wpAnyIn_ready (rs:=[2]) Ϣ ϡ ?_;refine AllReadyIn.cons rfl (λK m=>?_) ?_
     ·skip;go_simp
      gi_wp2_with (refine⟨trivial,rfl,?_⟩;gi_at_call 114;refine(CallsIn.inRound l' (callsIn_wide.2 (KF.o _ ae.drew))).mono ?_;rintro e w3 ⟨⟨aa,c3,rfl,aj⟩,ak⟩;have T:Ϟ X w3:=ae.drew.trans (ak.mono ae.size);have fL:=cLz T cL;have a7:=Nat.lt_of_lt_of_le lL T.size;obtain⟨g4,R,w4,q1,q2,q3⟩:=an.o w3 aa c3 T;have ab:=TJ HM.o T (by unfold hdV;dsimp only;rw[Q.o];exact q3);unfold hdV at ab;dsimp only at ab;rw[Q.o]at ab;obtain⟨m4,mf⟩:=ab)
      try (refine m _ _ ?_;clear m K)
      refine wpAnyIn_ready (rs:=[3]) Ϣ ϡ ?_;refine AllReadyIn.cons rfl (λK m=>?_) ?_
      ·skip;go_simp;refine m _ _ ?_;clear m K;refine wpAnyIn_ready (rs:=[4]) Ϣ ϡ ?_;refine AllReadyIn.cons rfl (λK m=>?_) ?_
       ·skip;refine Ez (.tmp 13) (.tmp 16) 26 rfl rfl rfl rfl q1 ?_;refine m _ _ ?_;clear m K;refine wpAnyIn_ready (rs:=[5]) Ϣ ϡ ?_;refine AllReadyIn.cons rfl (λK m=>?_) ?_
        ·skip;go_simp;refine m _ _ ?_;clear m K;refine wpAnyIn_done Ϣ ?_ _
         gi_wp2
         have af:=Ml (e:=⟨ek,et,ag,(aa,rl,c3),em⟩) (y:=yy) (g:=g4) (c4:=R) HM.o T ⟨S.o.key,S.o.time,S.o.seq,S.o.met,al.o.symm,by unfold hdV;dsimp only;exact CK aj (by have:=ae.size;have:=U.size;show w.heap.size<=w2.heap.size;omega)⟩ ϟ (by rw[Q.o];exact q2) (by unfold hdV;dsimp only;rw[Q.o];exact q3) V.heap.size;rw[Q.o]at af;obtain⟨s1,s2,s3,s4⟩:=af;exact⟨s4,s3,⟨(some ⟨g4,0,none⟩,en+1,R),_,by rw[HF.o,if_pos ϧ];exact s1⟩,HJ.o.trans s3,U.trans s2⟩
        exact AllReadyIn.nil
       exact AllReadyIn.nil
      exact AllReadyIn.nil
     exact AllReadyIn.nil
    exact AllReadyIn.nil
   refine AllReadyIn.cons rfl (λK m=>?_) ?_
   ·skip;go_simp;refine m _ _ ?_;clear m K;refine wpAnyIn_ready (rs:=[0,2]) Ϣ ϡ ?_;refine AllReadyIn.cons rfl (λK m=>?_) ?_
    ·skip;go_simp;refine m _ _ ?_;clear m K;refine wpAnyIn_ready (rs:=[2]) Ϣ ϡ ?_;refine AllReadyIn.cons rfl (λK m=>?_) ?_
     ·skip;go_simp
      gi_wp2_with (refine⟨trivial,rfl,?_⟩;gi_at_call 114;refine(CallsIn.inRound l' (callsIn_wide.2 (KF.o _ ae.drew))).mono ?_;rintro e w3 ⟨⟨aa,c3,rfl,aj⟩,ak⟩;have T:Ϟ X w3:=ae.drew.trans (ak.mono ae.size);have fL:=cLz T cL;have a7:=Nat.lt_of_lt_of_le lL T.size;obtain⟨g4,R,w4,q1,q2,q3⟩:=an.o w3 aa c3 T;have ab:=TJ HM.o T (by unfold hdV;dsimp only;rw[Q.o];exact q3);unfold hdV at ab;dsimp only at ab;rw[Q.o]at ab;obtain⟨m4,mf⟩:=ab)
      try (refine m _ _ ?_;clear m K)
      refine wpAnyIn_ready (rs:=[3]) Ϣ ϡ ?_;refine AllReadyIn.cons rfl (λK m=>?_) ?_
      ·skip;go_simp;refine m _ _ ?_;clear m K;refine wpAnyIn_ready (rs:=[4]) Ϣ ϡ ?_;refine AllReadyIn.cons rfl (λK m=>?_) ?_
       ·skip;refine Ez (.tmp 13) (.tmp 16) 26 rfl rfl rfl rfl q1 ?_;refine m _ _ ?_;clear m K;refine wpAnyIn_ready (rs:=[5]) Ϣ ϡ ?_;refine AllReadyIn.cons rfl (λK m=>?_) ?_
        ·skip;go_simp;refine m _ _ ?_;clear m K;refine wpAnyIn_done Ϣ ?_ _
         gi_wp2
         have af:=Ml (e:=⟨ek,et,ag,(aa,rl,c3),em⟩) (y:=yy) (g:=g4) (c4:=R) HM.o T ⟨S.o.key,S.o.time,S.o.seq,S.o.met,al.o.symm,by unfold hdV;dsimp only;exact CK aj (by have:=ae.size;have:=U.size;show w.heap.size<=w2.heap.size;omega)⟩ ϟ (by rw[Q.o];exact q2) (by unfold hdV;dsimp only;rw[Q.o];exact q3) V.heap.size;rw[Q.o]at af;obtain⟨s1,s2,s3,s4⟩:=af;exact⟨s4,s3,⟨(some ⟨g4,0,none⟩,en+1,R),_,by rw[HF.o,if_pos ϧ];exact s1⟩,HJ.o.trans s3,U.trans s2⟩
        exact AllReadyIn.nil
       exact AllReadyIn.nil
      exact AllReadyIn.nil
     exact AllReadyIn.nil
    refine AllReadyIn.cons rfl (λK m=>?_) ?_
    ·skip;go_simp
     gi_wp2_with (refine⟨trivial,rfl,?_⟩;gi_at_call 114;refine(CallsIn.inRound l' (callsIn_wide.2 (KF.o _ ae.drew))).mono ?_;rintro e w3 ⟨⟨aa,c3,rfl,aj⟩,ak⟩;have T:Ϟ X w3:=ae.drew.trans (ak.mono ae.size);have fL:=cLz T cL;have a7:=Nat.lt_of_lt_of_le lL T.size;obtain⟨g4,R,w4,q1,q2,q3⟩:=an.o w3 aa c3 T;have ab:=TJ HM.o T (by unfold hdV;dsimp only;rw[Q.o];exact q3);unfold hdV at ab;dsimp only at ab;rw[Q.o]at ab;obtain⟨m4,mf⟩:=ab)
     try (refine m _ _ ?_;clear m K)
     refine wpAnyIn_ready (rs:=[0,3]) Ϣ ϡ ?_;refine AllReadyIn.cons rfl (λK m=>?_) ?_
     ·skip;go_simp;refine m _ _ ?_;clear m K;refine wpAnyIn_ready (rs:=[3]) Ϣ ϡ ?_;refine AllReadyIn.cons rfl (λK m=>?_) ?_
      ·skip;go_simp;refine m _ _ ?_;clear m K;refine wpAnyIn_ready (rs:=[4]) Ϣ ϡ ?_;refine AllReadyIn.cons rfl (λK m=>?_) ?_
       ·skip;refine Ez (.tmp 13) (.tmp 16) 26 rfl rfl rfl rfl q1 ?_;refine m _ _ ?_;clear m K;refine wpAnyIn_ready (rs:=[5]) Ϣ ϡ ?_;refine AllReadyIn.cons rfl (λK m=>?_) ?_
        ·skip;go_simp;refine m _ _ ?_;clear m K;refine wpAnyIn_done Ϣ ?_ _
         gi_wp2
         have af:=Ml (e:=⟨ek,et,ag,(aa,rl,c3),em⟩) (y:=yy) (g:=g4) (c4:=R) HM.o T ⟨S.o.key,S.o.time,S.o.seq,S.o.met,al.o.symm,by unfold hdV;dsimp only;exact CK aj (by have:=ae.size;have:=U.size;show w.heap.size<=w2.heap.size;omega)⟩ ϟ (by rw[Q.o];exact q2) (by unfold hdV;dsimp only;rw[Q.o];exact q3) V.heap.size;rw[Q.o]at af;obtain⟨s1,s2,s3,s4⟩:=af;exact⟨s4,s3,⟨(some ⟨g4,0,none⟩,en+1,R),_,by rw[HF.o,if_pos ϧ];exact s1⟩,HJ.o.trans s3,U.trans s2⟩
        exact AllReadyIn.nil
       exact AllReadyIn.nil
      exact AllReadyIn.nil
     refine AllReadyIn.cons rfl (λK m=>?_) ?_
     ·skip;go_simp;refine m _ _ ?_;clear m K;refine wpAnyIn_ready (rs:=[0]) Ϣ ϡ ?_;refine AllReadyIn.cons rfl (λK m=>?_) ?_
      ·skip;go_simp;refine m _ _ ?_;clear m K;refine wpAnyIn_ready (rs:=[4]) Ϣ ϡ ?_;refine AllReadyIn.cons rfl (λK m=>?_) ?_
       ·skip;refine Ez (.tmp 13) (.tmp 16) 26 rfl rfl rfl rfl q1 ?_;refine m _ _ ?_;clear m K;refine wpAnyIn_ready (rs:=[5]) Ϣ ϡ ?_;refine AllReadyIn.cons rfl (λK m=>?_) ?_
        ·skip;go_simp;refine m _ _ ?_;clear m K;refine wpAnyIn_done Ϣ ?_ _
         gi_wp2
         have af:=Ml (e:=⟨ek,et,ag,(aa,rl,c3),em⟩) (y:=yy) (g:=g4) (c4:=R) HM.o T ⟨S.o.key,S.o.time,S.o.seq,S.o.met,al.o.symm,by unfold hdV;dsimp only;exact CK aj (by have:=ae.size;have:=U.size;show w.heap.size<=w2.heap.size;omega)⟩ ϟ (by rw[Q.o];exact q2) (by unfold hdV;dsimp only;rw[Q.o];exact q3) V.heap.size;rw[Q.o]at af;obtain⟨s1,s2,s3,s4⟩:=af;exact⟨s4,s3,⟨(some ⟨g4,0,none⟩,en+1,R),_,by rw[HF.o,if_pos ϧ];exact s1⟩,HJ.o.trans s3,U.trans s2⟩
        exact AllReadyIn.nil
       exact AllReadyIn.nil
      exact AllReadyIn.nil
     exact AllReadyIn.nil
    exact AllReadyIn.nil
   exact AllReadyIn.nil
 case done=>
  rintro D X hD ⟨⟨⟨v1,v2,v3⟩,Z,N⟩,j2,U⟩ m;rw[lMp,ai.o.1,take_length]at N;have ar:Z.length<=1000000:=by
   have h1:=N.oe.len;have h2:=length_filter_le P L;have h3:=ao.o.2;omega
  have cL:Δ X (w+1+1) 0 (vS v1 v2 v3):=N.c;have lL:=AX N.ty;have lD:D<X.heap.size:=(Array.getElem?_eq_some_iff.1 m).1;have bi:ϝ (OE X w (vS v1 v2 v3) Z (L.filter P)):=N.oe;have KS:ϝ (CT 115 #[vS v1 v2 v3,.func (.func 116) #[] #[]] X λe w'=>e= .returned (.tuple #[])/\∃ap l2,l2.Perm (L.filter P)/\(∀i j,i<j->j<l2.length->¬ltP (l2.getD j ϰ) (l2.getD i ϰ))/\OE w' w (vS v1 v2 v3) ap l2/\Below w.heap.size X w'/\(∀b,b<X.heap.size->(Value.slice v1 v2 v3).ownBlock≠some b->w'.heap[b]? =X.heap[b]?)):=Ry w.heap.size (vS v1 v2 v3) Z (L.filter P) X N.oe ar;have bb:ϝ ((Value.slice v1 v2 v3).ownBlock≠some (w.heap.size+1+1)):=λe=>tyAt_apart (A6 N.oe.own e) N.ty Ϡ rfl;have ba:ϝ ((Value.slice v1 v2 v3).ownBlock≠some D):=λe=>by
   obtain⟨cc,ff,k⟩:=A6 N.oe.own e;rw[m]at k;cases k
  clear N j2
  gi_wp2_with (refine⟨trivial,rfl,?_⟩;gi_at_call 115;refine(callsIn_wide.2 KS.o).mono ?_;rintro e w2 ⟨rfl,ap,l2,hp,hs,be,hb,hk⟩;have dL:Δ w2 (w+1+1) 0 (vS v1 v2 v3):=(cOb (a:=⟨w+1+1,0,none⟩) (hk _ lL bb.o)).trans cL)
  have ah:w2.heap[D]? =some (.deferred (some [])):=(hk D lD ba.o).trans m;refine⟨ϡ,.inl ⟨_,_,rfl,run_takeDeferred ah,?_⟩⟩;refine⟨_,results_tmp rfl _ _ _,⟨(v1,v2,v3),ap,l2,rfl,hp,hs,?_⟩,CY (U.trans hb) ϟ ah _⟩;exact be.same ϡ (λg bj t hg _=>World.putObj_heap_other (λe=>by rw[e]at hg;rw[ah]at hg;cases hg))
 case stop=>
  rintro D c X hD h m;exact h.elim
end bf
namespace bf
open vl
attribute [local go_sem] Oper.semAt_some
def Md(l:List Ent):Prop:=∀i j,i<j->j<l.length->¬ltP (l.getD j ϰ) (l.getD i ϰ)
theorem Lk(b:Buf)(x:BX)(w:ϛ)(h:bufAt w b x)(J:∀y∈Aa b,wfE y/\wfP (Az y))(H:(Aa b).length<=4611686018427387904)(p:Dy b=0):
 η 26 #[AF b x] w λe w'=>(∃(hh:Hdr) (i:List EM) (c:List Ent),e= .returned (.tuple #[hdV hh,ω])/\c.Perm (Aa b)/\Md c/\OE w' w (hdV hh) i c)/\Ϟ w w':=by
 have A:ϝ (∀a,Ϟ w a->CT 39 #[AF b x] a (θ a (vI 0))):=λa B=>by
  have:=Ce b x a (Ag h B) J H;rwa[p]at this
 have I:=(Ei p).small;have K:=(Ei p).all;have j:ϝ (∀a,Ϟ w a->CT 58 #[AF b x,.func (.func 59) #[] #[]] a λe w'=>(∃(hh:Hdr) (i:List EM) (c:List Ent),e= .returned (hdV hh)/\c.Perm (Aa b)/\Md c/\OE w' a (hdV hh) i c)/\Ϟ a w'):=λa B=>by
  have k:=OT 59 (enters_of func59 Ϣ rfl) #[] (λ_=>true) b x a (Ag h B) ϟ I.2.2 (λe y f _ _ _=>by rw[Array.append_empty];exact GZ e f);rw[filter_eq_self.2 (λ_ _=>rfl)]at k;exact k
 clear h J H p I K;obtain⟨L,E⟩:=nM (Aa b);rw[E]at j⊢;clear E;obtain⟨u,z,⟨⟨r,s,t⟩,R⟩,D⟩:=x;obtain⟨q,Q,S⟩:=b;rw[show AF ⟨q,Q,S⟩ ⟨u,z,((r,s,t),R),D⟩= .agg #[vI q,vS r s t,vS u D.length z]from rfl]at A j⊢;obtain⟨n,G⟩:∃n,D.length=n:=⟨_,rfl⟩;rw[G]at A j⊢;clear G;have F:Ϟ w (ξ w (ν q r s t u n z) 29):=Ϫ;go_enter func26,ntmps26;go_wp2_with (first
  |(go_at_call 39;refine(A.o _ F).mono ?_;rintro e f ⟨rfl,m⟩;have C:Ϟ w f:=bT F m;have T:Δ f w 0 (vI q):=cLz m ϣ;have U:Δ f w 1 (vS r s t):=cLz m ϣ;have V:Δ f w 2 (vS u n z):=cLz m ϣ)
  |(go_at_call 58;refine(j.o _ C).mono ?_;rintro e w3 ⟨⟨hh,i,c,rfl,O,P,N⟩,M⟩))
 go_ret2
 exact⟨⟨hh,i,c,rfl,O,P,N.mono C.size⟩,bT C M⟩
def CH(k:ByteArray)(a z:Int)(y:Ent):Bool:=decide (y.key=k)&&(decide (a<=y.time)&&decide (y.time<=z))
theorem Xe(e:EM)(k:ByteArray)(a z:Int)(m p q:Nat)(w:ϛ)(h1:Δ w m 0 (.string k))(t:Δ w p 0 (vI a))(u:Δ w q 0 (vI z)):
 η 276 #[e.val,μ m,μ p,μ q] w (θ w (.bool (decide (e.key=k)&&(decide (a<=e.time)&&decide (e.time<=z))))):=by
 obtain⟨i,j,es,⟨D,E,F⟩,y⟩:=e;unfold EM.val hdV;dsimp only;have A:m<w.heap.size:=bLt _ _ h1;have B:p<w.heap.size:=bLt _ _ t;have C:q<w.heap.size:=bLt _ _ u;obtain⟨R,c⟩:∃x,(decide (i=k)&&(decide (a<=j)&&decide (j<=z)))=x:=⟨_,rfl⟩;rw[c];by_cases h:i=k
 ·by_cases r:a<=j
  ·by_cases s:j<=z
   ·have f:ϝ (R=true):=by show _=_;rw[<-c];simp[h,r,s]
    clear c;subst h;go_enter func276,ntmps276;go_wp2;go_ret;exact⟨Ab f.o.symm,Ϫ⟩
   ·have f:ϝ (R=false):=by show _=_;rw[<-c];simp[s]
    clear c;subst h;go_enter func276,ntmps276;go_wp2;go_ret;exact⟨Ab f.o.symm,Ϫ⟩
  ·have f:ϝ (R=false):=by show _=_;rw[<-c];simp[r]
   clear c;subst h;go_enter func276,ntmps276;go_wp2;go_ret;exact⟨Ab f.o.symm,Ϫ⟩
 ·have f:ϝ (R=false):=by show _=_;rw[<-c];simp[h]
  clear c;have G:¬i.toList=k.toList:=λe=>h (by have:=bytes_beq i k;rw[e]at this;simpa using this.symm);go_enter func276,ntmps276;go_wp2;go_ret;exact⟨Ab f.o.symm,Ϫ⟩
theorem Vz(b:Buf)(x:BX)(k:ByteArray)(a z:Int)(w:ϛ)(h:bufAt w b x)(N:∀y∈Aa b,wfE y/\wfP (Az y))(K:(Aa b).length<=4611686018427387904)(q:Dy b=0):
 η 273 #[AF b x,.string k,vI a,vI z] w λe w'=>(∃(hh:Hdr) (m:List EM) (i:List Ent),e= .returned (.tuple #[hdV hh,ω])/\i.Perm ((Aa b).filter (CH k a z))/\Md i/\OE w' w (hdV hh) m i)/\Ϟ w w':=by
 have C:ϝ (∀c,Ϟ w c->CT 39 #[AF b x] c (θ c (vI 0))):=λc D=>by
  have:=Ce b x c (Ag h D) N K;rwa[q]at this
 have M:=(Ei q).small;have R:=(Ei q).all;have p:ϝ (∀c,Ϟ w c->Δ c (w+1) 0 (.string k)->Δ c (w+1+1) 0 (vI a)->Δ c (w+1+1+1) 0 (vI z)->CT 58 #[AF b x,.func (.func 276) #[] #[μ (w+1),μ (w+1+1),μ (w+1+1+1)]] c λe w'=>(∃(hh:Hdr) (m:List EM) (i:List Ent),e= .returned (hdV hh)/\i.Perm ((Aa b).filter (CH k a z))/\Md i/\OE w' c (hdV hh) m i)/\Ϟ c w'):=λc D O P Q=>
  OT 276 (enters_of func276 Ϣ rfl) #[μ (w+1),μ (w+1+1),μ (w+1+1+1)] (CH k a z) b x c (Ag h D) ϟ M.2.2 (λe y j I _ f=>by
   have:=Xe e k a z (w.heap.size+1) (w.heap.size+1+1) (w.heap.size+1+1+1) j (cLz f O) (cLz f P) (cLz f Q);rw[I.key,I.time]at this;exact this)
 clear h N K q M R;obtain⟨L,G⟩:∃z',(Aa b).filter (CH k a z)=z':=⟨_,rfl⟩;rw[G]at p⊢;clear G;obtain⟨A,B,⟨⟨s,t,u⟩,ml⟩,F⟩:=x;obtain⟨r,aa,ab⟩:=b;rw[show AF ⟨r,aa,ab⟩ ⟨A,B,((s,t,u),ml),F⟩= .agg #[vI r,vS s t u,vS A F.length B]from rfl]at C p⊢;obtain⟨n,J⟩:∃n,F.length=n:=⟨_,rfl⟩;rw[J]at C p⊢;clear J;have H:Ϟ w (ξ (ξ (ξ (ξ w (ν r s t u A n B) 29) #[.string k] 9) #[vI a] 3) #[vI z] 3):=by
  repeat (first|exact bR|(refine Below.alloc ?_ Ϧ _))
 go_enter func273,ntmps273;go_wp2_with (first
  |(go_at_call 39;refine(C.o _ H).mono ?_;rintro e j ⟨rfl,f⟩;have E:Ϟ w j:=bT H f;have k0:Δ j w 0 (vI r):=cLz f ϣ;have k1:Δ j w 1 (vS s t u):=cLz f ϣ;have k2:Δ j w 2 (vS A n B):=cLz f ϣ;have Z:Δ j (w+1) 0 (.string k):=cLz f ϣ;have k4:Δ j (w+1+1) 0 (vI a):=cLz f ϣ;have k5:Δ j (w+1+1+1) 0 (vI z):=cLz f ϣ)
  |(go_at_call 58;refine(p.o _ E Z k4 k5).mono ?_;rintro e w3 ⟨⟨hh,m,i,rfl,U,V,T⟩,S⟩))
 go_ret2
 exact⟨⟨hh,m,i,rfl,U,V,T.mono E.size⟩,bT E S⟩
theorem AcF(k:Int)(w:ϛ)(h:A8 k 1 64=true):η 28 #[vI k] w (θ w (.tuple #[.agg #[vI k,ψ,ψ],ω])):=by
 have c:ϝ (∀a,CT 65 #[vI k] a λe w'=>e= .returned (.bool true)/\w'=a):=λa=>by have:=Il k a;rwa[h]at this
 clear h;go_enter func28,ntmps28;go_wp2_with (go_at_call 65;refine(c.o _).mono ?_;rintro e f ⟨rfl,rfl⟩);exact bodyPost_ret (v:=.tuple #[.agg #[vI k,ψ,ψ],ω]) (by simp[results,results28,go_sem]) rfl ⟨rfl,Ϫ⟩
end bf
namespace pl
open vl
theorem VA(n:Int)(w:ϛ):η 129 #[vI n] w (θ w (.agg #[vI 2,vI n,ϊ])):=by
 go_enter func129,ntmps129;go_wp2;exact bodyPost_ret (v:=.agg #[vI 2,vI n,ϊ]) (by simp[results,results129,go_sem]) rfl ⟨rfl,by repeat (first|exact bR|apply Below.drew|(refine Below.setCell ?_ ϡ _)|(refine Below.alloc ?_ Ϧ _))⟩
theorem AcG{w:ϛ}{b:Nat}{x y:Int}(h0:Δ w b 0 (vI 2))(h1:Δ w b 1 (vI x))(a:Δ w b 2 (.string ⟨#[]⟩))(c:Δ w b 3 (vI 2))(e:Δ w b 4 (vI y))(f:Δ w b 5 (.string ⟨#[]⟩)):
 vl.rowAt w (τ b) [⟨2,x,⟨#[]⟩⟩,⟨2,y,⟨#[]⟩⟩]:=by
 intro i h
 match i,h with
 |0,_=>exact⟨b,0,rfl,h0,h1,a⟩
 |1,_=>exact⟨b,0,rfl,c,e,f⟩
theorem GY(x y:Int)(w:ϛ):η 68 #[vI x,vI y] w λe w'=>(∃a,e= .returned (vS a 2 2)/\vl.rowAt w' a [⟨2,x,⟨#[]⟩⟩,⟨2,y,⟨#[]⟩⟩])/\Ϟ w w':=by
 go_enter func68,ntmps68;go_wp2_with fail;refine(VA _ _).mono ?_;rintro e i ⟨rfl,f⟩;go_wp2_with fail;refine(VA _ _).mono ?_;rintro e j ⟨rfl,h⟩;have c:=bT f h;go_wp2;go_ret;exact⟨⟨_,rfl,AcG ϣ ϣ ϣ ϣ ϣ ϣ⟩,c.alloc c.size _⟩
end pl
end Go.Proofs.YtdohnkkbkfhphaaGreat
