import Derived.Test.YtfkihidbnfkbaaaGreatDoorPv13
import Derived.Shelf.SlSortCmp.NoneTotal
import Derived.Test.YtfkihidbnfkbaaaGreatDoorPv14
set_option linter.all false
set_option maxHeartbeats 64000000
set_option maxRecDepth 100000
open Go.ChangeShapes Go.WideShapes Go.ChangeAt Go.RowKit Go.Sort Go.Shelf List
open Inhabited renaming default->ϰ
namespace Go.Proofs.YtfkihidbnfkbaaaGreatDoor
open Go.Proofs.Tryz
namespace jn
variable {P : Program} {md : Region.Mode} {ops : Array Oper} {Q : Exit -> Act -> World -> Prop} {S : World -> Prop} {d fuel i : Nat} {listed : Array Bool} {a a' : Act} {w : Ϡ} {oi : Oper}
theorem CE{v:Value}(N:Nat)(f:S w)(h:wpAnyH P md ops Q S fuel (listed.setIfInBounds i true) a' w)(q:i+(fuel+1)=N:=by exact rfl)
 (k:ops[i]? =some oi:=by exact rfl) (m:(Region.noSelect ops&&(Region.free md ops listed i&&(Region.ready md ops listed).contains i))=true:=by kernel_rfl) (j:oi.dst=some d:=by exact rfl) (p:Region.wanted oi (yielded ops a.tmps)=true:=by exact rfl) (hy:∀w,S w->(execOp a.eval oi).run P w= .ok (.value v) w:=by(intro r g;(try simp only[boxP,BZ]at g);first|(go_simp;done)|(go_simp;with_reducible rfl))) (ha:a.put (some d) v=a':=by(apply (Oa _ _ _ _).trans;dsimp only[sZ,sSz];try exact rfl))
 (e:∀c a w,Q (.panic c) (a.put oi.dst v) w->Q (.panic c) a w:=by exact λ_ _ _ h=>h):wpAnyH P md ops Q S (fuel+1) listed a w:=gr.PK i (some d) f h k m j p hy ha e
theorem GI(N:Nat)(f:S w)(h:wpAnyH P md ops Q S fuel (listed.setIfInBounds i true) a' w)(p:i+(fuel+1)=N:=by exact rfl)
 (j:ops[i]? =some oi:=by exact rfl) (m:Region.wanted oi (yielded ops a.tmps)=false:=by exact rfl) (k:(Region.noSelect ops&&(Region.free md ops listed i&&(Region.ready md ops listed).contains i))=true:=by kernel_rfl) (g:oi.dst=some d:=by exact rfl) (ha:a.put (some d) undef=a':=by(apply (Oa _ _ _ _).trans;dsimp only[sZ,sSz];try exact rfl))
 (e:∀c a w,Q (.panic c) (a.put oi.dst undef) w->Q (.panic c) a w:=by exact λ_ _ _ h=>h):wpAnyH P md ops Q S (fuel+1) listed a w:=gr.AfL i (some d) f h j k g m ha e
end jn
namespace bf
open vl
def cfE(a b:EM):Int:=Fg a.ent b.ent
theorem Rs(a b:EM):ltOf cfE a b=decide (ltP a.ent b.ent):=Afo a b
theorem swoE:SWO (ltOf cfE) where
 irrefl x:=by rw[Rs];exact decide_eq_false (E6 _)
 trans x y z h1 h2:=by
  rw[Rs]at *;exact decide_eq_true (CM (of_decide_eq_true h1) (of_decide_eq_true h2))
 ntrans x y z h1 h2:=by
  rw[Rs]at *;have f:=of_decide_eq_false h1;have e:=of_decide_eq_false h2;refine decide_eq_false (λh=>?_);rcases ltP_tri x.ent y.ent with c|c|c
  ·exact f c
  ·exact e (AbS (JQ c) h)
  ·exact e (CM c h)
theorem cmpE(g c size:Nat)(w:Ϡ):CmpLays Tryz.prog 272 #[] Ld 5 cfE g c size w:=by
 intro m e dk _ x y;rw[Array.append_empty];exact Rf x y _
theorem Afw{w g:Ϡ}{base c:Nat}{e f:EM}{x y:Ent}(h:OR w base e x)(k:OR g c f y):ltP e.ent f.ent↔ltP x y:=by
 unfold ltP EM.ent;simp only[h.key,h.time,h.seq,k.key,k.time,k.seq]
theorem TI(base:Nat)(v:Value)(es:List EM)(l:List Ent)(w:Ϡ)(h:OE w base v es l)(R:es.length<=1000000):
 χ 351 #[v,.func (.func 272) #[] #[]] w λe k=>e= .returned (.tuple #[])/\∃D f,f.Perm l/\(∀i j,i<j->j<f.length->¬ltP (f.getD j ϰ) (f.getD i ϰ))/\OE k base v D f/\Below base w k/\(∀b,b<w.heap.size->v.ownBlock≠some b->k.heap[b]? =w.heap[b]?):=by
 rcases h.own.2 with⟨q,E⟩|⟨g,B,O,q,F,H,_⟩
 ·subst q;refine(AnyF.slices_SortFunc_none Tryz.sortE none 0 (.func (.func 272) #[] #[]) w).mono ?_;rintro e k ⟨rfl,rfl⟩;exact⟨rfl,es,l,List.Perm.refl _,λi j u m=>by rw[<-h.len,E]at m;omega,h,bR,λ_ _ _=>rfl⟩
 ·subst q;have I:g<w.heap.size:=(Array.getElem?_eq_some_iff.1 H).1;have C:∀r w,(callFunc 272 r).run Tryz.prog w= .ok (.enter 272 r) w:=enters_of func272 ϧ rfl;have s:=AnyQ.slices_SortFunc Tryz.sortE 5 Tryz.isAgg166 Tryz.sizeOf166 Ld Abx Aby cfE swoE 272 #[] g 0 B es.toArray w C (cmpE g 0 es.toArray.size w) (YE h.own) I ϩ;rw[size_toArray]at s;refine Calls.mono s ?_;rintro e k ⟨rfl,c,n,A,y,N,rfl⟩;obtain⟨c,rfl⟩:∃z:List EM,c=z.toArray:=⟨c.toList,Ϧ⟩;have t:c.length=es.length:=by have:=y.1;simpa using this
  have M:c.Perm es:=by
   have:=y.2.2;simpa[t,take_of_length_le]using this
  obtain⟨f,pl,p⟩:=YF (n:=n) (os:=A) h M;refine⟨rfl,c,f,pl,λi j u m=>?_,p,Abz F h.low,λb G L=>Ri G (λe=>L (by rw[e];rfl))⟩;have x:j<c.length:=by rw[p.len];exact m
  have:=N i j (Nat.zero_le _) u (by rw[<-t];exact x);rw[IE c j x,IE c i Ϥ,Rs]at this;have K:=of_decide_eq_false this;exact λJ=>K ((Afw (p.rows j m) (p.rows i Ϥ)).2 J)
end bf
namespace bf
open vl
attribute [local go_sem] Oper.semAt_some
variable {LB b n : Nat} {W X Y w3 : Ϡ} {v : Value} {es : List EM} {l : List Ent} {o : Obj}
def Mx(n LB:Nat):Nat->Obj->Prop:=λb o=>b≠LB/\∀c f,o= .cells c 166 f->b<n
theorem YS(h:b<n)(c:n<=LB):names (Mx n LB) W b:=λo _=>⟨Ϥ,λ_ _ _=>h⟩
theorem TJ{t:TypeId}(h:Ah W b t)(ht:t≠166)(m:b≠LB):names (Mx n LB) W b:=λo p=>⟨m,λc f e=>by
 obtain⟨q,r,g⟩:=h;rw[p]at g;rw[e]at g;injection g with j
 injection j with _ k _
 exact absurd k.symm ht⟩
structure Mk(X:World)(n LB:Nat)(v:Value)(es:List EM)(l:List Ent):Prop where
 oe:OE X n v es l
 c:Δ X LB 0 v
 f:Ξ X LB 0
 ty:Ah X LB 33
theorem Mk.below(h:Mk X n LB v es l)(c:ϣ X Y):Mk Y n LB v es l:=
 ⟨h.oe.below c,cLz c h.c,(c.frozen (p:=⟨LB,0,none⟩) (AH h.ty)).trans h.f,Ak h.ty c⟩
theorem Mk.row{s:Option Nat}(h:Mk X n LB v es l)(m:X.grownBy Y s)(z:∀r,s=some r->∃x:Obj,X.heap[r]? =some x/\x.isCells=false):Mk Y n LB v es l:=by
 have q:∀(b:Nat) (c:Array Value) (t:TypeId) (f:Nat×Nat),X.heap[b]? =some (.cells c t f)->Y.heap[b]? =X.heap[b]? :=λb c t f k=>m.block b (Array.getElem?_eq_some_iff.1 k).1 (λe=>by
  obtain⟨x,j,u⟩:=z b e.symm;rw[k]at j;cases j;cases u)
 obtain⟨B,D,A⟩:=h.ty;have e:=q _ _ _ _ A;exact⟨h.oe.same m.size (λg C t y _=>q _ _ _ _ y),(cOb (a:=⟨LB,0,none⟩) e).trans h.c,(Bc (p:=⟨LB,0,none⟩) e).trans h.f,Aq h.ty e⟩
theorem MQ{w4:Ϡ}{e:EM}{y:Ent}{g c4:Nat}(h:Mk X n LB v es l)(j:ϣ X w3)(O:OR w3 n e y)(J:n<=LB)
 (N:w4.ownsRow n 166 5 (vS (ϋ g) (es.length+1) c4) (es.length+1) (Aw es++[.string e.key,vI e.time,vI e.seq,hdV e.row,.bool e.met])) (x:(w3.alloc o).grownBy w4 v.ownBlock) (B:Nat):
 Mk (ό w4 LB 0 (vS (ϋ g) (es.length+1) c4)) n LB (vS (ϋ g) (es.length+1) c4) (es++[e]) (l++[y])/\Below n X (ό w4 LB 0 (vS (ϋ g) (es.length+1) c4))/\
 A0 (Mx n LB) X (ό w4 LB 0 (vS (ϋ g) (es.length+1) c4))/\KeepsFrom B X (ό w4 LB 0 (vS (ϋ g) (es.length+1) c4)):=by
 have c:=h.below j;have H:=Lu h.oe j O N x;have L:=AH c.ty;have t:∀b,b<w3.heap.size->v.ownBlock≠some b->w4.heap[b]? =w3.heap[b]? :=λb m M=>by
  rw[x.block b ϩ (λe=>M e.symm)];exact Below.heap_alloc _ _ b m
 have r:w4.heap[LB]? =w3.heap[LB]? :=t LB L (λe=>tyAt_apart (A9 c.oe.own e) c.ty ϥ rfl);have z:Ah w4 LB 33:=Aq c.ty r;have I:=(cOb (a:=⟨LB,0,none⟩) r).trans c.c;have U:=(Bc (p:=⟨LB,0,none⟩) r).trans c.f;have D:∀b u,b≠LB->(w4.setCell ⟨LB,0,none⟩ u).heap[b]? =w4.heap[b]? :=λb u m=>heap_setCell_other _ _ _ _ m;refine⟨⟨H.1.other (by simp[World.setCell]) (λb m=>D b _ (by rcases m with k|k;exact tyAt_apart k z ϥ;exact tyAt_apart k z ϥ)),World.cell?_setCell_same _ _ _ I,Ϩ,Ao z _ _⟩,H.2.setCell J _,λb ob f s F=>?_,?_⟩
 ·have G:b<X.heap.size:=(Array.getElem?_eq_some_iff.1 f).1;have C:=j.block b G;rw[D b _ F.1,t b (Nat.lt_of_lt_of_le G j.size) (λe=>?_),C]
  ·exact f
  ·obtain⟨A,E,k⟩:=A9 c.oe.own e;rw[C,f]at k;injection k with k
   have:=F.2 A E k;have:=(AL c.oe.own e).1;omega
 ·have R:KeepsFrom B X w3:=Ca j;have T:KeepsFrom B w3 w4:=⟨by have:=x.size;simp at this;omega,λk ob V f s=>by
   have K:k<w3.heap.size:=(Array.getElem?_eq_some_iff.1 f).1;rw[t k K (λe=>?_)]
   ·exact f
   ·obtain⟨A,E,q⟩:=A9 c.oe.own e;rw[f]at q;injection q with q
    rw[q]at s
    cases s⟩
  exact(R.trans T).trans ((KeepsOthers.setCell _ _ _).from _)
theorem Vt{w4:Ϡ}(h:Mk X n LB v es l)(g:ϣ X w3)(j:(w3.alloc o).grownBy w4 v.ownBlock):Δ w4 LB 0 v/\Ξ w4 LB 0:=by
 have c:=h.below g;have k:=AH c.ty;have f:w4.heap[LB]? =w3.heap[LB]? :=by
  rw[j.block LB ϩ (λe=>tyAt_apart (A9 c.oe.own e.symm) c.ty ϥ rfl)];exact Below.heap_alloc _ _ LB k
 exact⟨(cOb (a:=⟨LB,0,none⟩) f).trans c.c,(Bc (p:=⟨LB,0,none⟩) f).trans c.f⟩
theorem EW{F:Fence}{ops:Array Oper}{o:Oper}{a:Act}{K:Act->World->Prop}{Q:Exit->Act->World->Prop}{E:Prop}{w g:Ϡ}{f v':Value}(s x:Operand)(t:TypeId)(e:o.op=Op.call {callee:=Callee.builtin Builtin.append,args:=#[s,x],argTypes:=#[t,t]})
 (m:a.eval s=v) (q:a.eval x=f) (p:Region.wanted o (yielded ops a.tmps)=true) (k:(Builtin.append_ #[t,t] o.type #[v,f]).run Tryz.prog w= .ok v' g) (h:K (a.put o.dst v') g):
 if Region.wanted o (yielded ops a.tmps)=true then Oper.wpIn F n Tryz.prog o a w K Q else E:=by
 rw[if_pos p];unfold Oper.wpIn;refine⟨?_,?_⟩
 ·simp[Oper.about,e,resolve,Target.leads,Sem.run_pure]
 ·rw[Oper.semAt_plain F _ _ (by rw[e];intro c j;cases j)];simp[execOp,e,resolve,invoke,builtin,m,q,k,Result.andThen];exact h
theorem YT(fn:FuncId)(eg:∀a1 w,(callFunc fn a1).run Tryz.prog w= .ok (.enter fn a1) w)(af:Array Value)(P:Ent->Bool)(b:Buf)(x:BX)(w:Ϡ)(h:bufAt w b x)(hs:(Ab b).length<=100000)(a0:∀y∈Ab b,y.row.length<=1000000)
 (H:∀e y q,ER q e y->y∈Ab b->ϣ w q->Calls Tryz.prog fn (#[e.val]++af) q (ψ q (.bool (P y)))):
 χ 376 #[B5 b x,.func (.func fn) #[] af] w λe w'=>(∃(hh:Hdr) (M:List EM) (l':List Ent),e= .returned (hdV hh)/\l'.Perm ((Ab b).filter P)/\(∀i j,i<j->j<l'.length->¬ltP (l'.getD j ϰ) (l'.getD i ϰ))/\OE w' w (hdV hh) M l')/\ϣ w w':=by
 obtain⟨i0,a2,a5,a6,a7⟩:=info_parts Ue;have HI:Ϣ (Tryz.prog.info? 166=some i0/\i0.zero=some (.agg #[ϐ,Ϗ,Ϗ,ώ,ϑ])/\i0.size=5/\i0.bytes=64):=⟨a2,a5,a6,a7⟩;clear a2 a5 a6 a7;have HB:=hV0 h;have aj:Ϣ (ERs w (ems (x.m::x.rs)) (Ab b)):=E7 h;obtain⟨L,hL⟩:=nM (Ab b);rw[hL]at aj hs a0 H⊢;have HH:Ϣ (∀e y q,ER q e y->y∈L->ϣ w q->CT fn (#[e.val]++af) q (ψ q (.bool (P y)))):=H;have ap:Ϣ ((∀y∈L,y.row.length<=1000000)/\L.length<=100000):=⟨a0,hs⟩;clear hL h H a0 hs;obtain⟨ra,rc,⟨⟨m1,m2,m3⟩,ml⟩,A⟩:=x;obtain⟨ai,bq,br⟩:=b;unfold B5;dsimp only at aj⊢;rw[show hdV (m1,m2,m3)=vS m1 m2 m3 from rfl];obtain⟨n,hn⟩:∃n,A.length=n:=⟨_,rfl⟩;have HN:=hV0 hn;rw[hn];clear hn;refine(callsIn_wide (n:=0)).1 ?_;refine callsIn_of_wp_marks func376 rfl trivial ?_ rfl;simp only[ntmps376,size_toArray,length_cons,length_nil,Nat.reduceAdd,Nat.reduceSub,Array.replicate_succ,Array.replicate_zero,push_toArray,append_toArray,nil_append,cons_append]
 gi_wp2_with (refine⟨trivial,rfl,?_⟩;gi_at_call 237;refine(callsIn_wide.2 (Jp _ _ _ rfl rfl rfl _)).mono ?_;rintro e w' ⟨rfl,rfl⟩)
 generalize ac:((((w.alloc (.cells (τ ai m1 m2 m3 ra n rc) 36)).alloc (.cells #[.func (.func fn) #[] af] 247)).alloc (.cells #[ώ] 33)).alloc (.cells (τ ai m1 m2 m3 ra n rc) 36))=V at *;have V0:Δ V (w+1) 0 (.func (.func fn) #[] af):=by subst ac;go_simp
 have V3:Δ V (w+1+1) 0 (vS none 0 0):=by subst ac;go_simp
 have V4:Ξ V (w+1+1) 0:=by subst ac;go_simp
 have V5:Δ V (w+1+1+1) 0 (vI ai):=by subst ac;go_simp
 have V6:Δ V (w+1+1+1) 1 (vS m1 m2 m3):=by subst ac;go_simp
 have V7:Δ V (w+1+1+1) 2 (vS ra n rc):=by subst ac;go_simp
 have V8:ϣ w V:=by
  subst ac
  repeat (first|exact bR|(refine Below.alloc ?_ ϫ _))
 have V9:V.heap.size=w.heap.size+1+1+1+1:=by subst ac;simp
 have T1:Ah V (w+1) 247:=by subst ac;exact Ak (Ak ⟨_,_,(by have h:=World.alloc_heap_new (ϊ w (τ ai m1 m2 m3 ra n rc) 36) (.cells #[.func (.func fn) #[] af] 247);rw[World.size_alloc]at h;exact h)⟩ ϯ) ϯ
 have T2:Ah V (w+1+1) 33:=by subst ac;exact Ak ⟨_,_,(by have h:=World.alloc_heap_new (ϊ (ϊ w (τ ai m1 m2 m3 ra n rc) 36) #[.func (.func fn) #[] af] 247) (.cells #[ώ] 33);rw[World.size_alloc,World.size_alloc]at h;exact h)⟩ ϯ
 have T3:Ah V (w+1+1+1) 36:=by subst ac;exact⟨_,_,(by have h:=World.alloc_heap_new (ϊ (ϊ (ϊ w (τ ai m1 m2 m3 ra n rc) 36) #[.func (.func fn) #[] af] 247) #[ώ] 33) (.cells (τ ai m1 m2 m3 ra n rc) 36);rw[World.size_alloc,World.size_alloc,World.size_alloc]at h;exact h)⟩
 clear ac;have N1:names (Mx w.heap.size (w.heap.size+1+1)) V (w.heap.size+1):=TJ T1 ϥ Ϥ;have N3:names (Mx w.heap.size (w.heap.size+1+1)) V (w.heap.size+1+1+1):=TJ T3 ϥ Ϥ;have ax:=Hm HB.o V8 (w.heap.size+1+1+1) (Mx w.heap.size (w.heap.size+1+1)) V5 V6 (by rw[HN.o];exact V7) N3 (λk hk=>YS hk Ϥ) (λk c f hk=>⟨Ϥ,λc' f' e=>by injection e with _ e2 _;exact absurd e2 ϥ⟩) (λk c f hk=>⟨Ϥ,λc' f' e=>by injection e with _ e2 _;exact absurd e2 ϥ⟩);have ba:Ϣ (Mk V w.heap.size (w.heap.size+1+1) (vS none 0 0) [] []):=⟨E9 Ϥ,V3,V4,T2⟩;clear V3 V4 V5 V6 V7 T1 T2 T3;dsimp only at ax;obtain⟨E,hE⟩:=nM (ems ((((m1,m2,m3):Hdr),ml)::A));rw[hE]at ax aj;clear hE;refine DD (gf:=276) (lb:=#[.pointer (some ⟨w+1+1+1,0,none⟩)]) rfl (enters_of func276 ϧ rfl) ax bR (λx hx=>by obtain⟨p,_,rfl⟩:=mem_map.1 hx;rfl) (λh k=>A0.trans h k) (λW l o o' _ h ho=>A0.put W l o o' h ho)
  (λi X=>(∃(v:Hdr) (M:List EM),Mk X w.heap.size (w.heap.size+1+1) (hdV v) M ((L.take i).filter P))/\A0 (Mx w.heap.size (w.heap.size+1+1)) V X/\ϣ w X) (λc X=>False)
  (λi X X' a9 hs U hr=>by
   obtain⟨⟨v,M,s⟩,h2,h3⟩:=hs;exact⟨⟨v,M,s.row U (λr e=>(hr r e).2)⟩,h2.grown U (λr e=>(hr r e).2),D4 h3 nR Ϥ U hr⟩)
  (λc X X' a9 hs U hr=>hs)
  ⟨⟨(none,0,0),[],ba.o⟩,A0.refl _ _,V8⟩
  (λi a' X=> ∃B,a'={tmps:=#[.agg #[vI ai,vS m1 m2 m3,vS ra n rc],.func (.func fn) #[] af,.pointer (some ⟨w,0,none⟩),.pointer (some ⟨w+1,0,none⟩),vS none 0 0,.pointer (some ⟨w+1+1,0,none⟩),.pointer (some ⟨B,0,none⟩),.agg #[vI ai,vS m1 m2 m3,vS ra n rc],.func (.func 276) #[] #[.pointer (some ⟨w+1+1+1,0,none⟩)],(E.getD i ϰ).val,undef,undef,undef,undef,undef,undef,undef,undef,undef,undef,undef],defers:=[]}/\ϖ X B (.string (E.getD i ϰ).key) (vI (E.getD i ϰ).time) (vI (E.getD i ϰ).seq) (hdV (E.getD i ϰ).row) (.bool (E.getD i ϰ).met))
  (λi a' u X X' a9 hs U hr=>by
   obtain⟨B,h1,h2,h3,h4,h5,h6⟩:=hs;exact⟨B,h1,cell_kept h2 U (λr e=>(hr r e).2),cell_kept h3 U (λr e=>(hr r e).2),cell_kept h4 U (λr e=>(hr r e).2),cell_kept h5 U (λr e=>(hr r e).2),cell_kept h6 U (λr e=>(hr r e).2)⟩) ?assign ?body ?done ?stop
 case assign=>
  intro l' k x X K hx hi m;obtain⟨hk,a3⟩:=List.getElem?_eq_some_iff.1 hx;rw[lMp]at hk;rw[getElem_map]at a3;subst a3;have hd:E.getD k ϰ=E[k]:=by rw[gDe,gEe hk];rfl
  have ah:=m;rw[hd]at ah;clear m hd hx;obtain⟨⟨ek,et,es,⟨r1,r2,r3⟩,em⟩,hz⟩:∃z,E[k]=z:=⟨_,rfl⟩;rw[hz]at ah⊢;unfold EM.val hdV at ah⊢;dsimp only at ah⊢;obtain⟨⟨v,M,s⟩,j2,J⟩:=hi
  gi_wp2
  exact ah _ _ ((KeepsOthers.alloc _ _).from _) (A0.alloc _ _) ⟨⟨v,M,s.below ϯ⟩,j2.trans (A0.alloc _ _),J.alloc J.size _⟩ ⟨X.heap.size,rfl,Ϩ,Ϩ,Ϩ,Ϩ,Ϩ⟩
 case body=>
  intro l' i x a' X hx bm bo be ar;obtain⟨⟨⟨R,v2,T⟩,M,s⟩,j2,J⟩:=be;obtain⟨B,ar,b0,b1,b2,b3,b4⟩:=ar;subst ar;obtain⟨hi,_⟩:=List.getElem?_eq_some_iff.1 hx;rw[lMp]at hi;have bd:=aj.o.1;have aw:i<L.length:=Ϥ;have an:=aj.o.2 i aw;have ay:L.getD i ϰ∈L:=AN aw;have KK:Ϣ (∀q,ϣ X q->CT fn (#[(E.getD i ϰ).val]++af) q (ψ q (.bool (P (L.getD i ϰ))))):=λq hb=>HH.o _ _ q (an.below (bT J hb)) ay (bT J hb);have KF:Ϣ (∀q,ϣ X q->CT 295 #[(E.getD i ϰ).val] q λr w'=>(∃ad c,r= .returned ((E.getD i ϰ).to (ad,(L.getD i ϰ).row.length,c)).val/\AM w' q (vS ad (L.getD i ϰ).row.length c) (L.getD i ϰ).row)/\ϣ q w'):=λq hb=>Hc _ _ q (an.below (bT J hb)) (ap.o.1 _ ay);have HF:Ϣ ((L.take (i+1)).filter P=(L.take i).filter P++(if P (L.getD i ϰ)=true then [L.getD i ϰ]else [])):=M0 aw;have G:=hV0 an;have HM:=hV0 s;have au:M.length<=100000:=by
   have h1:=s.oe.len;have h2:=length_filter_le P (L.take i);have h3:=ap.o.2;rw[length_take]at h2;omega
  have bh:v2=M.length:=by
   obtain⟨ad,cp,hf⟩:=s.oe.form;unfold hdV at hf;injection hf with _ e2 _
  obtain⟨yy,a4⟩:=nM (L.getD i ϰ);rw[a4]at KK KF HF G;obtain⟨⟨ek,et,ag,⟨r1,r2,r3⟩,em⟩,hz⟩:∃z,E.getD i ϰ=z:=⟨_,rfl⟩;rw[hz]at KK KF b0 b1 b2 b3 b4 G⊢;unfold EM.val EM.to hdV at KF;unfold EM.val hdV at KK;unfold hdV at b3;dsimp only at KK KF b0 b1 b2 b3 b4;have c0:=j2.cell N1 V0;have cL:Δ X (w+1+1) 0 (vS R v2 T):=s.c;have lL:=AH s.ty;have lB:B<X.heap.size:=bLt _ _ b0;have bn:Tryz.prog.follows .mixedOrders=true:=ϧ;have HJ:Ϣ (A0 (Mx w.heap.size (w.heap.size+1+1)) V X):=j2;clear hz a4 hx s an ay bd j2;obtain⟨rl,az⟩:=nM yy.row.length;have am:=hV0 az;rw[az]at KF;clear az
  cases hp:P yy with
  |false=>
   rw[hp]at KK HF
   gi_wp2_with (refine⟨trivial,rfl,?_⟩;refine(CallsIn.inRound l' (callsIn_wide.2 (KK.o _ bR))).mono ?_;rintro e w2 ⟨rfl,aa⟩)
   exact⟨Ca aa,λk ob h1 _ _=>(aa.block k (Array.getElem?_eq_some_iff.1 h1).1).trans h1,⟨(R,v2,T),M,by rw[HF.o];simpa using HM.o.below aa⟩,HJ.o.trans (λk ob h1 _ _=>(aa.block k (Array.getElem?_eq_some_iff.1 h1).1).trans h1),bT J aa⟩
  |true=>
   rw[hp]at KK HF;subst bh;obtain⟨en,av⟩:=nM M.length;have C:=hV0 av;rw[av]at au cL;clear av
   gi_wp2_with (refine⟨trivial,rfl,?_⟩;refine(CallsIn.inRound l' (callsIn_wide.2 (KK.o _ bR))).mono ?_;rintro e w2 ⟨rfl,aa⟩;have d0:=cLz aa b0;have d1:=cLz aa b1;have d2:=cLz aa b2;have d3:=cLz aa b3;have d4:=cLz aa b4;have dL:=cLz aa cL)
   have ab:ϣ X w2:=aa;have ao:Ϣ (∀w3 N O,ϣ X w3->∃g F w4,(Builtin.append_ #[33,33] 33 #[vS R en T,vS (ϋ w3) 1 1]).run Tryz.prog (ϊ w3 (φ ek et ag N rl O em) 166)= .ok (vS (ϋ g) (en+1) F) w4/\
    w4.ownsRow w 166 5 (vS (ϋ g) (en+1) F) (en+1) (Aw M++[.string ek,vI et,vI ag,vS N rl O,.bool em])/\(w3.alloc (.cells (φ ek et ag N rl O em) 166)).grownBy w4 (Value.slice R en T).ownBlock):=λw3 N O hb=>by
    have ho:=own_below HM.o.oe.own hb;unfold hdV at ho;rw[C.o]at ho;have bp:=Nat.le_trans J.size hb.size;obtain⟨v4,w4,q1,q2,q3,_⟩:=run_append_own (P:=Tryz.prog) (ϊ w3 (φ ek et ag N rl O em) 166) w.heap.size 33 33 166 i0 (.agg #[ϐ,Ϗ,Ϗ,ώ,ϑ]) 5 64 underlying33 HI.o.1 HI.o.2.1 HI.o.2.2.1 HI.o.2.2.2 rfl ϥ _ en _ (World.ownsRow.alloc ho _) ⟨w3,0,none⟩ 1 1 [.string ek,vI et,vI ag,vS N rl O,.bool em] rfl (Er _ _ _ _ _ _ _) (by intro u hu;simp at hu;rcases hu with rfl|rfl|rfl|rfl|rfl<;>rfl) Ϯ Ϥ ϩ;obtain⟨g,F,bi⟩:=NZ q2;subst bi;exact⟨g,F,w4,q1,q2,q3⟩
   refine wpIn_region_any (by assumption) ?_
   try (change wpAnyIn _ _ _ _ _ _ _ _ _ (World.drew _))
   refine wpAnyIn_ready (rs:=[0,1]) ϧ Ϧ ?_;refine AllReadyIn.cons rfl (λK m=>?_) ?_
   ·skip;go_simp;refine m _ _ ?_;clear m K;refine wpAnyIn_ready (rs:=[1]) ϧ Ϧ ?_;refine AllReadyIn.cons rfl (λK m=>?_) ?_
    ·skip;go_simp;refine m _ _ ?_;clear m K;refine wpAnyIn_ready (rs:=[2]) ϧ Ϧ ?_;refine AllReadyIn.cons rfl (λK m=>?_) ?_
     ·skip;go_simp
      gi_wp2_with (refine⟨trivial,rfl,?_⟩;gi_at_call 295;refine(CallsIn.inRound l' (callsIn_wide.2 (KF.o _ ab.drew))).mono ?_;rintro e w3 ⟨⟨N,O,rfl,ak⟩,al⟩;have I:ϣ X w3:=ab.drew.trans (al.mono ab.size);have fL:=cLz I cL;have a8:=Nat.lt_of_lt_of_le lL I.size;obtain⟨g4,F,w4,q1,q2,q3⟩:=ao.o w3 N O I;have Z:=Vt HM.o I (by unfold hdV;dsimp only;rw[C.o];exact q3);unfold hdV at Z;dsimp only at Z;rw[C.o]at Z;obtain⟨m4,mf⟩:=Z)
      try (refine m _ _ ?_;clear m K)
      refine wpAnyIn_ready (rs:=[3]) ϧ Ϧ ?_;refine AllReadyIn.cons rfl (λK m=>?_) ?_
      ·skip;go_simp;refine m _ _ ?_;clear m K;refine wpAnyIn_ready (rs:=[4]) ϧ Ϧ ?_;refine AllReadyIn.cons rfl (λK m=>?_) ?_
       ·skip;refine EW (.tmp 13) (.tmp 16) 33 rfl rfl rfl rfl q1 ?_;refine m _ _ ?_;clear m K;refine wpAnyIn_ready (rs:=[5]) ϧ Ϧ ?_;refine AllReadyIn.cons rfl (λK m=>?_) ?_
        ·skip;go_simp;refine m _ _ ?_;clear m K;refine wpAnyIn_done ϧ ?_ _
         gi_wp2
         have ae:=MQ (e:=⟨ek,et,ag,(N,rl,O),em⟩) (y:=yy) (g:=g4) (c4:=F) HM.o I ⟨G.o.key,G.o.time,G.o.seq,G.o.met,am.o.symm,by unfold hdV;dsimp only;exact D7 ak (by have:=ab.size;have:=J.size;show w.heap.size<=w2.heap.size;omega)⟩ Ϥ (by rw[C.o];exact q2) (by unfold hdV;dsimp only;rw[C.o];exact q3) V.heap.size;rw[C.o]at ae;obtain⟨s1,s2,s3,s4⟩:=ae;exact⟨s4,s3,⟨(some ⟨g4,0,none⟩,en+1,F),_,by rw[HF.o,if_pos Ϭ];exact s1⟩,HJ.o.trans s3,J.trans s2⟩
        exact AllReadyIn.nil
       exact AllReadyIn.nil
      exact AllReadyIn.nil
     exact AllReadyIn.nil
    exact AllReadyIn.nil
   refine AllReadyIn.cons rfl (λK m=>?_) ?_
   ·skip;go_simp;refine m _ _ ?_;clear m K;refine wpAnyIn_ready (rs:=[0,2]) ϧ Ϧ ?_;refine AllReadyIn.cons rfl (λK m=>?_) ?_
    ·skip;go_simp;refine m _ _ ?_;clear m K;refine wpAnyIn_ready (rs:=[2]) ϧ Ϧ ?_;refine AllReadyIn.cons rfl (λK m=>?_) ?_
     ·skip;go_simp
      gi_wp2_with (refine⟨trivial,rfl,?_⟩;gi_at_call 295;refine(CallsIn.inRound l' (callsIn_wide.2 (KF.o _ ab.drew))).mono ?_;rintro e w3 ⟨⟨N,O,rfl,ak⟩,al⟩;have I:ϣ X w3:=ab.drew.trans (al.mono ab.size);have fL:=cLz I cL;have a8:=Nat.lt_of_lt_of_le lL I.size;obtain⟨g4,F,w4,q1,q2,q3⟩:=ao.o w3 N O I;have Z:=Vt HM.o I (by unfold hdV;dsimp only;rw[C.o];exact q3);unfold hdV at Z;dsimp only at Z;rw[C.o]at Z;obtain⟨m4,mf⟩:=Z)
      try (refine m _ _ ?_;clear m K)
      refine wpAnyIn_ready (rs:=[3]) ϧ Ϧ ?_;refine AllReadyIn.cons rfl (λK m=>?_) ?_
      ·skip;go_simp;refine m _ _ ?_;clear m K;refine wpAnyIn_ready (rs:=[4]) ϧ Ϧ ?_;refine AllReadyIn.cons rfl (λK m=>?_) ?_
       ·skip;refine EW (.tmp 13) (.tmp 16) 33 rfl rfl rfl rfl q1 ?_;refine m _ _ ?_;clear m K;refine wpAnyIn_ready (rs:=[5]) ϧ Ϧ ?_;refine AllReadyIn.cons rfl (λK m=>?_) ?_
        ·skip;go_simp;refine m _ _ ?_;clear m K;refine wpAnyIn_done ϧ ?_ _
         gi_wp2
         have ae:=MQ (e:=⟨ek,et,ag,(N,rl,O),em⟩) (y:=yy) (g:=g4) (c4:=F) HM.o I ⟨G.o.key,G.o.time,G.o.seq,G.o.met,am.o.symm,by unfold hdV;dsimp only;exact D7 ak (by have:=ab.size;have:=J.size;show w.heap.size<=w2.heap.size;omega)⟩ Ϥ (by rw[C.o];exact q2) (by unfold hdV;dsimp only;rw[C.o];exact q3) V.heap.size;rw[C.o]at ae;obtain⟨s1,s2,s3,s4⟩:=ae;exact⟨s4,s3,⟨(some ⟨g4,0,none⟩,en+1,F),_,by rw[HF.o,if_pos Ϭ];exact s1⟩,HJ.o.trans s3,J.trans s2⟩
        exact AllReadyIn.nil
       exact AllReadyIn.nil
      exact AllReadyIn.nil
     exact AllReadyIn.nil
    refine AllReadyIn.cons rfl (λK m=>?_) ?_
    ·skip;go_simp
     gi_wp2_with (refine⟨trivial,rfl,?_⟩;gi_at_call 295;refine(CallsIn.inRound l' (callsIn_wide.2 (KF.o _ ab.drew))).mono ?_;rintro e w3 ⟨⟨N,O,rfl,ak⟩,al⟩;have I:ϣ X w3:=ab.drew.trans (al.mono ab.size);have fL:=cLz I cL;have a8:=Nat.lt_of_lt_of_le lL I.size;obtain⟨g4,F,w4,q1,q2,q3⟩:=ao.o w3 N O I;have Z:=Vt HM.o I (by unfold hdV;dsimp only;rw[C.o];exact q3);unfold hdV at Z;dsimp only at Z;rw[C.o]at Z;obtain⟨m4,mf⟩:=Z)
     try (refine m _ _ ?_;clear m K)
     refine wpAnyIn_ready (rs:=[0,3]) ϧ Ϧ ?_;refine AllReadyIn.cons rfl (λK m=>?_) ?_
     ·skip;go_simp;refine m _ _ ?_;clear m K;refine wpAnyIn_ready (rs:=[3]) ϧ Ϧ ?_;refine AllReadyIn.cons rfl (λK m=>?_) ?_
      ·skip;go_simp;refine m _ _ ?_;clear m K;refine wpAnyIn_ready (rs:=[4]) ϧ Ϧ ?_;refine AllReadyIn.cons rfl (λK m=>?_) ?_
       ·skip;refine EW (.tmp 13) (.tmp 16) 33 rfl rfl rfl rfl q1 ?_;refine m _ _ ?_;clear m K;refine wpAnyIn_ready (rs:=[5]) ϧ Ϧ ?_;refine AllReadyIn.cons rfl (λK m=>?_) ?_
        ·skip;go_simp;refine m _ _ ?_;clear m K;refine wpAnyIn_done ϧ ?_ _
         gi_wp2
         have ae:=MQ (e:=⟨ek,et,ag,(N,rl,O),em⟩) (y:=yy) (g:=g4) (c4:=F) HM.o I ⟨G.o.key,G.o.time,G.o.seq,G.o.met,am.o.symm,by unfold hdV;dsimp only;exact D7 ak (by have:=ab.size;have:=J.size;show w.heap.size<=w2.heap.size;omega)⟩ Ϥ (by rw[C.o];exact q2) (by unfold hdV;dsimp only;rw[C.o];exact q3) V.heap.size;rw[C.o]at ae;obtain⟨s1,s2,s3,s4⟩:=ae;exact⟨s4,s3,⟨(some ⟨g4,0,none⟩,en+1,F),_,by rw[HF.o,if_pos Ϭ];exact s1⟩,HJ.o.trans s3,J.trans s2⟩
        exact AllReadyIn.nil
       exact AllReadyIn.nil
      exact AllReadyIn.nil
     refine AllReadyIn.cons rfl (λK m=>?_) ?_
     ·skip;go_simp;refine m _ _ ?_;clear m K;refine wpAnyIn_ready (rs:=[0]) ϧ Ϧ ?_;refine AllReadyIn.cons rfl (λK m=>?_) ?_
      ·skip;go_simp;refine m _ _ ?_;clear m K;refine wpAnyIn_ready (rs:=[4]) ϧ Ϧ ?_;refine AllReadyIn.cons rfl (λK m=>?_) ?_
       ·skip;refine EW (.tmp 13) (.tmp 16) 33 rfl rfl rfl rfl q1 ?_;refine m _ _ ?_;clear m K;refine wpAnyIn_ready (rs:=[5]) ϧ Ϧ ?_;refine AllReadyIn.cons rfl (λK m=>?_) ?_
        ·skip;go_simp;refine m _ _ ?_;clear m K;refine wpAnyIn_done ϧ ?_ _
         gi_wp2
         have ae:=MQ (e:=⟨ek,et,ag,(N,rl,O),em⟩) (y:=yy) (g:=g4) (c4:=F) HM.o I ⟨G.o.key,G.o.time,G.o.seq,G.o.met,am.o.symm,by unfold hdV;dsimp only;exact D7 ak (by have:=ab.size;have:=J.size;show w.heap.size<=w2.heap.size;omega)⟩ Ϥ (by rw[C.o];exact q2) (by unfold hdV;dsimp only;rw[C.o];exact q3) V.heap.size;rw[C.o]at ae;obtain⟨s1,s2,s3,s4⟩:=ae;exact⟨s4,s3,⟨(some ⟨g4,0,none⟩,en+1,F),_,by rw[HF.o,if_pos Ϭ];exact s1⟩,HJ.o.trans s3,J.trans s2⟩
        exact AllReadyIn.nil
       exact AllReadyIn.nil
      exact AllReadyIn.nil
     exact AllReadyIn.nil
    exact AllReadyIn.nil
   exact AllReadyIn.nil
 case done=>
  rintro D X hD ⟨⟨⟨R,v2,T⟩,M,s⟩,j2,J⟩ m;rw[lMp,aj.o.1,take_length]at s;have au:M.length<=1000000:=by
   have h1:=s.oe.len;have h2:=length_filter_le P L;have h3:=ap.o.2;omega
  have cL:Δ X (w+1+1) 0 (vS R v2 T):=s.c;have lL:=AH s.ty;have lD:D<X.heap.size:=(Array.getElem?_eq_some_iff.1 m).1;have bj:Ϣ (OE X w (vS R v2 T) M (L.filter P)):=s.oe;have KS:Ϣ (CT 351 #[vS R v2 T,.func (.func 272) #[] #[]] X λe w'=>e= .returned (.tuple #[])/\∃aq l2,l2.Perm (L.filter P)/\(∀i j,i<j->j<l2.length->¬ltP (l2.getD j ϰ) (l2.getD i ϰ))/\OE w' w (vS R v2 T) aq l2/\Below w.heap.size X w'/\(∀b,b<X.heap.size->(Value.slice R v2 T).ownBlock≠some b->w'.heap[b]? =X.heap[b]?)):=TI w.heap.size (vS R v2 T) M (L.filter P) X s.oe au;have bc:Ϣ ((Value.slice R v2 T).ownBlock≠some (w.heap.size+1+1)):=λe=>tyAt_apart (A9 s.oe.own e) s.ty ϥ rfl;have bb:Ϣ ((Value.slice R v2 T).ownBlock≠some D):=λe=>by
   obtain⟨cc,ff,k⟩:=A9 s.oe.own e;rw[m]at k;cases k
  clear s j2
  gi_wp2_with (refine⟨trivial,rfl,?_⟩;gi_at_call 351;refine(callsIn_wide.2 KS.o).mono ?_;rintro e w2 ⟨rfl,aq,l2,hp,hs,bg,hb,hk⟩;have dL:Δ w2 (w+1+1) 0 (vS R v2 T):=(cOb (a:=⟨w+1+1,0,none⟩) (hk _ lL bc.o)).trans cL)
  have ah:w2.heap[D]? =some (.deferred (some [])):=(hk D lD bb.o).trans m;refine⟨Ϧ,.inl ⟨_,_,rfl,run_takeDeferred ah,?_⟩⟩;refine⟨_,results_tmp rfl _ _ _,⟨(R,v2,T),aq,l2,rfl,hp,hs,?_⟩,CY (J.trans hb) Ϥ ah _⟩;exact bg.same Ϧ (λg bk t U _=>World.putObj_heap_other (λe=>by rw[e]at U;rw[ah]at U;cases U))
 case stop=>
  rintro D c X hD h m;exact h.elim
end bf
namespace gr
open vl pl bt jn
attribute [local go_sem] Oper.semAt_some
theorem YU(p:Pln)(x:PA)(i O G PB C:Nat)(oa ga Z:ϡ)(oc gc cc:Nat)(k:List GX)(h:List Grp)(w:Ϡ)
 (hO:Δ w O 0 (vS oa (AZ p).length oc)) (hG:Δ w G 0 (vS ga h.length gc)) (hP:Δ w PB 12 (vS x.a p.aggs.length x.ac)) (hC:Δ w C 0 (vS Z (A7 p).length cc))
 (ac:gsAt w ga k h) (ak:∀g∈h,wfG g) (I:i<h.length) (a7:h.length<=ύ) (a3:Ay w oa (AZ p)) (az:Ay w Z (A7 p)) (av:DI w x.a p.aggs) (a4:(AZ p).length<=ύ) (a0:(A7 p).length<=ύ) (aw:p.aggs.length<=ύ) (a1:∀i,i<p.aggs.length->0<=(p.aggs.getD i (0,0)).2/\(p.aggs.getD i (0,0)).2.toNat<(A7 p).length):
 χ 239 #[vI (i:Nat),LC (k.getD i ϰ) (h.getD i ϰ),ω O,ω G,ω PB,ω C] w (ψ w (.bool (FQ p h i))):=by
 have ah:∀i,i<h.length->h.getD i ϰ∈h:=λi I=>by rw[gDe,gEe I];exact getElem_mem I
 have J:=ak _ (ah i I);have U:=ac.each i I;have M:Ϣ (∀f,ϣ w f->CT 112 #[vS (k.getD i ϰ).r (h.getD i ϰ).row.length (k.getD i ϰ).rc] f (ψ f (.tuple #[.string (FR (h.getD i ϰ).row),vI (Au (h.getD i ϰ).row)]))):=λf m=>Jj _ _ _ f (vl.Ac U.row m) J.row J.rl;have D:Ϣ (∀f,ϣ w f->CT 177 #[vS (k.getD i ϰ).r (h.getD i ϰ).row.length (k.getD i ϰ).rc,vS oa (AZ p).length oc] f (ψ f (.bool (BU (h.getD i ϰ).row (AZ p))))):=λf m=>LJ _ _ _ _ _ _ f J.rl a4 (vl.Ac U.row m) (Al a3 m);have N:Ϣ (∀j f,j<=i->ϣ w f->CT 220 #[vS (k.getD j ϰ).r (h.getD j ϰ).row.length (k.getD j ϰ).rc,vS (k.getD i ϰ).r (h.getD i ϰ).row.length (k.getD i ϰ).rc] f (ψ f (vI (AJ (h.getD j ϰ).row (h.getD i ϰ).row)))):=λj f hj m=>Tn _ _ _ _ _ _ f (vl.Ac (ac.each j Ϥ).row m) (vl.Ac U.row m) (ak _ (ah j Ϥ)).rl J.rl;have B:Ϣ (∀f,ϣ w f->CT 240 #[vS x.a p.aggs.length x.ac,vS Z (A7 p).length cc,LC (k.getD i ϰ) (h.getD i ϰ)] f (ψ f (.bool (J0 (A7 p) p.aggs (h.getD i ϰ))))):=λf m=>Pb _ _ _ _ _ _ _ _ f (Cp av m) (Al az m) (U.below m) J aw a0 a1;have ao:Ϣ (∀j,j<=i->∃b o,ga=some ⟨b,o,none⟩/\Δ w b (o+j * 3) (vS (k.getD j ϰ).r (h.getD j ϰ).row.length (k.getD j ϰ).rc)):=λj hj=>by
  obtain⟨b,o,e,x1,_⟩:=ac.cells j Ϥ;exact⟨b,o,e,x1⟩
 obtain⟨R,hR⟩:=nM (FQ p h i);have r:=hV0 hR;unfold FQ at r;rw[hR];clear hR ah J U ac ak a3 az av a4 a0 aw a1;obtain⟨g,hg⟩:=nM (h.getD i ϰ);obtain⟨y,hy⟩:=nM (k.getD i ϰ);rw[hg,hy]at M D N B;rw[hg]at r;rw[hg,hy];obtain⟨E,hE⟩:=nM (Au g.row);obtain⟨TB,au⟩:=nM (BU g.row (AZ p));obtain⟨BB,aq⟩:=nM (J0 (A7 p) p.aggs g);rw[hE]at M r;rw[au]at D r;rw[aq]at B r;unfold LC at B⊢;obtain⟨rn,ad⟩:=nM g.row.length;obtain⟨bn,af⟩:=nM g.bags.length;obtain⟨s,ab⟩:=nM g.n;obtain⟨on,a5⟩:=nM ((AZ p).length);obtain⟨gl,a2⟩:=nM h.length;obtain⟨an,ae⟩:=nM p.aggs.length;obtain⟨cn,ag⟩:=nM ((A7 p).length);obtain⟨pa,ai⟩:=nM x.a;obtain⟨a8,aj⟩:=nM x.ac;obtain⟨xr,am,xb,al,xh⟩:=y;dsimp only at M D N B⊢;rw[ad]at M D N;rw[ad,af,ab,ae,ag,ai,aj]at B;rw[a5]at D hO;rw[a2]at hG I a7;rw[ae,ai,aj]at hP;rw[ag]at hC;rw[ab]at r;rw[ad,af,ab];clear hg hy hE au aq ad af a5 a2 ae ag ai aj ab;have ax:ϣ w (ϊ w #[vS xr rn am,vI s,vS xb bn al] 102):=ϯ;have i1:=nn0 i;have i2:(i:Int)<(gl:Int):=Ϥ;obtain⟨j,hj⟩:∃j,j=i - 1:=⟨_,rfl⟩;rw[<-hj]at r;obtain⟨gb,ap,e9,x9⟩:=ao.o j Ϥ;subst e9;have V:Ϣ (∀f,ϣ w f->_):=λf m=>N.o j f Ϥ m;obtain⟨CV,ar⟩:=nM (AJ (h.getD j ϰ).row g.row);rw[ar]at V r;obtain⟨⟨pr,a9,_,_,_⟩,q⟩:∃z,k.getD j ϰ=z:=⟨_,rfl⟩;obtain⟨pn,a6⟩:=nM ((h.getD j ϰ).row.length);rw[q,a6]at V x9;dsimp only at V x9;have j1:=nn0 j;have j2:(j:Int)<(gl:Int):=Ϥ;clear ar q a6 N ao;have t:=r.o;by_cases h0:E=0
 case' neg=>
  have ba:(E==0)=false:=by simpa using h0
  have A:Ϣ (false=R):=by show _=_;rw[<-t];simp[h0]
 case' pos=>
  subst h0;by_cases h4:TB=true
  case' neg=>
   obtain rfl:TB=false:=by simpa using h4
   have A:Ϣ (false=R):=by show _=_;rw[<-t];simp
  case' pos=>
   subst h4;by_cases F:1<=s
   case' neg=>
    have B1:=LG (x:=1) (y:=s) false (by simpa using F);have A:Ϣ (false=R):=by show _=_;rw[<-t];simp[F]
   case' pos=>
    have B1:=LG (x:=1) (y:=s) true (by simpa using F);by_cases H:s<=1073741824
    case' neg=>
     have B2:=LG (x:=s) (y:=1073741824) false (by simpa using H);have A:Ϣ (false=R):=by show _=_;rw[<-t];simp[H]
    case' pos=>
     have B2:=LG (x:=s) (y:=1073741824) true (by simpa using H);by_cases h9:i=0
     case' pos=>
      have B3:=Aas (x:=(i:Int)) (y:=0) true ϩ;have A:Ϣ (BB=R):=by show _=_;rw[<-t];simp[F,H,h9]
     case' neg=>
      have B3:=Aas (x:=(i:Int)) (y:=0) false ϩ;have i3:IntKind.i64.wrap ((i:Int) - 1)=(j:Int):=by rw[IntKind.wrap_i64];omega
      by_cases T:CV<0
      case' pos=>
       have B4:=JD (x:=CV) (y:=0) true (by simpa using T);have A:Ϣ (BB=R):=by show _=_;rw[<-t];simp[F,H,T]
      case' neg=>
       have B4:=JD (x:=CV) (y:=0) false (by simpa using T);have A:Ϣ (false=R):=by show _=_;rw[<-t];simp[T,h9]
 all_goals
  clear t hj r
  try clear h0
  try clear F
  try clear H
  try clear T
  try clear h9
  as_aux_lemma=>
  go_enter func239,ntmps239;go_wp2_with (go_at_call 112;refine(M.o _ ax).mono ?_;rintro e f ⟨rfl,aa⟩;have ay:ϣ w f:=bT ax aa;have u0:Δ f w 0 (vS xr rn am):=cLz aa Ϩ;have u1:Δ f w 1 (vI s):=cLz aa Ϩ;have u2:Δ f w 2 (vS xb bn al):=cLz aa Ϩ);obtain⟨uO,uG,uP,uC,uV⟩:=lk5 ay hO hG hP hC x9;refine Dm (S:=λL=>ϟ L w (vS xr rn am) (vI s) (vS xb bn al) (Δ L O 0 (vS oa on oc)/\Δ L G 0 (vS (some ⟨gb,ap,none⟩) gl gc)/\Δ L PB 12 (vS pa an a8)/\Δ L C 0 (vS Z cn cc)/\Δ L gb (ap+j * 3) (vS pr pn a9))) 42 rfl ϧ ⟨Ϩ,Ϩ,Ϩ,Ϩ,Ϩ,Ϩ,Ϩ,Ϩ⟩ (λc=>?_);have q:=ay.drew
  repeat first|refine CE 42 c ?_|refine GI 42 c ?_
  try
   refine rD 6 λK u=>?_;go_simp;refine(D.o _ q).mono ?_;rintro e y ⟨rfl,hy⟩;replace q:=bT q hy;go_wp2_with fail;refine u.out _ _ ⟨cLz hy c.1,cLz hy c.2.1,cLz hy c.2.2.1,cLz hy c.2.2.2.1,cLz hy c.2.2.2.2.1,cLz hy c.2.2.2.2.2.1,cLz hy c.2.2.2.2.2.2.1,cLz hy c.2.2.2.2.2.2.2⟩ (λc=>?_);clear u K
   try simp only[Act.put,sI,sZ,sSz]
   repeat first|refine CE 42 c ?_|refine GI 42 c ?_
  try
   refine rD 30 λK u=>?_;go_simp;refine(V.o _ q).mono ?_;rintro e y ⟨rfl,hy⟩;replace q:=bT q hy;go_wp2_with fail;refine u.out _ _ ⟨cLz hy c.1,cLz hy c.2.1,cLz hy c.2.2.1,cLz hy c.2.2.2.1,cLz hy c.2.2.2.2.1,cLz hy c.2.2.2.2.2.1,cLz hy c.2.2.2.2.2.2.1,cLz hy c.2.2.2.2.2.2.2⟩ (λc=>?_);clear u K
   try simp only[Act.put,sI,sZ,sSz]
   repeat first|refine CE 42 c ?_|refine GI 42 c ?_
  try
   refine rD 39 λK u=>?_;go_simp;refine(B.o _ q).mono ?_;rintro e y ⟨rfl,hy⟩;replace q:=bT q hy;go_wp2_with fail;refine u.out _ _ ⟨cLz hy c.1,cLz hy c.2.1,cLz hy c.2.2.1,cLz hy c.2.2.2.1,cLz hy c.2.2.2.2.1,cLz hy c.2.2.2.2.2.1,cLz hy c.2.2.2.2.2.2.1,cLz hy c.2.2.2.2.2.2.2⟩ (λc=>?_);clear u K
   try simp only[Act.put,sI,sZ,sSz]
   repeat first|refine CE 42 c ?_|refine GI 42 c ?_
  refine wpAnyH_done ϧ ?_ _;go_wp2;go_ret;exact⟨Aa A.o,q⟩
end gr
end Go.Proofs.YtfkihidbnfkbaaaGreatDoor
