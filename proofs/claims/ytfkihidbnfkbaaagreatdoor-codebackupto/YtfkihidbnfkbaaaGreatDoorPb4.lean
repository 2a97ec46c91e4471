import Derived.Test.YtfkihidbnfkbaaaGreatDoorPb1
set_option linter.all false
set_option maxHeartbeats 4000000
open Go.ChangeShapes Go.WideShapes Go.ChangeAt Go.RowKit Go.Shelf List
open Inhabited renaming default->ϰ
namespace Go.Proofs.YtfkihidbnfkbaaaGreatDoor
open Go.Proofs.Tryz
namespace bf
attribute [local go_sem] Oper.semAt_some
variable {Pr : Nat -> Obj -> Prop} {W W' : ϙ} {b i o : Nat} {v : Value}
def Aq(Pr:Nat->Obj->Prop)(W W':World):Prop:=∀b o,W.heap[b]? =some o->o.isCells=true->Pr b o->W'.heap[b]? =some o
theorem Aq.refl(Pr:Nat->Obj->Prop)(W:ϙ):Aq Pr W W:=λ_ _ h _ _=>h
theorem Aq.trans{A B C:ϙ}(h:Aq Pr A B)(k:Aq Pr B C):Aq Pr A C:=λb o d a c=>k b o (h b o d a c) a c
def names(Pr:Nat->Obj->Prop)(W:World)(b:Nat):Prop:=∀o,W.heap[b]? =some o->Pr b o
theorem Z4(a:Δ W b o v):∃x,W.heap[b]? =some x/\x.isCells=true:=by
 unfold World.cell? at a
 cases ho:W.heap[b]? with
 |none=>simp[ho]at a
 |some x=>exact⟨x,rfl,by cases x<;>simp_all [Obj.isCells]⟩
theorem Aq.block(h:Aq Pr W W')(d:names Pr W b)(e:Δ W b o v):W'.heap[b]? =W.heap[b]? :=by
 obtain⟨x,a,c⟩:=Z4 e;rw[h b x a c (d x a),a]
theorem Aq.cell(h:Aq Pr W W')(d:names Pr W b)(c:Δ W b o v):Δ W' b o v:=
 (World.cell?_of_block (w:=W) (a:=⟨b,o,none⟩) (h.block d c)).trans c
theorem Aq.grown{V:ϙ}{g:Option Nat}(h:Aq Pr V W)(l:W.grownBy W' g)(m:∀r,g=some r->∃o:Obj,W.heap[r]? =some o/\o.isCells=false):Aq Pr V W':=λb o j c k=>by
 have a:=h b o j c k;refine(l.block b (Array.getElem?_eq_some_iff.1 a).1 (λe=>?_)).trans a;obtain⟨n,d,f⟩:=m b e.symm;rw[a]at d;cases d;rw[c]at f;cases f
theorem Aq.put(W:ϙ)(l:Nat)(o f:Obj)(h:W.heap[l]? =some o)(d:o.isCells=false):Aq Pr W (W.putObj l f):=λb x a c _=>by
 by_cases e:b=l
 ·subst e;rw[h]at a;cases a;rw[d]at c;cases c
 ·exact(World.putObj_heap_other e).trans a
theorem Aq.alloc(W:ϙ)(o:Obj):Aq Pr W (W.alloc o):=λb x a _ _=>(Below.heap_alloc W o b (Array.getElem?_eq_some_iff.1 a).1).trans a
theorem F9{n:Nat}(h:Below n W W')(c:b<n)(a:names Pr W b):names Pr W' b:=λx d=>a x (by rw[<-h.block b c];exact d)
abbrev Hdr:=Option Addr×Nat×Nat
def hdV(h:Hdr):Value:=vS h.1 h.2.1 h.2.2
def FA(w:World)(a:Option Addr)(l:List Hdr):Prop:=
 ∀i,i<l.length->∃b off,a=some ⟨b,off,none⟩/\Δ w b (off+i) (hdV (l.getD i (none,0,0)))
theorem MK(BX:Nat)(al:Int)(m:Hdr)(d:Ϛ)(rc:Nat)(rs:List Hdr)(Pr:Nat->Obj->Prop)(w:ϙ)(hl:rs.length<=χ)
 (j:Δ w BX 1 (hdV m)) (B:Δ w BX 2 (vS d rs.length rc)) (s:FA w d rs) (D:names Pr w BX) (E:∀x,0<rs.length->d=some x->names Pr w x.block):
 Zj Tryz.prog 268 #[μ BX] ((m::rs).map λh=>#[hdV h]) (Aq Pr) w:=by
 intro l J Jx W a hJ aj p g;obtain⟨M,N,O⟩:=m;have K:=cell_later a j;have L:=cell_later a B;have H:FA W d rs:=λi Z=>by obtain⟨b,o,e,x⟩:=s i Z;exact⟨b,o,e,cell_later a x⟩
 unfold hdV at K;dsimp only at K;have R:=hqz p;have Q:=hqz H;have A:ϛ (names Pr W BX/\∀x,0<rs.length->d=some x->names Pr W x.block):=⟨F9 a (World.block_lt_of_cell? _ _ j) D,λx g I=>by
  obtain⟨b,o,e,y⟩:=s 0 g;rw[I]at e;cases e;exact F9 a (World.block_lt_of_cell? _ _ y) (E _ g I)⟩
 have u:ϛ ((((((M,N,O):Hdr)::rs).map λh=>#[hdV h])).length=rs.length+1):=by show _=_;simp
 have ad:=p 0 #[vS M N O] W (by simp[hdV]) g;clear p s H D E j B a;obtain⟨n,r⟩:∃n,rs.length=n:=⟨_,rfl⟩;have f:=hqz r;rw[r]at L hl u;clear r;rw[u.o];refine callsIn_of_wp func268 rfl trivial ?_ rfl;simp only[ntmps268,size_toArray,length_cons,length_nil,Nat.reduceAdd,Nat.reduceSub,Array.replicate_succ,Array.replicate_zero,push_toArray,append_toArray,nil_append,cons_append];obtain⟨fn,am,ae,ag,hy,X⟩:=ad
 gi_wp2
 refine⟨rfl,X.mono ?_⟩;rintro e W1 ⟨_,(⟨rfl,S,F⟩|⟨rfl,U⟩)⟩
 ·have c2:=F.cell A.o.1 L
  gi_wp2
  gi_loopw [13] (λi wr=> ∃k:Nat,k<=n/\i=vI k/\J (k+1) wr/\Aq Pr W wr) (λi _=>n - (intOf i).toNat)
  case atStart=>exact⟨0,Nat.zero_le _,rfl,S,F⟩
  case round=>
   obtain⟨k,hk,rfl,C,G⟩:=hrel;by_cases q:k<n
   ·obtain⟨b,o,e,P⟩:=Q.o k (by rw[f.o];exact q);subst e;have t:=G.cell (A.o.2 _ (by rw[f.o];omega) rfl) P;obtain⟨⟨z1,z2,z3⟩,c⟩:∃z,rs.getD k (none,0,0)=z:=⟨_,rfl⟩;have ac:=R.o (k+1) #[vS z1 z2 z3] wr (by
     rw[map_cons,getElem?_cons_succ,getElem?_map,getElem?_eq_getElem (by rw[f.o];exact q)];rw[getD_eq_getElem?_getD,getElem?_eq_getElem (by rw[f.o];exact q)]at c;simp at c;simp[c,hdV]) C
    rw[c]at t;unfold hdV at t;dsimp only at t;clear c P;obtain⟨ai,an,af,ah,ak,Y⟩:=ac;have i1:(0:Int)<=(k:Int):=ϝ;have i2:(k:Int)<(n:Int):=ϝ
    gi_wp2
    refine⟨rfl,Y.mono ?_⟩;rintro e W2 ⟨_,(⟨rfl,T,aa⟩|⟨rfl,V⟩)⟩
    ·gi_wp2
     go_roundw
     case rel=>exact⟨k+1,ϝ,by go_num,T,G.trans aa⟩
     case measure=>simp[intOf];omega
    ·gi_wp2
     refine bodyPost_ret (results_none rfl _ _ _) rfl ?_;exact⟨⟨_,rfl⟩,.inr V⟩
   ·have ab:k=n:=ϝ;subst ab
    gi_wp2
    go_end0
    exact⟨⟨_,rfl⟩,.inl C⟩
 ·gi_wp2
  refine bodyPost_ret (results_none rfl _ _ _) rfl ?_;exact⟨⟨_,rfl⟩,.inr U⟩
structure EM where
 key:ByteArray
 time:Int
 seq:Int
 row:Hdr
 met:Bool
instance:Inhabited EM:=⟨⟨⟨#[]⟩,0,0,(none,0,0),false⟩⟩
def EM.val(e:EM):Value:=.agg #[.string e.key,vI e.time,vI e.seq,hdV e.row,.bool e.met]
def Cm(w:World)(a:Option Addr)(l:List EM):Prop:=
 ∀i,i<l.length->∃b off,a=some ⟨b,off,none⟩/\Δ w b (off+i * 5) (.string (l.getD i ϰ).key)/\Δ w b (off+i * 5+1) (vI (l.getD i ϰ).time)/\
  Ϗ w b (off+i * 5+1+1) (vI (l.getD i ϰ).seq) (hdV (l.getD i ϰ).row) (.bool (l.getD i ϰ).met)
theorem Cr{w d:ϙ}{a:Ϛ}{l:List EM}(h:Cm w a l)(c:Ϝ w d):Cm d a l:=by
 intro i f;obtain⟨b,o,e,g,j,k,m,n⟩:=h i f;exact⟨b,o,e,cell_later c g,cell_later c j,cell_later c k,cell_later c m,cell_later c n⟩
abbrev Part:=Hdr×List EM
def ems(p:List Part):List EM:=p.flatMap (·.2)
def Fw(p:List Part)(i:Nat):Nat:=(ems (p.take i)).length
theorem PL(p q:List Part):ems (p++q)=ems p++ems q:=by unfold ems;rw[flatMap_append]
theorem T4{p:List Part}(h:i<p.length):p=p.take i++(p[i]::p.drop (i+1)):=by
 rw[getElem_cons_drop];exact(take_append_drop i p).symm
theorem O9{p:List Part}(h:i<p.length):Fw p (i+1)=Fw p i+(p[i]).2.length:=by
 unfold Fw;rw[take_succ_eq_append_getElem h,PL,length_append];simp[ems]
theorem MM(p:List Part):Fw p p.length=(ems p).length:=by unfold Fw;rw[take_length]
theorem AdD{p:List Part}{k:Nat}(h:i<p.length)(a:k<(p[i]).2.length):(ems p)[Fw p i+k]? =some ((p[i]).2.getD k ϰ):=by
 have e:ems p=ems (p.take i)++((p[i]).2++ems (p.drop (i+1))):=by
  have c:ems p=ems (p.take i++(p[i]::p.drop (i+1))):=by rw[<-T4 h]
  rw[c,PL];rfl
 rw[e];unfold Fw;rw[getElem?_append_right ϝ,Nat.add_sub_cancel_left,getElem?_append_left a,getElem?_eq_getElem a,getD_eq_getElem?_getD,getElem?_eq_getElem a];rfl
theorem Iq(a c d:Value)(g:a.oneCell'=true)(h:c.oneCell'=true)(j:d.oneCell'=true)(w:ϙ):
 η 233 #[.agg #[a,c,d]] w λe f=>e= .returned (.func (.func 268) #[] #[μ w])/\f=w.alloc (.cells #[a,c,d] 36):=by
 go_enter func233,ntmps233;go_wp2;go_ret;exact⟨rfl,rfl⟩
theorem Ir(a c d:Value)(g:a.oneCell'=true)(h:c.oneCell'=true)(j:d.oneCell'=true)(w:ϙ):
 η 237 #[.agg #[a,c,d]] w λe f=>e= .returned (.func (.func 276) #[] #[μ w])/\f=w.alloc (.cells #[a,c,d] 36):=by
 go_enter func237,ntmps237;go_wp2;go_ret;exact⟨rfl,rfl⟩
structure boxAt(w:World)(BX:Nat)(lim:Int)(ra:Option Addr)(rc:Nat)(m:Part)(rs:List Part):Prop where
 lim:Δ w BX 0 (vI lim)
 mem:Δ w BX 1 (hdV m.1)
 runs:Δ w BX 2 (vS ra rs.length rc)
 hds:FA w ra (rs.map (·.1))
 len:∀p∈m::rs,p.1.2.1=p.2.length/\p.2.length<=χ
 ems:∀p∈m::rs,Cm w p.1.1 p.2
 few:rs.length<=χ
theorem Z5(BX:Nat)(B:Int)(s:Ϛ)(A:Nat)(m:Part)(rs:List Part)(Pr:Nat->Obj->Prop)(w:ϙ)(h:boxAt w BX B s A m rs)
 (hS:names Pr w BX) (aq:∀x,0<rs.length->s=some x->names Pr w x.block) (ar:∀p∈m::rs,∀x,0<p.2.length->p.1.1=some x->names Pr w x.block)
 (ag:∀b c f,w.heap.size<=b->Pr b (.cells c 36 f)) (ah:∀b c f,w.heap.size<=b->Pr b (.cells c 247 f)):
 Zj Tryz.prog 276 #[μ BX] ((ems (m::rs)).map λe=>#[e.val]) (Aq Pr) w:=by
 intro l J Jx W R hJ ap hY I;have k0:=cell_later R h.lim;have k1:=cell_later R h.mem;have k2:=cell_later R h.runs;obtain⟨⟨a,d,g⟩,ml⟩:=m;unfold hdV at k1;dsimp only at k1;have lX:BX<W.heap.size:=World.block_lt_of_cell? _ _ k0;obtain⟨n,H⟩:∃n,rs.length=n:=⟨_,rfl⟩;have HN:=hqz H;rw[H]at k2;clear H;obtain⟨xs,al⟩:=nM ((ems ((((a,d,g):Hdr),ml)::rs)).map (λe=>#[e.val]));have HX:=hqz al;rw[al]at hY⊢;clear al;refine callsIn_of_wp_marks func276 rfl trivial ?_ rfl;simp only[ntmps276,size_toArray,length_cons,length_nil,Nat.reduceAdd,Nat.reduceSub,Array.replicate_succ,Array.replicate_zero,push_toArray,append_toArray,nil_append,cons_append]
 gi_wp2_with (refine⟨trivial,rfl,?_⟩;gi_at_call 233;refine(callsIn_wide.2 (Iq _ _ _ rfl rfl rfl _)).mono ?_;rintro e w' ⟨rfl,rfl⟩)
 have E:ϛ (boxAt w BX B s A ((a,d,g),ml) rs/\names Pr w BX/\(∀x,0<rs.length->s=some x->names Pr w x.block)/\(∀p∈((a,d,g),ml)::rs,∀x,0<p.2.length->p.1.1=some x->names Pr w x.block)):=⟨h,hS,aq,ar⟩;have HP:ϛ ((∀b c f,w.heap.size<=b->Pr b (.cells c 36 f))/\(∀b c f,w.heap.size<=b->Pr b (.cells c 247 f))):=⟨ag,ah⟩;have U:ϛ (OwnFrom W.heap.size J/\OwnFrom W.heap.size Jx):=⟨hJ,ap⟩;have HY:=hqz hY;have c2:Δ (ξ (ξ W #[.func (.yield l) #[] #[]] 247) (ν B a d g s n A) 36) W 0 (.func (.yield l) #[] #[]):=ϡ;have d1:Δ (ξ (ξ W #[.func (.yield l) #[] #[]] 247) (ν B a d g s n A) 36) (W+1) 1 (vS a d g):=ϡ;have d2:Δ (ξ (ξ W #[.func (.yield l) #[] #[]] 247) (ν B a d g s n A) 36) (W+1) 2 (vS s n A):=ϡ;have ba:Ϝ W (ξ (ξ W #[.func (.yield l) #[] #[]] 247) (ν B a d g s n A) 36):=((Below.refl _ _).alloc (Nat.le_refl _) _).alloc ϟ _;have bp:((W.alloc (.cells #[.func (.yield l) #[] #[]] 247)).alloc (.cells (ν B a d g s n A) 36)).heap.size=W.heap.size+2:=ϟ;have nB:names Pr (ξ (ξ W #[.func (.yield l) #[] #[]] 247) (ν B a d g s n A) 36) (W.heap.size+1):=λo N=>by
  have h:=World.alloc_heap_new (ξ W #[.func (.yield l) #[] #[]] 247) (.cells (ν B a d g s n A) 36);rw[World.size_alloc]at h;rw[h]at N;cases N;exact ag _ _ _ (by have:=R.size;omega)
 have nY:names Pr (ξ (ξ W #[.func (.yield l) #[] #[]] 247) (ν B a d g s n A) 36) W.heap.size:=λo N=>by
  have h:=(Below.heap_alloc (ξ W #[.func (.yield l) #[] #[]] 247) (.cells (ν B a d g s n A) 36) W.heap.size ϟ).trans (World.alloc_heap_new W _);rw[h]at N;cases N;exact ah _ _ _ R.size
 have a7:J 0 (ξ (ξ W #[.func (.yield l) #[] #[]] 247) (ν B a d g s n A) 36):=hJ.alloc _ (hJ.alloc _ I);clear hY hJ ap h hS aq ar ag ah k0 k1 k2 I;generalize (W.alloc (.cells #[.func (.yield l) #[] #[]] 247)).alloc (.cells (ν B a d g s n A) 36)=V at *;have ac:Ϝ w V:=bT R ba;obtain⟨P,hP⟩:∃z:List Part,(((a,d,g),ml)::rs)=z:=⟨_,rfl⟩;have bh:ϛ (P.length=n+1):=by show _=_;rw[<-hP,length_cons,HN.o]
 have a4:ϛ (∀p∈P,p.1.2.1=p.2.length/\p.2.length<=χ/\Cm V p.1.1 p.2/\∀x,0<p.2.length->p.1.1=some x->names Pr V x.block):=λp S=>by
  rw[<-hP]at S;refine⟨(E.o.1.len p S).1,(E.o.1.len p S).2,Cr (E.o.1.ems p S) ac,λx I C=>?_⟩;obtain⟨b,o,e,y,_⟩:=E.o.1.ems p S 0 I;rw[C]at e;cases e;exact F9 ac (World.block_lt_of_cell? _ _ y) (E.o.2.2.2 p S _ I C)
 have a5:ϛ ((((a,d,g):Hdr)::rs.map (·.1)).map (λh=>#[hdV h])=P.map λp=>#[hdV p.1]):=by
  show _=_;rw[<-hP];simp
 have HE:ϛ ((ems P).map (λe=>#[e.val])=xs):=by show _=_;rw[<-hP];exact HX.o
 have a3:(rs.map (·.1)).length=n:=by rw[length_map,HN.o]
 have ax:=MK (W.heap.size+1) B (a,d,g) s A (rs.map (·.1)) Pr V (by rw[a3,<-HN.o];exact E.o.1.few) d1 (by rw[a3];exact d2) (λi G=>by obtain⟨b,o,e,x⟩:=E.o.1.hds i G;exact⟨b,o,e,cell_later ac x⟩) nB (λx I C=>by
  obtain⟨b,o,e,y⟩:=E.o.1.hds 0 I;rw[C]at e;cases e;exact F9 ac (World.block_lt_of_cell? _ _ y) (E.o.2.2.1 _ (by simpa using I) C))
 rw[a5.o]at ax;refine Db (gf:=268) (lb:=#[.pointer (some ⟨W+1,0,none⟩)]) rfl (enters_of func268 Ϡ rfl) ax (Below.refl _ _) (λx C=>by obtain⟨p,_,rfl⟩:=mem_map.1 C;rfl) (λh k=>Aq.trans h k) (λW l o o' _ h N=>Aq.put W l o o' h N)
  (λi X=>J (Fw P i) X/\Aq Pr V X) (λc X=>c= .ret/\Jx () X)
  (λi X X' ae Q hg hr=>⟨(Zk U.o.1 ϝ) _ X X' ae Q.1 hg hr,Q.2.grown hg (λr e=>(hr r e).2)⟩)
  (λc X X' ae Q hg hr=>⟨Q.1,(Zk U.o.2 ϝ) _ X X' ae Q.2 hg hr⟩)
  ⟨a7,Aq.refl _ _⟩
  (λi a' X=>a'={tmps:=#[.func (.yield l) #[] #[],.pointer (some ⟨BX,0,none⟩),.pointer (some ⟨W,0,none⟩),hdV (P.getD i ϰ).1,undef,undef,.agg #[vI B,vS a d g,vS s n A],.func (.func 268) #[] #[.pointer (some ⟨W+1,0,none⟩)],hdV (P.getD i ϰ).1,undef,undef,undef,undef,undef,undef,undef,undef,undef,undef,undef],defers:=[]})
  (λi a' u X X' ae Q hg hr=>Q) ?assign ?body ?done ?stop
 case assign=>
  intro l' k x X K C G L;obtain⟨hk,ad⟩:=List.getElem?_eq_some_iff.1 C;rw[length_map]at hk;rw[getElem_map]at ad;subst ad;have hd:P.getD k ϰ=P[k]:=by rw[getD_eq_getElem?_getD,getElem?_eq_getElem hk];rfl
  have Z:=λW' h1 h2 h3=>L _ W' h1 h2 h3 rfl;rw[hd]at Z;clear L hd C;obtain⟨⟨⟨z1,z2,z3⟩,zl⟩,hz⟩:∃z,P[k]=z:=⟨_,rfl⟩;rw[hz]at Z⊢;unfold hdV at Z⊢;dsimp only at Z⊢
  gi_wp2
  exact Z X (KeepsFrom.refl _ _) (Aq.refl _ _) G
 case body=>
  intro l' i x a' X C bn bo a6 au;obtain⟨an,az⟩:=a6;obtain⟨G,ad⟩:=List.getElem?_eq_some_iff.1 C;rw[length_map]at G;have hd:P.getD i ϰ=P[i]:=by rw[getD_eq_getElem?_getD,getElem?_eq_getElem G];rfl
  rw[hd]at au;subst au;have ak:=a4.o P[i] (getElem_mem G);have T:ϛ (∀j,j<(P[i]).2.length->xs[Fw P i+j]? =some #[((P[i]).2.getD j ϰ).val]):=λj hj=>by
   rw[<-HE.o,getElem?_map,AdD G hj];rfl
  have Y:ϛ (Fw P (i+1)=Fw P i+(P[i]).2.length):=O9 G;clear C ad hd;obtain⟨⟨⟨z1,z2,z3⟩,zl⟩,hz⟩:∃z,P[i]=z:=⟨_,rfl⟩;rw[hz]at ak T Y⊢;dsimp only at ak T Y⊢;obtain⟨be,bg,av,a2⟩:=ak;subst be;have am:ϛ (Cm V z1 zl/\∀x,0<zl.length->z1=some x->names Pr V x.block):=⟨av,a2⟩;obtain⟨q,hq⟩:∃q,zl.length=q:=⟨_,rfl⟩;have HQ:=hqz hq;rw[hq]at bg T Y;unfold hdV;dsimp only;rw[hq];clear hz av a2 hq;obtain⟨O,hO⟩:∃O,Fw P i=O:=⟨_,rfl⟩;rw[hO]at an T Y;have lV:W.heap.size<X.heap.size:=by
   have:=World.block_lt_of_cell? _ _ (az.cell nY c2);exact this
  gi_wp2
  gi_loopw [11] (λt wr=> ∃j:Nat,j<=q/\t=vI j/\J (O+j) wr/\Aq Pr V wr/\Aq Pr X wr/\KeepsFrom V.heap.size X wr) (λt _=>q - (intOf t).toNat)
  case atStart=>exact⟨0,Nat.zero_le _,rfl,an,az,Aq.refl _ _,KeepsFrom.refl _ _⟩
  case round=>
   obtain⟨j,hj,rfl,ao,M,a0,aj⟩:=hrel;have y2:=M.cell nY c2;have ly:W.heap.size<wr.heap.size:=World.block_lt_of_cell? _ _ y2;by_cases a1:j<q
   ·obtain⟨b,o,e,x1,x2,x3,x4,x5⟩:=am.o.1 j (by rw[HQ.o];exact a1);subst e;have H:=am.o.2 _ (by rw[HQ.o];omega) rfl;have q1:=M.cell H x1;have q2:=M.cell H x2;have q3:=M.cell H x3;have q4:=M.cell H x4;have q5:=M.cell H x5;have aa:=T.o j a1;obtain⟨⟨ek,et,es,⟨r1,r2,r3⟩,em⟩,he⟩:∃z,zl.getD j ϰ=z:=⟨_,rfl⟩;rw[he]at q1 q2 q3 q4 q5 aa;unfold hdV at q4;unfold EM.val hdV at aa;dsimp only at q1 q2 q3 q4 q5 aa;have lb:b<wr.heap.size:=World.block_lt_of_cell? _ _ q1;have i1:(0:Int)<=(j:Int):=ϝ;have i2:(j:Int)<(q:Int):=ϝ;have bd:=HY.o (O+j) _ (ξ wr (ζ ek et es r1 r2 r3 em) 166) aa (U.o.1.alloc _ ao);obtain⟨bk,br,bi,bj,bq,a9⟩:=bd;clear he x1 x2 x3 x4 x5 aa
    gi_wp2
    refine⟨rfl,RoundIn.mono (F:=Fence.wide.inRound l') a9 ?_⟩;rintro e W2 ⟨aw,(⟨rfl,ab,bc⟩|⟨rfl,a8⟩)⟩
    ·have ay:Aq Pr wr W2:=(Aq.alloc wr _).trans bc;have ai:KeepsFrom V.heap.size X W2:=aj.trans (((KeepsOthers.alloc _ _).from _).trans (GD aw ϝ))
     gi_wp2
     go_roundw
     case rel=>exact⟨j+1,ϝ,by go_num,ab,M.trans ay,a0.trans ay,ai⟩
     case measure=>simp[intOf];omega
    ·have ai:KeepsFrom V.heap.size X W2:=aj.trans (((KeepsOthers.alloc _ _).from _).trans (GD aw ϝ))
     gi_wp2
     exact⟨ai,rfl,a8⟩
   ·have bb:j=q:=ϝ;subst bb
    gi_wp2
    exact⟨aj,a0,by rw[Y.o];exact ao,M⟩
 case done=>
  rintro D X hD ⟨af,bm⟩ L
  gi_wp2
  refine⟨ϟ,.inl ⟨_,_,rfl,run_takeDeferred L,?_⟩⟩;have ab:=U.o.1.putObj (.deferred none) af ϝ L rfl;rw[length_map,MM,<-length_map (f:=λe:EM=>#[e.val]),HE.o]at ab;exact⟨_,results_none rfl _ _ _,⟨_,rfl⟩,.inl ab⟩
 case stop=>
  rintro D c X hD ⟨rfl,af⟩ L
  gi_wp2
  refine⟨ϟ,.inl ⟨_,_,rfl,run_takeDeferred L,?_⟩⟩;exact⟨_,results_none rfl _ _ _,⟨_,rfl⟩,.inr (U.o.2.putObj (.deferred none) af ϝ L rfl)⟩
end bf
end Go.Proofs.YtfkihidbnfkbaaaGreatDoor
