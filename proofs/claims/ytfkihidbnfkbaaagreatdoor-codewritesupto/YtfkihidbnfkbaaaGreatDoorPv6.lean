import Derived.Test.YtfkihidbnfkbaaaGreatDoorPv5
set_option linter.all false
set_option maxHeartbeats 8000000
set_option maxRecDepth 100000
open Go.ChangeShapes Go.WideShapes Go.ChangeAt Go.RowKit Go.Shelf List
open Inhabited renaming default->ϰ
namespace Go.Proofs.YtfkihidbnfkbaaaGreatDoor
open Go.Proofs.Tryz
namespace bf
attribute [local go_sem] Oper.semAt_some
variable {Pr : Nat -> Obj -> Prop} {W W' : Ϡ} {b i o : Nat} {v : Value}
def A0(Pr:Nat->Obj->Prop)(W W':World):Prop:=∀b o,W.heap[b]? =some o->o.isCells=true->Pr b o->W'.heap[b]? =some o
theorem A0.refl(Pr:Nat->Obj->Prop)(W:Ϡ):A0 Pr W W:=λ_ _ h _ _=>h
theorem A0.trans{A B C:Ϡ}(h:A0 Pr A B)(k:A0 Pr B C):A0 Pr A C:=λb o e c d=>k b o (h b o e c d) c d
def names(Pr:Nat->Obj->Prop)(W:World)(b:Nat):Prop:=∀o,W.heap[b]? =some o->Pr b o
theorem AbQ(c:Δ W b o v):∃x,W.heap[b]? =some x/\x.isCells=true:=by
 unfold World.cell? at c
 cases ho:W.heap[b]? with
 |none=>simp[ho]at c
 |some x=>exact⟨x,rfl,by cases x<;>simp_all [Obj.isCells]⟩
theorem A0.block(h:A0 Pr W W')(e:names Pr W b)(f:Δ W b o v):W'.heap[b]? =W.heap[b]? :=by
 obtain⟨x,c,d⟩:=AbQ f;rw[h b x c d (e x c),c]
theorem A0.cell(h:A0 Pr W W')(d:names Pr W b)(c:Δ W b o v):Δ W' b o v:=
 (cOb (w:=W) (a:=⟨b,o,none⟩) (h.block d c)).trans c
theorem A0.grown{V:Ϡ}{j:Option Nat}(h:A0 Pr V W)(m:W.grownBy W' j)(q:∀r,j=some r->∃o:Obj,W.heap[r]? =some o/\o.isCells=false):A0 Pr V W':=λb o k d l=>by
 have c:=h b o k d l;refine(m.block b (Array.getElem?_eq_some_iff.1 c).1 (λe=>?_)).trans c;obtain⟨s,f,g⟩:=q b e.symm;rw[c]at f;cases f;rw[d]at g;cases g
theorem A0.put(W:Ϡ)(l:Nat)(o g:Obj)(h:W.heap[l]? =some o)(f:o.isCells=false):A0 Pr W (W.putObj l g):=λb x c d _=>by
 by_cases e:b=l
 ·subst e;rw[h]at c;cases c;rw[f]at d;cases d
 ·exact(World.putObj_heap_other e).trans c
theorem A0.alloc(W:Ϡ)(o:Obj):A0 Pr W (W.alloc o):=λb x c _ _=>(Below.heap_alloc W o b (Array.getElem?_eq_some_iff.1 c).1).trans c
theorem GJ{n:Nat}(h:Below n W W')(d:b<n)(c:names Pr W b):names Pr W' b:=λx e=>c x (by rw[<-h.block b d];exact e)
abbrev Hdr:=Option Addr×Nat×Nat
def hdV(h:Hdr):Value:=.slice h.1 h.2.1 h.2.2
def FH(w:World)(a:Option Addr)(l:List Hdr):Prop:=
 ∀i,i<l.length->∃b off,a=some ⟨b,off,none⟩/\Δ w b (off+i) (hdV (l.getD i (none,0,0)))
theorem Ox(BX:Nat)(ap:Int)(m:Hdr)(f:ϡ)(rc:Nat)(rs:List Hdr)(Pr:Nat->Obj->Prop)(w:Ϡ)(hl:rs.length<=ύ)
 (h1:Δ w BX 1 (hdV m)) (D:Δ w BX 2 (.slice f rs.length rc)) (t:FH w f rs) (F:names Pr w BX) (G:∀x,0<rs.length->f=some x->names Pr w x.block):
 Abu Tryz.prog 268 #[ω BX] ((m::rs).map λh=>#[hdV h]) (A0 Pr) w:=by
 intro l J Jx W c hJ an q j;obtain⟨R,T,U⟩:=m;have N:=cLz c h1;have O:=cLz c D;have K:FH W f rs:=λi hi=>by obtain⟨b,o,e,x⟩:=t i hi;exact⟨b,o,e,cLz c x⟩
 unfold hdV at N;dsimp only at N;have Y:=hV0 q;have X:=hV0 K;have C:Ϣ (names Pr W BX/\∀x,0<rs.length->f=some x->names Pr W x.block):=⟨GJ c (bLt _ _ h1) F,λx j L=>by
  obtain⟨b,o,e,y⟩:=t 0 j;rw[L]at e;cases e;exact GJ c (bLt _ _ y) (G _ j L)⟩
 have A:Ϣ ((((((R,T,U):Hdr)::rs).map λh=>#[hdV h])).length=rs.length+1):=by show _=_;simp
 have ah:=q 0 #[.slice R T U] W (by simp[hdV]) j;clear q t K F G h1 D c;obtain⟨n,s⟩:∃n,rs.length=n:=⟨_,rfl⟩;have g:=hV0 s;rw[s]at O hl A;clear s;rw[A.o];refine callsIn_of_wp func268 rfl trivial ?_ rfl;simp only[ntmps268,size_toArray,length_cons,length_nil,Nat.reduceAdd,Nat.reduceSub,Array.replicate_succ,Array.replicate_zero,push_toArray,append_toArray,nil_append,cons_append];obtain⟨fn,aq,ai,ak,hy,hR⟩:=ah
 gi_wp2
 refine⟨rfl,hR.mono ?_⟩;rintro e W1 ⟨_,(⟨rfl,Z,H⟩|⟨rfl,ab⟩)⟩
 ·have c2:=H.cell C.o.1 O
  gi_wp2
  gi_loopw [13] (λi wr=> ∃k:Nat,k<=n/\i= .int .i64 k/\J (k+1) wr/\A0 Pr W wr) (λi _=>n - (intOf i).toNat)
  case atStart=>exact⟨0,Nat.zero_le _,rfl,Z,H⟩
  case round=>
   obtain⟨k,hk,rfl,E,I⟩:=hrel;by_cases r:k<n
   ·obtain⟨b,o,e,V⟩:=X.o k (by rw[g.o];exact r);subst e;have u:=I.cell (C.o.2 _ (by rw[g.o];omega) rfl) V;obtain⟨⟨z1,z2,z3⟩,d⟩:∃z,rs.getD k (none,0,0)=z:=⟨_,rfl⟩;have ag:=Y.o (k+1) #[.slice z1 z2 z3] wr (by
     rw[map_cons,getElem?_cons_succ,getElem?_map,gEe (by rw[g.o];exact r)];rw[gDe,gEe (by rw[g.o];exact r)]at d;simp at d;simp[d,hdV]) E
    rw[d]at u;unfold hdV at u;dsimp only at u;clear d V;obtain⟨am,ar,aj,al,ao,ad⟩:=ag;have i1:=nn0 k;have i2:(k:Int)<(n:Int):=Ϥ
    gi_wp2
    refine⟨rfl,ad.mono ?_⟩;rintro e W2 ⟨_,(⟨rfl,aa,ae⟩|⟨rfl,ac⟩)⟩
    ·gi_wp2
     go_roundw;exact⟨k+1,Ϥ,by go_num,aa,I.trans ae⟩;simp[intOf];omega
    ·gi_wp2
     refine bodyPost_ret (results_none rfl _ _ _) rfl ?_;exact⟨⟨_,rfl⟩,.inr ac⟩
   ·have af:k=n:=Ϥ;subst af
    gi_wp2
    go_end0
    exact⟨⟨_,rfl⟩,.inl E⟩
 ·gi_wp2
  refine bodyPost_ret (results_none rfl _ _ _) rfl ?_;exact⟨⟨_,rfl⟩,.inr ab⟩
structure EM where
 key:ByteArray
 time:Int
 seq:Int
 row:Hdr
 met:Bool
instance:Inhabited EM:=⟨⟨⟨#[]⟩,0,0,(none,0,0),false⟩⟩
def EM.val(e:EM):Value:=.agg #[.string e.key,.int .i64 e.time,.int .i64 e.seq,hdV e.row,.bool e.met]
def BR(w:World)(a:Option Addr)(l:List EM):Prop:=
 ∀i,i<l.length->∃b off,a=some ⟨b,off,none⟩/\Δ w b (off+i * 5) (.string (l.getD i ϰ).key)/\Δ w b (off+i * 5+1) (.int .i64 (l.getD i ϰ).time)/\
  ϝ w b (off+i * 5+1+1) (.int .i64 (l.getD i ϰ).seq) (hdV (l.getD i ϰ).row) (.bool (l.getD i ϰ).met)
theorem Cj{w w':Ϡ}{a:ϡ}{l:List EM}(h:BR w a l)(c:ϣ w w'):BR w' a l:=by
 intro i d;obtain⟨b,o,e,f,g,j,k,m⟩:=h i d;exact⟨b,o,e,cLz c f,cLz c g,cLz c j,cLz c k,cLz c m⟩
abbrev Part:=Hdr×List EM
def ems(p:List Part):List EM:=p.flatMap (·.2)
def Gt(p:List Part)(i:Nat):Nat:=(ems (p.take i)).length
theorem Rz(p q:List Part):ems (p++q)=ems p++ems q:=by unfold ems;rw[flatMap_append]
theorem VG{p:List Part}(h:i<p.length):p=p.take i++(p[i]::p.drop (i+1)):=by
 rw[getElem_cons_drop];exact(take_append_drop i p).symm
theorem Qo{p:List Part}(h:i<p.length):Gt p (i+1)=Gt p i+(p[i]).2.length:=by
 unfold Gt;rw[take_succ_eq_append_getElem h,Rz,lAp];simp[ems]
theorem Oy(p:List Part):Gt p p.length=(ems p).length:=by unfold Gt;rw[take_length]
theorem Afz{p:List Part}{k:Nat}(h:i<p.length)(c:k<(p[i]).2.length):(ems p)[Gt p i+k]? =some ((p[i]).2.getD k ϰ):=by
 have e:ems p=ems (p.take i)++((p[i]).2++ems (p.drop (i+1))):=by
  have d:ems p=ems (p.take i++(p[i]::p.drop (i+1))):=by rw[<-VG h]
  rw[d,Rz];rfl
 rw[e];unfold Gt;rw[getElem?_append_right Ϥ,Nat.add_sub_cancel_left,getElem?_append_left c,gEe c,gDe,gEe c];rfl
theorem Jo(c d f:Value)(h1:c.oneCell'=true)(g:d.oneCell'=true)(h:f.oneCell'=true)(w:Ϡ):
 χ 233 #[.agg #[c,d,f]] w λe w'=>e= .returned (.func (.func 268) #[] #[ω w])/\w'=w.alloc (.cells #[c,d,f] 36):=by
 go_enter func233,ntmps233;go_wp2;go_ret;exact⟨rfl,rfl⟩
theorem Jp(c d f:Value)(h1:c.oneCell'=true)(g:d.oneCell'=true)(h:f.oneCell'=true)(w:Ϡ):
 χ 237 #[.agg #[c,d,f]] w λe w'=>e= .returned (.func (.func 276) #[] #[ω w])/\w'=w.alloc (.cells #[c,d,f] 36):=by
 go_enter func237,ntmps237;go_wp2;go_ret;exact⟨rfl,rfl⟩
structure boxAt(w:World)(BX:Nat)(lim:Int)(ra:Option Addr)(rc:Nat)(m:Part)(rs:List Part):Prop where
 lim:Δ w BX 0 (.int .i64 lim)
 mem:Δ w BX 1 (hdV m.1)
 runs:Δ w BX 2 (.slice ra rs.length rc)
 hds:FH w ra (rs.map (·.1))
 len:∀p∈m::rs,p.1.2.1=p.2.length/\p.2.length<=ύ
 ems:∀p∈m::rs,BR w p.1.1 p.2
 few:rs.length<=ύ
theorem AbR(BX:Nat)(Z:Int)(C:ϡ)(T:Nat)(m:Part)(rs:List Part)(Pr:Nat->Obj->Prop)(w:Ϡ)(h:boxAt w BX Z C T m rs)
 (hS:names Pr w BX) (av:∀x,0<rs.length->C=some x->names Pr w x.block) (aw:∀p∈m::rs,∀x,0<p.2.length->p.1.1=some x->names Pr w x.block)
 (aj:∀b c f,w.heap.size<=b->Pr b (.cells c 36 f)) (ak:∀b c f,w.heap.size<=b->Pr b (.cells c 247 f)):
 Abu Tryz.prog 276 #[ω BX] ((ems (m::rs)).map λe=>#[e.val]) (A0 Pr) w:=by
 intro l J Jx W hb hJ au hY L;obtain⟨k0,k1,k2⟩:=lk3 hb h.lim h.mem h.runs;obtain⟨⟨g,s,A⟩,ml⟩:=m;unfold hdV at k1;dsimp only at k1;have lX:BX<W.heap.size:=bLt _ _ k0;obtain⟨n,I⟩:∃n,rs.length=n:=⟨_,rfl⟩;have HN:=hV0 I;rw[I]at k2;clear I;obtain⟨xs,ao⟩:=nM ((ems ((((g,s,A):Hdr),ml)::rs)).map (λe=>#[e.val]));have HX:=hV0 ao;rw[ao]at hY⊢;clear ao;refine callsIn_of_wp_marks func276 rfl trivial ?_ rfl;simp only[ntmps276,size_toArray,length_cons,length_nil,Nat.reduceAdd,Nat.reduceSub,Array.replicate_succ,Array.replicate_zero,push_toArray,append_toArray,nil_append,cons_append]
 gi_wp2_with (refine⟨trivial,rfl,?_⟩;gi_at_call 233;refine(callsIn_wide.2 (Jo _ _ _ rfl rfl rfl _)).mono ?_;rintro e w' ⟨rfl,rfl⟩)
 have E:Ϣ (boxAt w BX Z C T ((g,s,A),ml) rs/\names Pr w BX/\(∀x,0<rs.length->C=some x->names Pr w x.block)/\(∀p∈((g,s,A),ml)::rs,∀x,0<p.2.length->p.1.1=some x->names Pr w x.block)):=⟨h,hS,av,aw⟩;have HP:Ϣ ((∀b c f,w.heap.size<=b->Pr b (.cells c 36 f))/\(∀b c f,w.heap.size<=b->Pr b (.cells c 247 f))):=⟨aj,ak⟩;have HJ:Ϣ (OwnFrom W.heap.size J/\OwnFrom W.heap.size Jx):=⟨hJ,au⟩;have HY:=hV0 hY;generalize G:((W.alloc (.cells #[.func (.yield l) #[] #[]] 247)).alloc (.cells (τ Z g s A C n T) 36))=V at *;have c2:Δ V W 0 (.func (.yield l) #[] #[]):=by subst G;go_simp
 have d1:Δ V (W+1) 1 (.slice g s A):=by subst G;go_simp
 have d2:Δ V (W+1) 2 (.slice C n T):=by subst G;go_simp
 have bd:ϣ W V:=by subst G;exact ϯ.alloc Ϧ _
 have bs:V.heap.size=W.heap.size+2:=by subst G;simp
 have nB:names Pr V (W.heap.size+1):=by
  subst G;exact λo U=>by
   have h:=World.alloc_heap_new (ϊ W #[.func (.yield l) #[] #[]] 247) (.cells (τ Z g s A C n T) 36);rw[World.size_alloc]at h;rw[h]at U;cases U;exact aj _ _ _ (by have:=hb.size;omega)
 have nY:names Pr V W.heap.size:=by
  subst G;exact λo U=>by
   have h:=(Below.heap_alloc (ϊ W #[.func (.yield l) #[] #[]] 247) (.cells (τ Z g s A C n T) 36) W.heap.size Ϧ).trans (World.alloc_heap_new W _);rw[h]at U;cases U;exact ak _ _ _ hb.size
 have ba:J 0 V:=by subst G;exact hJ.alloc _ (hJ.alloc _ L)
 clear hY hJ au h hS av aw aj ak k0 k1 k2 L;clear G;have af:ϣ w V:=bT hb bd;obtain⟨P,hP⟩:∃z:List Part,(((g,s,A),ml)::rs)=z:=⟨_,rfl⟩;have bk:Ϣ (P.length=n+1):=by show _=_;rw[<-hP,length_cons,HN.o]
 have a7:Ϣ (∀p∈P,p.1.2.1=p.2.length/\p.2.length<=ύ/\BR V p.1.1 p.2/\∀x,0<p.2.length->p.1.1=some x->names Pr V x.block):=λp hp=>by
  rw[<-hP]at hp;refine⟨(E.o.1.len p hp).1,(E.o.1.len p hp).2,Cj (E.o.1.ems p hp) af,λx L d=>?_⟩;obtain⟨b,o,e,y,_⟩:=E.o.1.ems p hp 0 L;rw[d]at e;cases e;exact GJ af (bLt _ _ y) (E.o.2.2.2 p hp _ L d)
 have a8:Ϣ ((((g,s,A):Hdr)::rs.map (·.1)).map (λh=>#[hdV h])=P.map λp=>#[hdV p.1]):=by
  show _=_;rw[<-hP];simp
 have HE:Ϣ ((ems P).map (λe=>#[e.val])=xs):=by show _=_;rw[<-hP];exact HX.o
 have a6:(rs.map (·.1)).length=n:=by rw[lMp,HN.o]
 have a0:=Ox (W.heap.size+1) Z (g,s,A) C T (rs.map (·.1)) Pr V (by rw[a6,<-HN.o];exact E.o.1.few) d1 (by rw[a6];exact d2) (λi H=>by obtain⟨b,o,e,x⟩:=E.o.1.hds i H;exact⟨b,o,e,cLz af x⟩) nB (λx L d=>by
  obtain⟨b,o,e,y⟩:=E.o.1.hds 0 L;rw[d]at e;cases e;exact GJ af (bLt _ _ y) (E.o.2.2.1 _ (by simpa using L) d))
 rw[a8.o]at a0;refine DD (gf:=268) (lb:=#[.pointer (some ⟨W+1,0,none⟩)]) rfl (enters_of func268 ϧ rfl) a0 bR (λx d=>by obtain⟨p,_,rfl⟩:=mem_map.1 d;rfl) (λh k=>A0.trans h k) (λW l o o' _ h U=>A0.put W l o o' h U)
  (λi X=>J (Gt P i) X/\A0 Pr V X) (λc X=>c= .ret/\Jx () X)
  (λi X X' ah Y hg hr=>⟨(Abv HJ.o.1 Ϥ) _ X X' ah Y.1 hg hr,Y.2.grown hg (λr e=>(hr r e).2)⟩)
  (λc X X' ah Y hg hr=>⟨Y.1,(Abv HJ.o.2 Ϥ) _ X X' ah Y.2 hg hr⟩)
  ⟨ba,A0.refl _ _⟩
  (λi a' X=>a'={tmps:=#[.func (.yield l) #[] #[],.pointer (some ⟨BX,0,none⟩),.pointer (some ⟨W,0,none⟩),hdV (P.getD i ϰ).1,undef,undef,.agg #[.int .i64 Z,.slice g s A,.slice C n T],.func (.func 268) #[] #[.pointer (some ⟨W+1,0,none⟩)],hdV (P.getD i ϰ).1,undef,undef,undef,undef,undef,undef,undef,undef,undef,undef,undef],defers:=[]})
  (λi a' u X X' ah Y hg hr=>Y) ?assign ?body ?done ?stop
 case assign=>
  intro l' k x X K d H N;obtain⟨hk,ag⟩:=List.getElem?_eq_some_iff.1 d;rw[lMp]at hk;rw[getElem_map]at ag;subst ag;have hd:P.getD k ϰ=P[k]:=by rw[gDe,gEe hk];rfl
  have ac:=λW' h1 h2 h3=>N _ W' h1 h2 h3 rfl;rw[hd]at ac;clear N hd d;obtain⟨⟨⟨z1,z2,z3⟩,zl⟩,hz⟩:∃z,P[k]=z:=⟨_,rfl⟩;rw[hz]at ac⊢;unfold hdV at ac⊢;dsimp only at ac⊢
  gi_wp2
  exact ac X (KeepsFrom.refl _ _) (A0.refl _ _) H
 case body=>
  intro l' i x a' X d bq br a9 ax;obtain⟨aq,a2⟩:=a9;obtain⟨H,ag⟩:=List.getElem?_eq_some_iff.1 d;rw[lMp]at H;have hd:P.getD i ϰ=P[i]:=by rw[gDe,gEe H];rfl
  rw[hd]at ax;subst ax;have an:=a7.o P[i] (getElem_mem H);have aa:Ϣ (∀j,j<(P[i]).2.length->xs[Gt P i+j]? =some #[((P[i]).2.getD j ϰ).val]):=λj hj=>by
   rw[<-HE.o,getElem?_map,Afz H hj];rfl
  have ab:Ϣ (Gt P (i+1)=Gt P i+(P[i]).2.length):=Qo H;clear d ag hd;obtain⟨⟨⟨z1,z2,z3⟩,zl⟩,hz⟩:∃z,P[i]=z:=⟨_,rfl⟩;rw[hz]at an aa ab⊢;dsimp only at an aa ab⊢;obtain⟨bi,bj,ay,a5⟩:=an;subst bi;have ap:Ϣ (BR V z1 zl/\∀x,0<zl.length->z1=some x->names Pr V x.block):=⟨ay,a5⟩;obtain⟨q,hq⟩:∃q,zl.length=q:=⟨_,rfl⟩;have HQ:=hV0 hq;rw[hq]at bj aa ab;unfold hdV;dsimp only;rw[hq];clear hz ay a5 hq;obtain⟨O,hO⟩:∃O,Gt P i=O:=⟨_,rfl⟩;rw[hO]at aq aa ab;have lV:W.heap.size<X.heap.size:=by
   have:=bLt _ _ (a2.cell nY c2);exact this
  gi_wp2
  gi_loopw [11] (λt wr=> ∃j:Nat,j<=q/\t= .int .i64 j/\J (O+j) wr/\A0 Pr V wr/\A0 Pr X wr/\KeepsFrom V.heap.size X wr) (λt _=>q - (intOf t).toNat)
  case atStart=>exact⟨0,Nat.zero_le _,rfl,aq,a2,A0.refl _ _,KeepsFrom.refl _ _⟩
  case round=>
   obtain⟨j,hj,rfl,ar,R,a3,am⟩:=hrel;have y2:=R.cell nY c2;have ly:W.heap.size<wr.heap.size:=bLt _ _ y2;by_cases a4:j<q
   ·obtain⟨b,o,e,x1,x2,x3,x4,x5⟩:=ap.o.1 j (by rw[HQ.o];exact a4);subst e;have I:=ap.o.2 _ (by rw[HQ.o];omega) rfl;have q1:=R.cell I x1;have q2:=R.cell I x2;have q3:=R.cell I x3;have q4:=R.cell I x4;have q5:=R.cell I x5;have ad:=aa.o j a4;obtain⟨⟨ek,et,es,⟨r1,r2,r3⟩,em⟩,he⟩:∃z,zl.getD j ϰ=z:=⟨_,rfl⟩;rw[he]at q1 q2 q3 q4 q5 ad;unfold hdV at q4;unfold EM.val hdV at ad;dsimp only at q1 q2 q3 q4 q5 ad;have lb:b<wr.heap.size:=bLt _ _ q1;have i1:=nn0 j;have i2:(j:Int)<(q:Int):=Ϥ;have bh:=HY.o (O+j) _ (ϊ wr (φ ek et es r1 r2 r3 em) 166) ad (HJ.o.1.alloc _ ar);obtain⟨bo,bv,bm,bn,bu,bc⟩:=bh;clear he x1 x2 x3 x4 x5 ad
    gi_wp2
    refine⟨rfl,RoundIn.mono (F:=Fence.wide.inRound l') bc ?_⟩;rintro e W2 ⟨az,(⟨rfl,ae,bg⟩|⟨rfl,bb⟩)⟩
    ·have a1:A0 Pr wr W2:=(A0.alloc wr _).trans bg;have al:KeepsFrom V.heap.size X W2:=am.trans (((KeepsOthers.alloc _ _).from _).trans (Ic az Ϥ))
     gi_wp2
     go_roundw;exact⟨j+1,Ϥ,by go_num,ae,R.trans a1,a3.trans a1,al⟩;simp[intOf];omega
    ·have al:KeepsFrom V.heap.size X W2:=am.trans (((KeepsOthers.alloc _ _).from _).trans (Ic az Ϥ))
     gi_wp2
     exact⟨al,rfl,bb⟩
   ·have be:j=q:=Ϥ;subst be
    gi_wp2
    exact⟨am,a3,by rw[ab.o];exact ar,R⟩
 case done=>
  rintro D X hD ⟨ai,bp⟩ N
  gi_wp2
  refine⟨Ϧ,.inl ⟨_,_,rfl,run_takeDeferred N,?_⟩⟩;have ae:=HJ.o.1.putObj (.deferred none) ai Ϥ N rfl;rw[lMp,Oy,<-lMp (f:=λe:EM=>#[e.val]),HE.o]at ae;exact⟨_,results_none rfl _ _ _,⟨_,rfl⟩,.inl ae⟩
 case stop=>
  rintro D c X hD ⟨rfl,ai⟩ N
  gi_wp2
  refine⟨Ϧ,.inl ⟨_,_,rfl,run_takeDeferred N,?_⟩⟩;exact⟨_,results_none rfl _ _ _,⟨_,rfl⟩,.inr (HJ.o.2.putObj (.deferred none) ai Ϥ N rfl)⟩
end bf
namespace bf
open vl
variable {w w' : Ϡ} {i : Nat}
structure Ent where
 key:ByteArray
 time:Int
 seq:Int
 row:List Cel
 met:Bool
deriving DecidableEq
instance:Inhabited Ent:=⟨⟨⟨#[]⟩,0,0,[],false⟩⟩
structure ER(w:World)(e:EM)(x:Ent):Prop where
 key:e.key=x.key
 time:e.time=x.time
 seq:e.seq=x.seq
 met:e.met=x.met
 len:e.row.2.1=x.row.length
 row:vl.rowAt w e.row.1 x.row
theorem ER.below{e:EM}{x:Ent}(h:ER w e x)(c:ϣ w w'):ER w' e x:=⟨h.key,h.time,h.seq,h.met,h.len,vl.Ac h.row c⟩
def ERs(w:World)(es:List EM)(l:List Ent):Prop:=es.length=l.length/\∀i,i<l.length->ER w (es.getD i ϰ) (l.getD i ϰ)
theorem ERs.below{es:List EM}{l:List Ent}(h:ERs w es l)(c:ϣ w w'):ERs w' es l:=⟨h.1,λi d=>(h.2 i d).below c⟩
theorem Aeh(w:Ϡ):ERs w [] []:=⟨rfl,λi c=>absurd c (Nat.not_lt_zero i)⟩
theorem AQ{α:Type}{l m:List α}{d:α}(h:i<l.length):(l++m).getD i d=l.getD i d:=by
 simp[gDe,getElem?_append_left h]
theorem AW{α:Type}{l m:List α}{d:α}(h:l.length<=i):(l++m).getD i d=m.getD (i - l.length) d:=by
 simp[gDe,getElem?_append_right h]
theorem Aei{es d:List EM}{l f:List Ent}(h:ERs w es l)(e:ERs w d f):ERs w (es++d) (l++f):=by
 refine⟨by rw[lAp,lAp,h.1,e.1],λi g=>?_⟩;rw[lAp]at g;by_cases c:i<l.length
 ·rw[AQ (by rw[h.1];exact c),AQ c];exact h.2 i c
 ·rw[AW (by rw[h.1];omega),AW Ϥ,h.1];exact e.2 _ Ϥ
def bl(b:ByteArray):List UInt8:=b.data.toList
theorem VH{a b:ByteArray}(h:bl a=bl b):a=b:=ByteArray.ext (Array.ext' h)
def ltP(a b:Ent):Prop:=bl a.key<bl b.key\/(a.key=b.key/\(a.time<b.time\/(a.time=b.time/\a.seq<b.seq)))
instance(a b:Ent):Decidable (ltP a b):=by unfold ltP;exact inferInstance
def Ep(a b:Ent):Prop:=a.key=b.key/\a.time=b.time/\a.seq=b.seq
instance(a b:Ent):Decidable (Ep a b):=by unfold Ep;exact inferInstance
def Fg(a b:Ent):Int:=if ltP a b then -1 else if Ep a b then 0 else 1
theorem Gy:∀(a b:List UInt8),Op.bytesLess a b=decide (a<b)
 |[],[]=>by simp[Op.bytesLess]
 |_::_,[]=>by simp[Op.bytesLess]
 |[],_::_=>by simp[Op.bytesLess]
 |a::x,b::y=>by
  rw[Op.bytesLess,Gy x y];simp only[cons_lt_cons_iff];by_cases c:a<b<;>by_cases d:a=b<;>by_cases e:x<y<;>simp[c,d,e]
theorem MR(a b:List UInt8):Lib.compareBytes a b=if a<b then -1 else if a=b then 0 else 1:=by
 rw[I8,Gy];by_cases c:a<b<;>by_cases d:a=b<;>simp[c,d]
theorem Ij(a:List UInt8):¬a<a:=List.lt_irrefl a
theorem Qp{a b c:List UInt8}(h1:a<b)(d:b<c):a<c:=List.lt_trans h1 d
theorem lt_tri(a b:List UInt8):a<b\/a=b\/b<a:=by
 by_cases c:a<b
 ·exact .inl c
 ·by_cases d:b<a
  ·exact .inr (.inr d)
  ·exact .inr (.inl (List.le_antisymm (List.not_lt.1 d) (List.not_lt.1 c)))
theorem E6(a:Ent):¬ltP a a:=by
 unfold ltP;rintro (h|⟨_,h|⟨_,h⟩⟩)
 ·exact Ij _ h
 ·omega
 ·omega
theorem CM{a b c:Ent}(h1:ltP a b)(d:ltP b c):ltP a c:=by
 unfold ltP at *;rcases h1 with h1|⟨f,h1⟩
 ·rcases d with d|⟨e,d⟩
  ·exact .inl (Qp h1 d)
  ·rw[<-e];exact .inl h1
 ·rcases d with d|⟨e,d⟩
  ·rw[f];exact .inl d
  ·exact .inr ⟨f.trans e,Ϥ⟩
theorem ltP_tri(a b:Ent):ltP a b\/Ep a b\/ltP b a:=by
 unfold ltP Ep;rcases lt_tri (bl a.key) (bl b.key)with h|h|h
 ·exact .inl (.inl h)
 ·have e:=VH h;by_cases d:a.time<b.time
  ·exact .inl (.inr ⟨e,.inl d⟩)
  ·by_cases f:b.time<a.time
   ·exact .inr (.inr (.inr ⟨e.symm,.inl f⟩))
   ·have c:a.time=b.time:=Ϥ;by_cases g:a.seq<b.seq
    ·exact .inl (.inr ⟨e,.inr ⟨c,g⟩⟩)
    ·by_cases j:b.seq<a.seq
     ·exact .inr (.inr (.inr ⟨e.symm,.inr ⟨c.symm,j⟩⟩))
     ·exact .inr (.inl ⟨e,c,Ϥ⟩)
 ·exact .inr (.inr (.inl h))
theorem VI(a:Ent):Ep a a:=⟨rfl,rfl,rfl⟩
theorem JQ{a b:Ent}(h:Ep a b):Ep b a:=⟨h.1.symm,h.2.1.symm,h.2.2.symm⟩
theorem Oz{a b c:Ent}(h:ltP a b)(k:Ep b c):ltP a c:=by
 unfold ltP at *;rw[<-k.1,<-k.2.1,<-k.2.2];exact h
theorem AbS{a b c:Ent}(h:Ep a b)(k:ltP b c):ltP a c:=by
 unfold ltP at *;rw[h.1,h.2.1,h.2.2];exact k
theorem O0{a b:Ent}(h:ltP a b):¬Ep a b:=λk=>E6 _ (Oz h (JQ k))
theorem Hj{a b:Ent}:Fg a b<0↔ltP a b:=by
 unfold Fg;by_cases h:ltP a b
 ·simp[h]
 ·by_cases c:Ep a b<;>simp[h,c]
theorem Mc{a b:Ent}:Fg a b=0↔Ep a b:=by
 unfold Fg;by_cases h:ltP a b
 ·simp[h,O0 h]
 ·by_cases c:Ep a b<;>simp[h,c]
theorem JS(a b:Ent):Bb [Lib.compareBytes (bl a.key) (bl b.key),CU a.time b.time,CU a.seq b.seq]=Fg a b:=by
 have g:=MR (bl a.key) (bl b.key);rw[g];unfold Bb Bb Bb Bb CU Fg;unfold ltP Ep;rcases lt_tri (bl a.key) (bl b.key)with h|h|h
 ·simp[h]
 ·have e:=VH h;simp only[h,Ij,if_false,if_true,e,false_or,true_and];by_cases d:a.time<b.time
  ·simp[d]
  ·by_cases f:b.time<a.time
   ·have c:¬a.time=b.time:=Ϥ;simp[d,f,c]
   ·have j:a.time=b.time:=Ϥ;simp only[j,Int.lt_irrefl,if_false,false_or,true_and];by_cases c:a.seq<b.seq
    ·simp[c]
    ·by_cases m:b.seq<a.seq
     ·have q:¬a.seq=b.seq:=Ϥ;simp[c,m,q]
     ·have l:a.seq=b.seq:=Ϥ;simp[l]
 ·have d:¬bl a.key<bl b.key:=λk=>Ij _ (Qp k h);have f:¬bl a.key=bl b.key:=λk=>by rw[k]at h;exact Ij _ h
  have c:¬a.key=b.key:=λk=>f (by rw[k]);simp[d,f,c]
def AA(n a b:Int):Bool:=decide (a<=n/\n<=b)
theorem Bh(n a b:Int):AA n a b=true↔(a<=n/\n<=b):=by simp[AA]
theorem CH(n a b:Int):AA n a b=false↔ ¬(a<=n/\n<=b):=by unfold AA;exact decide_eq_false_iff_not
theorem Ap(n a b:Int)(w:Ϡ):
 χ 83 #[.int .i64 n,.int .i64 a,.int .i64 b] w λe w'=>e= .returned (.bool (AA n a b))/\w'=w:=by
 by_cases c:a<=n
 ·by_cases d:n<=b
  ·rw[(Bh n a b).2 ⟨c,d⟩];go_enter func83,ntmps83;go_wp2;go_ret;exact⟨rfl,rfl⟩
  ·rw[(CH n a b).2 Ϥ];go_enter func83,ntmps83;go_wp2;go_ret;exact⟨rfl,rfl⟩
 ·rw[(CH n a b).2 Ϥ];go_enter func83,ntmps83;go_wp2;go_ret;exact⟨rfl,rfl⟩
theorem IJ(n:Int)(w:Ϡ):
 χ 166 #[.int .i64 n] w λe w'=>e= .returned (.bool (AA n 1 64))/\w'=w:=by
 by_cases c:1<=n
 ·by_cases d:n<=64
  ·rw[(Bh n 1 64).2 ⟨c,d⟩];go_enter func166,ntmps166;go_wp2;go_ret;exact⟨rfl,rfl⟩
  ·rw[(CH n 1 64).2 Ϥ];go_enter func166,ntmps166;go_wp2;go_ret;exact⟨rfl,rfl⟩
 ·rw[(CH n 1 64).2 Ϥ];go_enter func166,ntmps166;go_wp2;go_ret;exact⟨rfl,rfl⟩
theorem Af0(b:Nat)(zs:List Int)(w:Ϡ)(C:zs.length<=100)
 (m:∀i,i<zs.length->Δ w b i (.int .i64 (zs[i]?.getD 0))):
 χ 293 #[.slice (ϋ b) zs.length zs.length] w λe w'=>e= .returned (.int .i64 (Bb zs))/\w'=w:=by
 go_enter func293,ntmps293;go_wp2
 go_loop [8] (λi=> ∃k:Nat,k<=zs.length/\i= .int .i64 k/\∀i,i<k->zs[i]?.getD 0=0) (λi=>zs.length - (intOf i).toNat)
 case atStart=>exact⟨0,Nat.zero_le _,rfl,λi g=>absurd g (Nat.not_lt_zero i)⟩
 case round=>
  obtain⟨k,A,rfl,l⟩:=hrel;have c:=hV0 l;clear l;by_cases r:k<zs.length
  ·have t:=m k r;obtain⟨z,j⟩:=nM (zs[k]?.getD 0);rw[j]at t;have d:=hV0 j;clear m j;by_cases f:(z==0)=true
   ·have q:z=0:=by simpa using f
    have s:Ϣ (z=0):=q;clear q;go_wp2
    go_round
    case rel=>exact⟨k+1,Ϥ,by go_num,λi g=>by
     rcases Nat.lt_succ_iff_lt_or_eq.1 g with h|h
     ·exact c.o i h
     ·rw[h,d.o];exact s.o⟩
    case measure=>simp[intOf];omega
   ·have y:(z==0)=false:=by simpa using f
    have u:Ϣ (Bb zs=z):=by
     show Bb zs=z;rw[NX zs k c.o r (by rw[d.o];simpa using f)];exact d.o
    go_wp2;go_ret;exact⟨Ad (by rw[u.o]),rfl⟩
  ·have x:Ϣ (Bb zs=0):=by
    show Bb zs=0;rw[Ib zs k c.o,drop_of_length_le Ϥ];rfl
   go_wp2;go_ret;exact⟨Ad (by rw[x.o]),rfl⟩
theorem or3(b:Nat)(x y z:Int)(w:Ϡ)(h0:Δ w b 0 (.int .i64 x))(h1:Δ w b 1 (.int .i64 y))(c:Δ w b 2 (.int .i64 z)):
 χ 293 #[.slice (ϋ b) 3 3] w λe w'=>e= .returned (.int .i64 (Bb [x,y,z]))/\w'=w:=
 Af0 b [x,y,z] w Ϧ (λi d=>by
  match i,d with
  |0,_=>exact h0
  |1,_=>exact h1
  |2,_=>exact c)
def EM.ent(e:EM):Ent:=⟨e.key,e.time,e.seq,[],e.met⟩
theorem Lq{e f:EM}{x y:Ent}(h:ER w e x)(k:ER w f y):Fg e.ent f.ent=Fg x y:=by
 unfold Fg ltP Ep EM.ent;simp only[h.key,h.time,h.seq,k.key,k.time,k.seq]
attribute [local go_sem ↓] Go.wp_at_zero Go.wp_at_succ
theorem TW(e f:EM)(w:Ϡ):
 χ 272 #[e.val,f.val] w (ψ w (.int .i64 (Fg e.ent f.ent))):=by
 have c:Ϣ (Bb [Lib.compareBytes e.key.data.toList f.key.data.toList,CU e.time f.time,CU e.seq f.seq]=Fg e.ent f.ent):=JS e.ent f.ent;obtain⟨d,k,h,⟨m,r,t⟩,x⟩:=e;obtain⟨g,l,j,⟨q,s,u⟩,y⟩:=f;rw[<-c.o];clear c;unfold EM.val hdV;dsimp only;go_enter func272,ntmps272;go_wp2
 go_region_held3 (λw'=>ϟ w' w (.string d) (.int .i64 k) (.int .i64 h) (Ϟ w' (w+1) (.string g) (.int .i64 l) (.int .i64 j))) (go_keep)
  (first
   |(go_at_call 263;refine(JM _ _ _).mono ?_;rintro e w' ⟨rfl,rfl⟩)
   |(go_at_call 283;refine(JL _ _ _).mono ?_;rintro e w' ⟨rfl,rfl⟩)
   |(go_at_call 293;refine(or3 _ (Lib.compareBytes d.data.toList g.data.toList) (CU k l) (CU h j) _ ?_ ?_ ?_).mono ?_;(go_simp);(go_simp);(go_simp);rintro e w' ⟨rfl,rfl⟩))
 all_goals
  go_wp2;go_ret;refine⟨rfl,?_⟩
  repeat (first|exact bR|apply Below.drew|(refine Below.alloc ?_ ϫ _))
theorem IK(e:EM)(w:Ϡ):
 χ 275 #[e.val] w (ψ w (.agg #[.string e.key,.int .i64 e.time,.int .i64 e.seq])):=by
 obtain⟨c,f,d,⟨g,h,j⟩,k⟩:=e;unfold EM.val hdV;dsimp only;go_enter func275,ntmps275;go_wp2;refine bodyPost_ret (v:=.agg #[.string c,.int .i64 f,.int .i64 d]) (by simp[results,results275,go_sem]) rfl ⟨rfl,?_⟩
 repeat (first|exact bR|apply Below.drew|(refine Below.setCell ?_ Ϧ _)|(refine Below.alloc ?_ ϫ _))
def isKey(k:ByteArray):Prop:=∃r,rowOk r/\encR r=k.data.toList
structure wfE(x:Ent):Prop where
 key:x.key.size<=maxLen
 row:Bq x.row
 len:x.row.length<=ύ
def EH(x:Ent):Prop:=isKey x.key/\Au x.row=0/\tm.Bt x.time=true/\0<=x.seq/\x.seq<=1099511627776
noncomputable def Dv(x:Ent):Bool:=@decide (EH x) (Classical.propDecidable _)
theorem Gb{x:Ent}(h:EH x):Dv x=true:=by unfold Dv;exact @decide_eq_true _ (Classical.propDecidable _) h
theorem O1{x:Ent}(h:¬EH x):Dv x=false:=by unfold Dv;exact @decide_eq_false _ (Classical.propDecidable _) h
theorem Md{x:Ent}:Dv x=true↔EH x:=by
 by_cases h:EH x
 ·simp[Gb h,h]
 ·simp[O1 h,h]
theorem AbT{k:ByteArray}(h:¬isKey k):NV k.data.toList:=λr c e=>h ⟨r,c,e⟩
theorem IL(e:EM)(x:Ent)(w:Ϡ)(h:ER w e x)(hw:wfE x):
 χ 271 #[e.val] w (ψ w (.bool (Dv x))):=by
 obtain⟨f,m,l,⟨C,b1,E⟩,I⟩:=e;obtain⟨h1,h2,h3,h4,h5,L⟩:=h;obtain⟨xk,xt,xs,q,xm⟩:=x;obtain⟨c,Y,Z⟩:=hw;dsimp only at h1 h2 h3 h4 h5 L c Y Z;subst h1 h2 h3 h4 h5;obtain⟨R,G⟩:=nM (Dv ⟨f,m,l,q,I⟩);have ag:Ϣ (EH ⟨f,m,l,q,I⟩->true=R):=λh=>by rw[<-G,Gb h]
 have u:Ϣ (¬EH ⟨f,m,l,q,I⟩->false=R):=λh=>by rw[<-G,O1 h]
 have A:=hIz (λ(c:Ϡ) (N:ϣ w c)=>Jj C E q c (vl.Ac L N) Y Z);rw[G];obtain⟨ke,T⟩:=nM (Au q);obtain⟨ks,ae⟩:=nM (FR q);rw[T,ae]at A;have aa:=hV0 T;obtain⟨n,U⟩:=nM q.length;rw[U]at A;unfold EM.val hdV;dsimp only;rw[U];clear G T ae U L Y Z;have ac:ϣ w (ϊ w (φ f m l C n E I) 166):=ϯ;by_cases H:isKey f
 ·obtain⟨J,V,O⟩:=H;have z:Ϣ (∀c,CT 145 #[.string f] c λe w'=>(∃D F,e= .returned (.tuple #[.slice D J.length F,.int .i64 0]))/\ϣ c w'):=λX=>(Ng f J X c V O).mono (λe w' ⟨⟨D,F,he,_⟩,N⟩=>⟨⟨D,F,he⟩,N⟩);have HK:Ϣ (isKey f):=⟨J,V,O⟩;obtain⟨rl,af⟩:=nM J.length;rw[af]at z;clear O V af;go_enter func271,ntmps271;go_wp2_with fail;refine(z.o _).mono ?_;rintro e t ⟨⟨D,F,rfl⟩,g⟩;have c0:Δ t w 0 (.string f):=by rw[g.cell (p:=⟨w,0,none⟩) Ϧ];go_simp
  have ab:Δ t w 1 (.int .i64 m):=by rw[g.cell (p:=⟨w,1,none⟩) Ϧ];go_simp
  have c2:Δ t w 2 (.int .i64 l):=by rw[g.cell (p:=⟨w,2,none⟩) Ϧ];go_simp
  have c3:Δ t w 3 (.slice C n E):=by rw[g.cell (p:=⟨w,3,none⟩) Ϧ];go_simp
  have y:=bT ac g;clear g;go_wp2_with fail;refine(A.o _ y).mono ?_;rintro e wb ⟨rfl,s⟩;have d1:=cLz s ab;have d2:=cLz s c2;have j:=bT y s;clear s c0 ab c2 c3;by_cases K:ke=0
  ·subst K;have r:=hIz (λ(c:Ϡ)=>tm.Dr m c)
   cases hf:tm.Bt m with
   |false=>
    have d:Ϣ (false=R):=u.o (λh=>by have:=h.2.2.1;rw[hf]at this;cases this);rw[hf]at r;go_wp2_with (go_at_call 197;refine(r.o _).mono ?_;rintro e w' ⟨rfl,k⟩;subst k);go_ret;exact⟨Aa d.o,j⟩
   |true=>
    rw[hf]at r;by_cases s0:0<=l
    ·by_cases s2:l<=1099511627776
     ·have d:Ϣ (true=R):=ag.o ⟨HK.o,aa.o,hf,s0,s2⟩;go_wp2_with (go_at_call 197;refine(r.o _).mono ?_;rintro e w' ⟨rfl,k⟩;subst k);go_ret;exact⟨Aa d.o,j⟩
     ·have d:Ϣ (false=R):=u.o (λh=>s2 h.2.2.2.2);go_wp2_with (go_at_call 197;refine(r.o _).mono ?_;rintro e w' ⟨rfl,k⟩;subst k);go_ret;exact⟨Aa (by rw[<-d.o];exact decide_eq_false Ϥ),j⟩
    ·have d:Ϣ (false=R):=u.o (λh=>s0 h.2.2.2.1);go_wp2_with (go_at_call 197;refine(r.o _).mono ?_;rintro e w' ⟨rfl,k⟩;subst k);go_ret;exact⟨Aa d.o,j⟩
  ·have ah:(ke==0)=false:=by simpa using K
   have d:Ϣ (false=R):=u.o (λh=>K (by rw[<-aa.o];exact h.2.1));go_wp2;go_ret;exact⟨Aa d.o,j⟩
 ·have z:Ϣ (∀c,CT 145 #[.string f] c (ψ c (.tuple #[.slice none 0 0,.int .i64 1]))):=λX=>AcD f X c (AbT H);have d:Ϣ (false=R):=u.o (λh=>H h.1);clear H;go_enter func271,ntmps271;go_wp2_with fail;refine(z.o _).mono ?_;rintro e t ⟨rfl,g⟩;have c3:Δ t w 3 (.slice C n E):=by rw[g.cell (p:=⟨w,3,none⟩) Ϧ];go_simp
  have y:=bT ac g;clear g;go_wp2_with fail;refine(A.o _ y).mono ?_;rintro e wb ⟨rfl,s⟩;have j:=bT y s;go_wp2;go_ret;exact⟨Aa d.o,j⟩
end bf
namespace bf
open vl
attribute [local go_sem] Oper.semAt_some
variable {W w w' : Ϡ} {B n : Nat}
structure Buf where
 lim:Int
 mem:List Ent
 runs:List (List Ent)
structure BX where
 ra:Option Addr
 rc:Nat
 m:Part
 rs:List Part
def B5(b:Buf)(x:BX):Value:=.agg #[.int .i64 b.lim,hdV x.m.1,.slice x.ra x.rs.length x.rc]
structure bufAt(w:World)(b:Buf)(x:BX):Prop where
 hds:FH w x.ra (x.rs.map (·.1))
 len:∀p∈x.m::x.rs,p.1.2.1=p.2.length/\p.2.length<=ύ
 ems:∀p∈x.m::x.rs,BR w p.1.1 p.2
 few:x.rs.length<=ύ
 mem:ERs w x.m.2 b.mem
 rlen:x.rs.length=b.runs.length
 runs:∀i,i<b.runs.length->ERs w (x.rs.getD i ϰ).2 (b.runs.getD i ϰ)
theorem IM{a:ϡ}{l:List Hdr}(h:FH w a l)(c:ϣ w w'):FH w' a l:=λi d=>by
 obtain⟨b,o,e,x⟩:=h i d;exact⟨b,o,e,cLz c x⟩
theorem Ar{b:Buf}{x:BX}(h:bufAt w b x)(c:ϣ w w'):bufAt w' b x:=
 ⟨IM h.hds c,h.len,λp e=>Cj (h.ems p e) c,h.few,h.mem.below c,h.rlen,λi d=>(h.runs i d).below c⟩
def partsB(b:Buf):List (List Ent):=b.mem::b.runs
def Ab(b:Buf):List Ent:=(partsB b).flatten
theorem TX{w:Ϡ}:∀{p:List Part} {l:List (List Ent)},p.length=l.length->(∀i,i<l.length->ERs w (p.getD i ϰ).2 (l.getD i ϰ))->ERs w (ems p) l.flatten
 |[],[],_,_=>Aeh w
 |[],_::_,h,_=>by cases h
 |_::_,[],h,_=>by cases h
 |p::ps,x::xs,h,k=>by
  have c:=k 0 Ϧ;have d:=TX (p:=ps) (l:=xs) (by simpa using h) (λi e=>by have:=k (i+1) (by simpa using e);simpa using this);exact Aei (by simpa using c) d
theorem E7{b:Buf}{x:BX}(h:bufAt w b x):ERs w (ems (x.m::x.rs)) (Ab b):=
 TX (by simp[partsB,h.rlen]) (λi c=>by
  cases i with
  |zero=>exact h.mem
  |succ i=>
   have d:i<b.runs.length:=by simpa[partsB]using c
   simpa[partsB]using h.runs i d)
theorem Af1{b:Buf}{x:BX}(h:bufAt w b x)(h0:Δ w B 0 (.int .i64 b.lim))(h1:Δ w B 1 (hdV x.m.1))(c:Δ w B 2 (.slice x.ra x.rs.length x.rc)):boxAt w B b.lim x.ra x.rc x.m x.rs:=
 ⟨h0,h1,c,h.hds,h.len,h.ems,h.few⟩
theorem D4{W':Ϡ}{c:Option Nat}(h:Below n w W)(g:n<=w.heap.size)(d:n<=B)(f:W.grownBy W' c)(j:∀r,c=some r->B<=r/\∃x:Obj,W.heap[r]? =some x/\x.isCells=false):Below n w W':=
 h.grown f (Nat.le_trans g h.size) (λr e=>Nat.le_trans d (j r e).1)
theorem CY{D:Nat}{o:Obj}(h:Below n w W)(f:n<=D)(d:W.heap[D]? =some o)(c:Obj):Below n w (W.putObj D c):=
 h.trans ⟨rfl,rfl,rfl,Ϧ,λk e=>World.putObj_heap_other Ϥ⟩
def VJ(B:Nat):Nat->Obj->Prop:=λb _=>b≠B
theorem Qq{b:Nat}(h:b≠B):names (VJ B) W b:=λ_ _=>h
theorem Aej(W:Ϡ)(o:Nat)(v:Value):A0 (VJ B) W (ό W B o v):=λb x c _ d=>(heap_setCell_other W ⟨B,o,none⟩ b v d).trans c
theorem JU{V:Ϡ}{b:Buf}{x:BX}(h:bufAt w b x)(k:ϣ w V)(c:Nat)(Pr:Nat->Obj->Prop)(h1:Δ V c 1 (hdV x.m.1))(f:Δ V c 2 (.slice x.ra x.rs.length x.rc))(g:names Pr V c)(j:∀a,0<x.rs.length->x.ra=some a->names Pr V a.block):
 Abu Tryz.prog 268 #[ω c] ((x.m::x.rs).map λp=>#[hdV p.1]) (A0 Pr) V:=by
 have d:(x.rs.map (·.1)).length=x.rs.length:=lMp ..;have:=Ox c 0 x.m.1 x.ra x.rc (x.rs.map (·.1)) Pr V (by rw[d];exact h.few) h1 (by rw[d];exact f) (IM h.hds k) g (λa e ha=>j a (by rw[d]at e;exact e) ha);rw[show((x.m::x.rs).map λp=>#[hdV p.1])=((x.m.1::x.rs.map (·.1)).map λh=>#[hdV h]) by simp];exact this
theorem AeD{b:Buf}{x:BX}(h:bufAt w b x){a:Addr}(h0:0<x.rs.length)(ha:x.ra=some a):a.block<w.heap.size:=by
 obtain⟨c,o,e,y⟩:=h.hds 0 (by simpa using h0);rw[ha]at e;cases e;exact bLt _ _ y
theorem Aek(p:List Part)(i:Nat):Gt p i<=(ems p).length:=by
 have h:ems p=ems (p.take i)++ems (p.drop i):=by rw[<-Rz,take_append_drop]
 unfold Gt;rw[h,lAp];omega
theorem O3(b:Buf)(x:BX)(w:Ϡ)(h:bufAt w b x)(d:(Ab b).length<=4611686018427387904):
 χ 232 #[B5 b x] w (ψ w (.int .i64 (Ab b).length)):=by
 have U:=hV0 h;obtain⟨N,Z⟩:=nM ((Ab b).length);have C:Ϣ (Gt (x.m::x.rs) (x.m::x.rs).length=N):=by show _=_;rw[Oy,(E7 h).1,Z]
 rw[Z]at d⊢;clear Z h;obtain⟨I,J,⟨⟨t,y,A⟩,ml⟩,rs⟩:=x;obtain⟨T,ao,ap⟩:=b;unfold B5 hdV;dsimp only at C⊢;obtain⟨n,hn⟩:∃n,rs.length=n:=⟨_,rfl⟩;have HN:=hV0 hn;rw[hn];clear hn;refine(callsIn_wide (n:=0)).1 ?_;refine callsIn_of_wp_marks func232 rfl trivial ?_ rfl;simp only[ntmps232,size_toArray,length_cons,length_nil,Nat.reduceAdd,Nat.reduceSub,Array.replicate_succ,Array.replicate_zero,push_toArray,append_toArray,nil_append,cons_append]
 gi_wp2_with (refine⟨trivial,rfl,?_⟩;gi_at_call 233;refine(callsIn_wide.2 (Jo _ _ _ rfl rfl rfl _)).mono ?_;rintro e w' ⟨rfl,rfl⟩)
 generalize f:((((w.alloc (.cells (τ T t y A I n J) 36)).alloc (.cells #[.int .i64 0] 3)).alloc (.cells (τ T t y A I n J) 36)))=V at *;have V0:Δ V (w+1) 0 (.int .i64 0):=by subst f;go_simp
 have V1:Ξ V (w+1) 0:=by subst f;go_simp
 have V2:Δ V (w+1+1) 1 (.slice t y A):=by subst f;go_simp
 have V3:Δ V (w+1+1) 2 (.slice I n J):=by subst f;go_simp
 have V4:ϣ w V:=by
  subst f
  repeat (first|exact bR|(refine Below.alloc ?_ ϫ _))
 have V5:V.heap.size=w.heap.size+1+1+1:=by subst f;simp
 clear f;have ab:=JU U.o V4 (w.heap.size+1+1) (VJ (w.heap.size+1)) V2 (by rw[HN.o];exact V3) (Qq Ϥ) (λa h0 ha=>Qq (by have:=AeD U.o h0 ha;omega));obtain⟨P,hP⟩:∃z:List Part,(((t,y,A),ml)::rs)=z:=⟨_,rfl⟩;dsimp only at ab;rw[hP]at ab C;have ag:Ϣ (∀p∈P,p.1.2.1=p.2.length/\p.2.length<=ύ):=λp hp=>U.o.len p (by rw[<-hP]at hp;exact hp);clear hP;refine DD (gf:=268) (lb:=#[.pointer (some ⟨w+1+1,0,none⟩)]) rfl (enters_of func268 ϧ rfl) ab bR (λx g=>by obtain⟨p,_,rfl⟩:=mem_map.1 g;rfl) (λh k=>A0.trans h k) (λW l o o' _ h ho=>A0.put W l o o' h ho)
  (λi X=>Δ X (w+1) 0 (.int .i64 (Gt P i))/\Ξ X (w+1) 0/\ϣ w X) (λc X=>False)
  (λi X X' af d G H=>⟨cell_kept d.1 G (λr e=>(H r e).2),(frozen_kept d.1 G (λr e=>(H r e).2)).trans d.2.1,D4 d.2.2 nR Ϥ G H⟩)
  (λc X X' af d G H=>d)
  ⟨V0,V1,V4⟩
  (λi Y X=>Y={tmps:=#[.agg #[.int .i64 T,.slice t y A,.slice I n J],.pointer (some ⟨w,0,none⟩),.int .i64 0,.pointer (some ⟨w+1,0,none⟩),hdV (P.getD i ϰ).1,.agg #[.int .i64 T,.slice t y A,.slice I n J],.func (.func 268) #[] #[.pointer (some ⟨w+1+1,0,none⟩)],hdV (P.getD i ϰ).1,undef,undef,undef,undef,undef],defers:=[]})
  (λi Y u X X' af d G H=>d) ?assign ?body ?done ?stop
 case assign=>
  intro l' k x X K g m j;obtain⟨hk,L⟩:=List.getElem?_eq_some_iff.1 g;rw[lMp]at hk;rw[getElem_map]at L;subst L;have F:P.getD k ϰ=P[k]:=by rw[gDe,gEe hk];rfl
  have E:=λW' h1 h2 h3=>j _ W' h1 h2 h3 rfl;rw[F]at E;clear j F g;obtain⟨⟨⟨z1,z2,z3⟩,zl⟩,hz⟩:∃z,P[k]=z:=⟨_,rfl⟩;rw[hz]at E⊢;unfold hdV at E⊢;dsimp only at E⊢
  gi_wp2
  exact E X (KeepsFrom.refl _ _) (A0.refl _ _) m
 case body=>
  intro l' i x Y X g al am ah ae;obtain⟨R,i2,i3⟩:=ah;obtain⟨m,L⟩:=List.getElem?_eq_some_iff.1 g;rw[lMp]at m;have F:P.getD i ϰ=P[i]:=by rw[gDe,gEe m];rfl
  rw[F]at ae;subst ae;have ac:=ag.o P[i] (getElem_mem m);have s:Gt P (i+1)=Gt P i+(P[i]).2.length:=Qo m;have ai:Gt P (i+1)<=N:=by have:=Aek P (i+1);rw[Oy]at C;have h2:=C.o;omega
  clear g L F;obtain⟨⟨⟨z1,z2,z3⟩,zl⟩,hz⟩:∃z,P[i]=z:=⟨_,rfl⟩;rw[hz]at ac s⊢;dsimp only at ac s⊢;obtain⟨aj,ak⟩:=ac;subst aj;obtain⟨q,hq⟩:∃q,zl.length=q:=⟨_,rfl⟩;rw[hq]at s ak;unfold hdV;dsimp only;rw[hq];obtain⟨O,hO⟩:∃O,Gt P i=O:=⟨_,rfl⟩;obtain⟨O2,aa⟩:∃O,Gt P (i+1)=O:=⟨_,rfl⟩;rw[hO]at R s;rw[aa]at s ai;have ad:Ϣ (Gt P (i+1)=O2/\O2=O+q):=⟨aa,s⟩;clear hO aa hq;have an:IntKind.i64.wrap ((O:Int)+(q:Int))=(O:Int)+(q:Int):=by rw[IntKind.wrap_i64];omega
  gi_wp2
  refine⟨(KeepsOthers.setCell _ _ _).from _,Aej _ _ _,?_,by simpa using i2,i3.setCell Ϧ _⟩;rw[ad.o.1,ad.o.2];have:=World.cell?_setCell_same X ⟨w+1,0,none⟩ (.int .i64 ((O:Int)+(q:Int))) R;rw[Int.natCast_add];exact this
 case done=>
  rintro D X hD ⟨R,i2,i3⟩ j;rw[lMp,C.o]at R
  gi_wp2
  refine⟨Ϧ,.inl ⟨_,_,rfl,run_takeDeferred j,?_⟩⟩;exact⟨_,results_tmp rfl _ _ _,rfl,CY i3 Ϥ j _⟩
 case stop=>
  rintro D c X hD h j;exact h.elim
end bf
def Ω(B:bf.Buf)(X:bf.BX):Mmz (#[.int .i64 B.lim,.slice X.m.1.1 X.m.1.2.1 X.m.1.2.2,.slice X.ra X.rs.length X.rc]:Array Value):=⟨⟩
namespace bf
open vl
variable {P : Program} {md : Region.Mode} {ops : Array Oper} {Q : Exit -> Act -> World -> Prop} {S : World -> Prop} {fuel i n : Nat} {listed : Array Bool} {a : Act} {w : Ϡ} {oi : Oper}
theorem Ae2(i:Nat)(d:Option Tmp)(k:ops[i]? =some oi)
 (m:Region.noSelect ops=true) (j:Region.free md ops listed i=true) (l:(Region.ready md ops listed).contains i=true) (e:∀c a w,Q (.panic c) (a.put oi.dst undef) w->Q (.panic c) a w) (g:oi.dst=d)
 (q:Region.wanted oi (yielded ops a.tmps)=false) (f:S w) (h:wpAnyH P md ops Q S fuel (listed.setIfInBounds i true) (a.put d undef) w):wpAnyH P md ops Q S (fuel+1) listed a w:=
 wpAnyH_take k m j l e (Or.inr ⟨q,rfl⟩) f (by rw[g];exact h)
theorem Ae3{v:Value}(i:Nat)(d:Option Tmp)(k:ops[i]? =some oi)
 (m:Region.noSelect ops=true) (j:Region.free md ops listed i=true) (l:(Region.ready md ops listed).contains i=true) (e:∀c a w,Q (.panic c) (a.put oi.dst v) w->Q (.panic c) a w) (g:oi.dst=d)
 (q:Region.wanted oi (yielded ops a.tmps)=true) (hy:∀w,S w->(execOp a.eval oi).run P w= .ok (.value v) w) (f:S w) (h:wpAnyH P md ops Q S fuel (listed.setIfInBounds i true) (a.put d v) w):wpAnyH P md ops Q S (fuel+1) listed a w:=
 wpAnyH_take k m j l e (Or.inl ⟨q,hy⟩) f (by rw[g];exact h)
def allB(n:Nat)(P:Nat->Bool):Bool:=(List.range n).all P
theorem AF{P:Nat->Bool}:allB n P=true↔ ∀i,i<n->P i=true:=by simp[allB]
theorem CP{P:Nat->Bool}(d:i<n)(h:P i=false):allB n P=false:=by
 rcases Bool.eq_false_or_eq_true (allB n P)with c|c
 ·have:=AF.1 c i d;rw[h]at this;cases this
 ·exact c
theorem R6(d:FuncId)(Y:∀C w,(callFunc d C).run Tryz.prog w= .ok (.enter d C) w)(j:Array Value)(P:Nat->Bool)(a:ϡ)(cap:Nat)(l:List EM)(w:Ϡ)(X:l.length<=ύ)(ha:BR w a l)
 (H:∀i c,i<l.length->ϣ w c->Calls Tryz.prog d (#[.int .i64 (i:Nat),(l.getD i ϰ).val]++j) c (ψ c (.bool (P i)))):
 χ 269 #[.slice a l.length cap,.func (.func d) #[] j] w (ψ w (.bool (allB l.length P))):=by
 have U:Ϣ (∀i c,i<l.length->ϣ w c->CT d (#[.int .i64 (i:Nat),(l.getD i ϰ).val]++j) c (ψ c (.bool (P i)))):=H;clear H;obtain⟨n,u⟩:∃n,l.length=n:=⟨_,rfl⟩;have A:=hV0 u;rw[u]at X⊢;clear u;go_enter func269,ntmps269;go_wp2
 go_loopw [9] (λi wr=> ∃k:Nat,k<=n/\i= .int .i64 k/\ϣ w wr/\∀i,i<k->P i=true) (λi _=>n - (intOf i).toNat)
 case atStart=>exact⟨0,Nat.zero_le _,rfl,bR,λi m=>absurd m (Nat.not_lt_zero i)⟩
 case round=>
  obtain⟨k,hk,rfl,g,D⟩:=hrel;have y:=hV0 D;clear D;by_cases t:k<n
  ·obtain⟨b,o,e,L,N,O,R,T⟩:=ha k (by rw[A.o];exact t);subst e;obtain⟨G,I,J,x,K⟩:=lk5 g L N O R T;clear L N O R T ha;have i1:=nn0 k;have i2:(k:Int)<(n:Int):=Ϥ;have f:Ϣ (∀c,ϣ wr c->CT d (#[.int .i64 (k:Nat),(l.getD k ϰ).val]++j) c (ψ c (.bool (P k)))):=λc V=>U.o k c (by rw[A.o];exact t) (bT g V);obtain⟨⟨Z,et,es,⟨r1,r2,r3⟩,em⟩,F⟩:∃z,l.getD k ϰ=z:=⟨_,rfl⟩;rw[F]at G I J x K f;unfold EM.val hdV at f;unfold hdV at x;dsimp only at G I J x K f;clear F;have E:=g.size
   cases hp:P k with
   |true=>
    rw[hp]at f;go_wp2_with (go_at_fn d;refine(f.o _ ϯ).mono ?_;rintro e c ⟨rfl,r⟩;have s:=(g.alloc E _).trans (r.mono ϩ));go_roundw;exact⟨k+1,Ϥ,by go_num,s,λi m=>by
     rcases Nat.lt_succ_iff_lt_or_eq.1 m with h|h
     ·exact y.o i h
     ·rw[h];exact hp⟩
    simp[intOf];omega
   |false=>
    have q:Ϣ (allB n P=false):=CP t hp;rw[hp]at f;go_wp2_with (go_at_fn d;refine(f.o _ ϯ).mono ?_;rintro e c ⟨rfl,r⟩;have s:=(g.alloc E _).trans (r.mono ϩ));go_ret;exact⟨Aa q.o.symm,s⟩
  ·have q:Ϣ (allB n P=true):=AF.2 (λi m=>y.o i Ϥ);go_wp2;go_ret;exact⟨Aa q.o.symm,g⟩
theorem R7(d:FuncId)(J:∀A w,(callFunc d A).run Tryz.prog w= .ok (.enter d A) w)(j:Array Value)(P:Nat->Bool)(a:ϡ)(cap:Nat)(l:List Hdr)(w:Ϡ)(I:l.length<=ύ)(ha:FH w a l)
 (H:∀i c,i<l.length->ϣ w c->Calls Tryz.prog d (#[.int .i64 (i:Nat),hdV (l.getD i (none,0,0))]++j) c (ψ c (.bool (P i)))):
 χ 273 #[.slice a l.length cap,.func (.func d) #[] j] w (ψ w (.bool (allB l.length P))):=by
 have G:Ϣ (∀i c,i<l.length->ϣ w c->CT d (#[.int .i64 (i:Nat),hdV (l.getD i (none,0,0))]++j) c (ψ c (.bool (P i)))):=H;clear H;obtain⟨n,t⟩:∃n,l.length=n:=⟨_,rfl⟩;have y:=hV0 t;rw[t]at I⊢;clear t;go_enter func273,ntmps273;go_wp2
 go_loopw [9] (λi wr=> ∃k:Nat,k<=n/\i= .int .i64 k/\ϣ w wr/\∀i,i<k->P i=true) (λi _=>n - (intOf i).toNat)
 case atStart=>exact⟨0,Nat.zero_le _,rfl,bR,λi m=>absurd m (Nat.not_lt_zero i)⟩
 case round=>
  obtain⟨k,K,rfl,g,C⟩:=hrel;have x:=hV0 C;clear C;by_cases s:k<n
  ·obtain⟨b,o,e,F⟩:=ha k (by rw[y.o];exact s);subst e;have u:=cLz g F;clear F ha;have L:=nn0 k;have N:(k:Int)<(n:Int):=Ϥ;have f:Ϣ (CT d (#[.int .i64 (k:Nat),hdV (l.getD k (none,0,0))]++j) wr (ψ wr (.bool (P k)))):=G.o k wr (by rw[y.o];exact s) g;obtain⟨⟨O,R,T⟩,E⟩:∃z,l.getD k (none,0,0)=z:=⟨_,rfl⟩;rw[E]at u f;unfold hdV at u f;dsimp only at u f;clear E;have D:=g.size
   cases hp:P k with
   |true=>
    rw[hp]at f;go_wp2_with (go_at_fn d;refine f.o.mono ?_;rintro e c ⟨rfl,r⟩);go_roundw;exact⟨k+1,Ϥ,by go_num,g.trans (r.mono D),λi m=>by
     rcases Nat.lt_succ_iff_lt_or_eq.1 m with h|h
     ·exact x.o i h
     ·rw[h];exact hp⟩
    simp[intOf];omega
   |false=>
    have q:Ϣ (allB n P=false):=CP s hp;rw[hp]at f;go_wp2_with (go_at_fn d;refine f.o.mono ?_;rintro e c ⟨rfl,r⟩);go_ret;exact⟨Aa q.o.symm,g.trans (r.mono D)⟩
  ·have q:Ϣ (allB n P=true):=AF.2 (λi m=>x.o i Ϥ);go_wp2;go_ret;exact⟨Aa q.o.symm,g⟩
theorem VK(i:Int)(h:Hdr)(w:Ϡ):χ 274 #[.int .i64 i,hdV h] w (ψ w (.bool (decide (0<h.2.1)))):=by
 obtain⟨f,d,g⟩:=h;unfold hdV;dsimp only;by_cases e:0<d
 ·have c:Ϣ (decide (0<d)=true):=decide_eq_true e;go_enter func274,ntmps274;go_wp2;go_ret;exact⟨Aa (by rw[c.o]),bR⟩
 ·have c:Ϣ (decide (0<d)=false):=decide_eq_false e;go_enter func274,ntmps274;go_wp2;go_ret;exact⟨Aa (by rw[c.o]),bR⟩
noncomputable def Gl(l:List Ent)(i:Nat):Bool:=Dv (l.getD i ϰ)&&(decide (i=0)||decide (ltP (l.getD (i - 1) ϰ) (l.getD i ϰ)))
theorem Zg{l:List Ent}(h:Dv (l.getD i ϰ)=false):Gl l i=false:=by unfold Gl;rw[h];rfl
theorem VN{l:List Ent}(h:Dv (l.getD 0 ϰ)=true):Gl l 0=true:=by unfold Gl;rw[h];rfl
theorem VP{l:List Ent}(h:Dv (l.getD i ϰ)=true)(c:i≠0):Gl l i=decide (ltP (l.getD (i - 1) ϰ) (l.getD i ϰ)):=by
 unfold Gl;rw[h,decide_eq_false c];rfl
theorem Zh(a:ϡ)(cap:Nat)(es:List EM)(l:List Ent)(i:Nat)(L:Nat)(w:Ϡ)(hi:i<l.length)(hl:l.length<=ύ)(hP:Δ w L 0 (.slice a l.length cap))(ha:BR w a es)(hr:ERs w es l)(ah:∀x∈l,wfE x):
 χ 270 #[.int .i64 i,(es.getD i ϰ).val,ω L] w (ψ w (.bool (Gl l i))):=by
 have ag:l.getD i ϰ∈l:=by simp[gDe,hi]
 have f:Ϣ (∀A,ϣ w A->CT 271 #[(es.getD i ϰ).val] A (ψ A (.bool (Dv (l.getD i ϰ))))):=λA hb=>IL _ _ A ((hr.2 i hi).below hb) (ah _ ag);have lP:L<w.heap.size:=bLt _ _ hP;obtain⟨n,hn⟩:=nM l.length;rw[hn]at hP hl hi;have Y:=hV0 hn;have J:Ϣ (BR w a es/\ERs w es l):=⟨ha,hr⟩;obtain⟨e,he⟩:=nM (es.getD i ϰ);have aj:=hV0 he;rw[he]at f⊢;clear hn ha hr ah ag he;obtain⟨R,hR⟩:=nM (Gl l i);have Z:=hV0 hR;rw[hR];clear hR
 cases hf:Dv (l.getD i ϰ)with
 |false=>
  have X:Ϣ (false=R):=by show _=_;rw[<-Z.o,Zg hf]
  rw[hf]at f;obtain⟨s,y,u,⟨m,q,r⟩,t⟩:=e;unfold EM.val hdV at f⊢;dsimp only at f⊢;have k:ϣ w (ϊ w (φ s y u m q r t) 166):=ϯ;go_enter func270,ntmps270;go_wp2;refine wp_region_held_drew (S:=(λw'=>ϖ w' w (.string s) (.int .i64 y) (.int .i64 u) (.slice m q r) (.bool t))) ϧ ⟨Ϩ,Ϩ,Ϩ,Ϩ,Ϩ⟩ (λc=>?_);refine tkz 0 6 c ?_;refine rD 1 λK F=>?_;go_simp;refine(f.o _ k.drew).mono ?_;rintro e w2 ⟨rfl,d⟩;go_wp2_with fail;refine F.out _ _ ⟨cLz d c.1,cLz d c.2.1,cLz d c.2.2.1,cLz d c.2.2.2.1,cLz d c.2.2.2.2⟩ (λc=>?_);clear F K
  try simp only[Act.put,sI,sZ,sSz]
  refine tkz 2 8 c ?_;refine sk 3 9 c ?_;refine sk 4 10 c ?_;refine sk 5 11 c ?_;refine sk 6 12 c ?_;refine sk 7 13 c ?_;refine sk 8 14 c ?_;refine sk 9 15 c ?_;refine sk 10 16 c ?_;refine sk 11 17 c ?_;refine sk 12 18 c ?_;refine sk 13 19 c ?_;refine sk 14 20 c ?_;refine tkz 15 21 c ?_;refine tkz 16 5 c ?_;refine wpAnyH_done ϧ ?_ _;go_wp2;go_ret;exact⟨Aa X.o,k.drew.trans (d.mono k.drew.size)⟩
 |true=>
  rw[hf]at f;by_cases h0:i=0
  ·subst h0;have X:Ϣ (true=R):=by show _=_;rw[<-Z.o,VN hf]
   obtain⟨s,y,u,⟨m,q,r⟩,t⟩:=e;unfold EM.val hdV at f⊢;dsimp only at f⊢;have k:ϣ w (ϊ w (φ s y u m q r t) 166):=ϯ;go_enter func270,ntmps270;go_wp2;refine wp_region_held_drew (S:=(λw'=>ϖ w' w (.string s) (.int .i64 y) (.int .i64 u) (.slice m q r) (.bool t))) ϧ ⟨Ϩ,Ϩ,Ϩ,Ϩ,Ϩ⟩ (λc=>?_);refine tkz 0 6 c ?_;refine rD 1 λK F=>?_;go_simp;refine(f.o _ k.drew).mono ?_;rintro e w2 ⟨rfl,d⟩;go_wp2_with fail;refine F.out _ _ ⟨cLz d c.1,cLz d c.2.1,cLz d c.2.2.1,cLz d c.2.2.2.1,cLz d c.2.2.2.2⟩ (λc=>?_);clear F K
   try simp only[Act.put,sI,sZ,sSz]
   refine tkz 2 8 c ?_;refine tkz 3 9 c ?_;refine tkz 4 10 c ?_;refine tkz 5 11 c ?_;refine sk 6 12 c ?_;refine sk 7 13 c ?_;refine sk 8 14 c ?_;refine sk 9 15 c ?_;refine sk 10 16 c ?_;refine sk 11 17 c ?_;refine sk 12 18 c ?_;refine sk 13 19 c ?_;refine tkz 14 20 c ?_;refine tkz 15 21 c ?_;refine tkz 16 5 c ?_;refine wpAnyH_done ϧ ?_ _;go_wp2;go_ret;exact⟨Aa X.o,k.drew.trans (d.mono k.drew.size)⟩
  ·obtain⟨b,o,ea,G,O,T,H,U⟩:=J.o.1 (i - 1) (by rw[J.o.2.1,Y.o];omega);have E:Ϣ (∀A,CT 272 #[(es.getD (i - 1) ϰ).val,e.val] A (ψ A (.int .i64 (Fg (l.getD (i - 1) ϰ) (l.getD i ϰ))))):=λA=>by
    have h1:=J.o.2.2 (i - 1) (by rw[Y.o];omega);have h2:=J.o.2.2 i (by rw[Y.o];omega);rw[aj.o]at h2;have:=TW (es.getD (i - 1) ϰ) e A;rwa[Lq h1 h2]at this
   have aa:decide (Fg (l.getD (i - 1) ϰ) (l.getD i ϰ)<0)=R:=by
    rw[<-Z.o,VP hf h0];exact decide_eq_decide.2 Hj
   obtain⟨C,hC⟩:=nM (Fg (l.getD (i - 1) ϰ) (l.getD i ϰ));rw[hC]at E aa;subst ea;obtain⟨⟨k2,t2,s2,⟨a2,b2,c2⟩,m2⟩,hz⟩:∃z,es.getD (i - 1) ϰ=z:=⟨_,rfl⟩;rw[hz]at G O T H U E;obtain⟨j,hj⟩:∃j,i=j+1:=⟨i - 1,Ϥ⟩;subst hj;have af:j+1 - 1=j:=Ϥ;rw[af]at G O T H U;obtain⟨s,y,u,⟨m,q,r⟩,t⟩:=e;unfold EM.val hdV at f E⊢;unfold hdV at H;dsimp only at f E G O T H U⊢;have ai:=hV0 aa;obtain⟨I,N⟩:∃I:Int,((j+1:Nat):Int)=I:=⟨_,rfl⟩;have am:IntKind.i64.wrap (I - 1)=(j:Int):=by rw[<-N,IntKind.wrap_i64];omega
   have an:(I==0)=false:=by rw[<-N];simp;omega
   rw[N];have i1:=nn0 j;have i2:(j:Int)<(n:Int):=Ϥ;have lb:b<w.heap.size:=bLt _ _ G;clear hz hC aa h0 af N;have k:ϣ w (ϊ w (φ s y u m q r t) 166):=ϯ;go_enter func270,ntmps270;go_wp2;generalize D:(w.alloc (.cells (φ s y u m q r t) 166))=V at *;have b0:Δ V w 0 (.string s):=by subst D;go_simp
   have ab:Δ V w 1 (.int .i64 y):=by subst D;go_simp
   have ac:Δ V w 2 (.int .i64 u):=by subst D;go_simp
   have ad:Δ V w 3 (.slice m q r):=by subst D;go_simp
   have ae:Δ V w 4 (.bool t):=by subst D;go_simp
   obtain⟨p0,y1,y2,y3,y4,y5⟩:=lk6 k hP G O T H U;clear D
   go_region_held3 (λw'=>ϛ w' w (.string s) (.int .i64 y) (.int .i64 u) (.slice m q r) (.bool t) (Δ w' L 0 (.slice (some ⟨b,o,none⟩) n cap)/\Ϝ w' b (o+j * 5) (.string k2) (.int .i64 t2) (.int .i64 s2) (.slice a2 b2 c2) (.bool m2)))
    (first|go_keep|exact⟨cLz g b0,cLz g ab,cLz g ac,cLz g ad,cLz g ae,cLz g p0,cLz g y1,cLz g y2,cLz g y3,cLz g y4,cLz g y5⟩|exact⟨cLz h b0,cLz h ab,cLz h ac,cLz h ad,cLz h ae,cLz h p0,cLz h y1,cLz h y2,cLz h y3,cLz h y4,cLz h y5⟩)
    (first
     |(go_at_call 271;refine(f.o V.drew k.drew).mono ?_;rintro e wA ⟨rfl,ak⟩;have g:ϣ V wA:=bR.drew.trans ak)
     |(go_at_call 272;refine(E.o wA).mono ?_;rintro e wF ⟨rfl,al⟩;have h:ϣ V wF:=bT g al))
   all_goals
    go_wp2;go_ret;exact⟨Aa ai.o,bT k h⟩
end bf
namespace bf
variable {W : Ϡ} {M : Nat}
abbrev Plc:=ByteArray×Int×Int
def BW(p:Plc):Value:=.agg #[.string p.1,.int .i64 p.2.1,.int .i64 p.2.2]
theorem bytes_beq(a b:ByteArray):(a.toList==b.toList)=decide (a=b):=by
 by_cases h:a=b
 ·subst h;simp
 ·rw[decide_eq_false h,beq_eq_false_iff_ne];intro e;exact h (ByteArray.ext (Array.ext' (by rwa[Lib.toList_data,Lib.toList_data]at e)))
theorem VQ(a b:Plc)(w:Ϡ):(Op.equal 340 (BW a) (BW b)).run Tryz.prog w= .ok (decide (a=b)) w:=by
 obtain⟨c,k,g⟩:=a;obtain⟨d,l,j⟩:=b;show(Op.equalIn 10000 340 (BW (c,k,g)) (BW (d,l,j))).run Tryz.prog w=_;unfold BW;have h:(binOp .eql 340 (.agg #[.string c,.int .i64 k,.int .i64 g]) (.agg #[.string d,.int .i64 l,.int .i64 j])).run Tryz.prog w= .ok (.bool (decide ((c,k,g)=(d,l,j)))) w:=by
  by_cases f:c.toList=d.toList
  ·have q:c=d:=by have:=bytes_beq c d;rw[f]at this;simpa using this.symm
   subst q;by_cases m:k=l
   ·subst m;by_cases r:g=j
    ·subst r;go_simp
    ·have t:(g==j)=false:=by simpa using r
     go_simp
   ·have s:(k==l)=false:=by simpa using m
    go_simp
  ·have q:c≠d:=λe=>f (by rw[e]);go_simp
 rw[run_eql_struct]at h
 cases hh:(Op.equalIn 10000 340 (.agg #[.string c,.int .i64 k,.int .i64 g]) (.agg #[.string d,.int .i64 l,.int .i64 j])).run Tryz.prog w with
 |ok b w'=>
  rw[hh]at h;simp only[Result.andThen]at h;injection h with f m
  injection f with f
  rw[f,m]
 |_=>rw[hh]at h;simp[Result.andThen]at h
structure wfP(a:Plc):Prop where
 key:a.1.size<=maxLen
 time: -9223372036854775808<=a.2.1/\a.2.1<=9223372036854775807
 seq: -9223372036854775808<=a.2.2/\a.2.2<=9223372036854775807
theorem R8{n:Int}(h: -9223372036854775808<=n/\n<=9223372036854775807):(Lit.int .i64 n).wf=true:=by
 show(decide (IntKind.i64.min<=n)&&decide (n<=IntKind.i64.max))=true;have c:IntKind.i64.min= -9223372036854775808:=ϥ;have d:IntKind.i64.max=9223372036854775807:=ϥ;rw[c,d,decide_eq_true h.1,decide_eq_true h.2];rfl
theorem VR(a b c:Value):Tryz.prog.keyLits 3 340 [a,b,c]=([Tryz.prog.keyLits 2 9 [a],Tryz.prog.keyLits 2 3 [b],Tryz.prog.keyLits 2 3 [c]].mapM id).map List.flatten:=ϧ
theorem AbU(k:ByteArray)(h:k.size<=maxLen):Tryz.prog.keyLits 2 9 [.string k]=some [.string k.data.toList]:=by
 have e:Tryz.prog.keyLits 2 9 [.string k]=if k.size<=maxLen then some [.string k.data.toList]else none:=by
  unfold Program.keyLits;rw[underlying9]
 rw[e,if_pos h]
theorem TY(n:Int)(h:(Lit.int .i64 n).wf=true):Tryz.prog.keyLits 2 3 [.int .i64 n]=some [.int .i64 n]:=by
 have e:Tryz.prog.keyLits 2 3 [.int .i64 n]=if IntKind.i64=IntKind.i64/\(Lit.int .i64 n).wf=true then some [.int .i64 n]else none:=by
  unfold Program.keyLits;rw[underlying3]
 rw[e,if_pos ⟨rfl,h⟩]
theorem Jq(c:Bool)(a:Plc)(w:Ϡ)(h:wfP a):(Instr.checkKey c 10000 340 (BW a)).run Tryz.prog w= .ok () w:=by
 have:=run_checkKey_deep (P:=Tryz.prog) c 9997 3 340 ϧ w 3 (BW a) [.string a.1.data.toList,.int .i64 a.2.1,.int .i64 a.2.2] ϧ (by
  show Tryz.prog.keyLits 3 340 [.string a.1,.int .i64 a.2.1,.int .i64 a.2.2]=_;rw[VR,AbU _ h.key,TY _ (R8 h.time),TY _ (R8 h.seq)];rfl)
 exact this
section
variable {p : Plc} {w : Ϡ}
theorem Me:∀(es:List MapEntry) (i:Nat),(∀e∈es,∃q,e.key=BW q/\q≠p)->(Instr.findAsking 340 (BW p) es i).run Tryz.prog w= .ok none w
 |[],i,_=>by simp[Instr.findAsking]
 |e::es,i,h=>by
  obtain⟨q,f,d⟩:=h e (mem_cons_self ..);have j:=Me es (i+1) (λx g=>h x (mem_cons_of_mem _ g));have c:decide (p=q)=false:=decide_eq_false (λh=>d h.symm);simp only[Instr.findAsking,Sem.run_bind,f,VQ,Result.andThen_ok,c,Bool.false_eq_true,if_false];exact j
theorem Mf{e:MapEntry}(c:e.key=BW p)(B:List MapEntry):∀(A:List MapEntry) (i:Nat),(∀e∈A,∃q,e.key=BW q/\q≠p)->(Instr.findAsking 340 (BW p) (A++e::B) i).run Tryz.prog w= .ok (some (i+A.length,e.val)) w
 |[],i,_=>by
  simp only[nil_append,Instr.findAsking,Sem.run_bind,c,VQ,Result.andThen_ok,decide_true,if_true];simp
 |x::A,i,h=>by
  obtain⟨q,g,f⟩:=h x (mem_cons_self ..);have k:=Mf c B A (i+1) (λx j=>h x (mem_cons_of_mem _ j));have d:decide (p=q)=false:=decide_eq_false (λh=>f h.symm);simp only[cons_append,Instr.findAsking,Sem.run_bind,g,VQ,Result.andThen_ok,d,Bool.false_eq_true,if_false];rw[k,length_cons]
  congr 3
  omega
theorem Lr(es:List MapEntry):(Instr.findKey 340 (BW p) es).run Tryz.prog w=(Instr.findAsking 340 (BW p) es 0).run Tryz.prog w:=by
 unfold Instr.findKey;simp only[Sem.run_bind,run_underlying underlying340,Result.andThen_ok]
 cases es with
 |nil=>simp[Instr.findNow,Instr.findAsking]
 |cons e es=>
  have h:∀c,Instr.findNow (.struct c) (BW p) (e::es) 0=none:=λc=>by
   simp[Instr.findNow,Instr.sameNow]
  rw[h]
variable {M clock : Nat} {es : Array MapEntry}
theorem Ls(h:w.heap[M]? =some (.map es clock)):(getObj M).run Tryz.prog w= .ok (.map es clock) w:=by simp[getObj,Sem.run,h]
theorem R9(c:Obj)(h:w.heap[M]? =some (.map es clock)):(setObj M c).run Tryz.prog w= .ok () (w.putObj M c):=by simp[setObj,Sem.run,h,World.putObj]
theorem AeE(w:Ϡ):(zeroValue 3).run Tryz.prog w= .ok (.int .i64 0) w:=Tryz.zeroValue3 w
theorem Zi(c:w.heap[M]? =some (.map es clock))(f:wfP p)(d:∀e∈es.toList,∃q,e.key=BW q/\q≠p):
 (Instr.lookup 338 (.map (some M)) (BW p) false).run Tryz.prog w= .ok (.int .i64 0) w:=by
 unfold Instr.lookup;simp only[Sem.run_bind,run_underlying underlying338,Result.andThen_ok,Ls c,Sem.run_pure,Jq _ p w f,Lr,Me _ _ d,AeE,Bool.false_eq_true,if_false]
theorem Hk{A B:List MapEntry}{e:MapEntry}(d:w.heap[M]? =some (.map (A++e::B).toArray clock))(g:wfP p)(f:∀e∈A,∃q,e.key=BW q/\q≠p)(c:e.key=BW p):
 (Instr.lookup 338 (.map (some M)) (BW p) false).run Tryz.prog w= .ok e.val w:=by
 unfold Instr.lookup;simp only[Sem.run_bind,run_underlying underlying338,Result.andThen_ok,Ls d,Sem.run_pure,Jq _ p w g,Lr,Mf c B A 0 f,Bool.false_eq_true,if_false]
theorem VU(c:w.heap[M]? =some (.map es clock))(f:wfP p)(d:∀e∈es.toList,∃q,e.key=BW q/\q≠p):
 (Instr.mapEntry 338 (.map (some M)) (BW p)).run Tryz.prog w= .ok (.tuple #[.int .i64 0,.int .i64 clock]) (w.putObj M (.map (es.push ⟨BW p,.int .i64 0,clock⟩) (clock+1))):=by
 unfold Instr.mapEntry;simp only[Sem.run_bind,run_underlying underlying338,Result.andThen_ok,Ls c,Sem.run_pure,Jq _ p w f,Lr,Me _ _ d,AeE,R9 _ c,goInt]
theorem Zj:(Instr.sameBits 10000 (BW p) (BW p))=true:=by
 have c:(p.1==p.1)=true:=by
  obtain⟨⟨⟨x⟩⟩,t⟩:=p;show((⟨x⟩:Array UInt8)==⟨x⟩)=true;simp
 unfold BW;simp[Instr.sameBits,c]
theorem VV{A B:List MapEntry}{e:MapEntry}(d:w.heap[M]? =some (.map (A++e::B).toArray clock))(k:wfP p)(j:∀e∈A,∃q,e.key=BW q/\q≠p)(c:e.key=BW p):
 (Instr.mapEntry 338 (.map (some M)) (BW p)).run Tryz.prog w= .ok (.tuple #[e.val,.int .i64 e.born]) (w.putObj M (.map (A++e::B).toArray clock)):=by
 have f:(A++e::B).toArray[0+A.length]? =some e:=Ϧ;have g:((A++e::B).toArray.modify (0+A.length) λx=>{x with key:=BW p})=(A++e::B).toArray:=by
  refine Array.ext Ϧ (λi l m=>?_);rw[Array.getElem_modify];split
  ·rename_i h;subst h;have:(A++e::B).toArray[0+A.length]=e:=Ϧ;rw[this,<-c]
  ·rfl
 unfold Instr.mapEntry;simp only[Sem.run_bind,run_underlying underlying338,Result.andThen_ok,Ls d,Sem.run_pure,Jq _ p w k,Lr,Mf c B A 0 j,f,Option.map_some,Option.getD_some,c,Instr.keyThatStays,Zj,if_true,g,R9 _ d,goInt]
theorem TZ{i:Nat}{v:Value}{c:Int}(d:w.heap[M]? =some (.map es clock))(f:es.findIdx? (λe=>(e.born:Int)==c)=some i):
 (Instr.entryStore 338 (.map (some M)) (.int .i64 c) v).run Tryz.prog w= .ok () (w.putObj M (.map (es.modify i λe=>{e with val:=v}) clock)):=by
 unfold Instr.entryStore;simp only[Sem.run_bind,Result.andThen_ok,Ls d,Sem.run_pure,asInt,asIntOf,f,R9 _ d]
end
def BJ:Nat->List Plc->List MapEntry
 |_,[]=>[]
 |i,p::ps=>⟨BW p,.int .i64 1,i⟩::BJ (i+1) ps
theorem JW(i:Nat)(ps c:List Plc):BJ i (ps++c)=BJ i ps++BJ (i+ps.length) c:=by
 induction ps generalizing i with
 |nil=>rfl
 |cons p ps ih=>rw[cons_append,BJ,ih,BJ,length_cons,show i+(ps.length+1)=i+1+ps.length by omega];rfl
theorem VW(i:Nat)(ps:List Plc):(BJ i ps).length=ps.length:=by
 induction ps generalizing i with
 |nil=>rfl
 |cons p ps ih=>rw[BJ,length_cons,ih,length_cons]
theorem Gm{i:Nat}{ps:List Plc}{e:MapEntry}(h:e∈BJ i ps):(∃q,q∈ps/\e.key=BW q)/\i<=e.born/\e.born<i+ps.length:=by
 induction ps generalizing i with
 |nil=>cases h
 |cons p ps ih=>
  rw[BJ]at h;rcases mem_cons.1 h with rfl|h
  ·exact⟨⟨p,mem_cons_self ..,rfl⟩,Nat.le_refl _,Ϧ⟩
  ·obtain⟨⟨q,d,c⟩,f,g⟩:=ih h;exact⟨⟨q,mem_cons_of_mem _ d,c⟩,Ϥ,by rw[length_cons];omega⟩
def DT(W:World)(M:Nat)(ps:List Plc):Prop:=W.heap[M]? =some (.map (BJ 0 ps).toArray ps.length)
theorem Hl{ps:List Plc}(h:DT W M ps):M<W.heap.size:=(Array.getElem?_eq_some_iff.1 h).1
theorem find_born{A B:List MapEntry}{e:MapEntry}{n:Nat}(d:∀x∈A,x.born≠n)(f:e.born=n):(A++e::B).toArray.findIdx? (λx=>(x.born:Int)==(n:Int))=some A.length:=by
 rw[findIdx?_toArray,findIdx?_append];have c:A.findIdx? (λx=>(x.born:Int)==(n:Int))=none:=by
  rw[findIdx?_eq_none_iff];intro x g;have:=d x g;rw[beq_eq_false_iff_ne];omega
 rw[c];simp[findIdx?_cons,f]
theorem Qr{A B:List MapEntry}{e:MapEntry}(f:MapEntry->MapEntry):(A++e::B).toArray.modify A.length f=(A++f e::B).toArray:=by
 refine Array.ext Ϧ (λi d g=>?_);rw[Array.getElem_modify];simp only[getElem_toArray];split
 ·rename_i c;subst c;simp
 ·rename_i c;rcases Nat.lt_or_ge i A.length with h|h
  ·rw[getElem_append_left h,getElem_append_left h]
  ·rw[getElem_append_right h,getElem_append_right h];have:i - A.length=(i - A.length - 1)+1:=Ϥ;simp only[getElem_cons];rw[dif_neg Ϥ,dif_neg Ϥ]
theorem Ua{ps:List Plc}{p:Plc}(h:p∈ps):∃A B,ps=A++p::B/\p ∉ A:=by
 induction ps with
 |nil=>cases h
 |cons q ps ih=>
  by_cases e:q=p
  ·subst e;exact⟨[],ps,rfl,Ϧ⟩
  ·obtain⟨A,B,c,d⟩:=ih ((mem_cons.1 h).resolve_left (λk=>e k.symm));exact⟨q::A,B,by rw[c];rfl,λk=>(mem_cons.1 k).elim (λk=>e k.symm) d⟩
theorem Ael{ps:List Plc}{p:Plc}(m:DT W M ps)(t:wfP p)(C:p ∉ ps):∃c d,
 (Instr.lookup 338 (.map (some M)) (BW p) false).run Tryz.prog W= .ok (.int .i64 0) W/\
 (Instr.mapEntry 338 (.map (some M)) (BW p)).run Tryz.prog W= .ok (.tuple #[.int .i64 0,.int .i64 ps.length]) c/\
 (Instr.lookup 338 (.map (some M)) (BW p) false).run Tryz.prog c= .ok (.int .i64 0) c/\
 (Instr.entryStore 338 (.map (some M)) (.int .i64 ps.length) (.int .i64 1)).run Tryz.prog c= .ok () d/\
 DT d M (ps++[p])/\W.grownBy d (some M):=by
 have s:∀e∈BJ 0 ps,∃q,e.key=BW q/\q≠p:=λe A=>by
  obtain⟨⟨q,D,f⟩,_⟩:=Gm A;exact⟨q,f,λh=>C (by rw[<-h];exact D)⟩
 have y:=Zi m t (by simpa using s);have u:=VU m t (by simpa using s);obtain⟨c,j⟩:=nM (W.putObj M (.map ((BJ 0 ps).toArray.push ⟨BW p,.int .i64 0,ps.length⟩) (ps.length+1)));rw[j]at u;have r:c.heap[M]? =some (.map (BJ 0 ps++(⟨BW p,.int .i64 0,ps.length⟩:MapEntry)::[]).toArray (ps.length+1)):=by
  rw[<-j,World.putObj_heap_same (Hl m)];simp
 have z:=Hk r t s rfl;have g:=TZ (v:=.int .i64 1) r (find_born (n:=ps.length) (λx E=>by have:=(Gm E).2.2;omega) rfl);rw[Qr]at g;obtain⟨d,l⟩:=nM (c.putObj M (.map (BJ 0 ps++{(⟨BW p,.int .i64 0,ps.length⟩:MapEntry)with val:=.int .i64 1}::[]).toArray (ps.length+1)));rw[l]at g;refine⟨c,d,y,u,z,g,?_,?_⟩
 ·show d.heap[M]? =_;rw[<-l,World.putObj_heap_same (Array.getElem?_eq_some_iff.1 r).1,JW,lAp];simp[BJ]
 ·rw[<-l,<-j];exact⟨rfl,rfl,rfl,Ϧ,λk _ f=>(World.putObj_heap_other (λe=>f (by rw[e]))).trans (World.putObj_heap_other (λe=>f (by rw[e])))⟩
theorem Aem{ps:List Plc}{p:Plc}(y:DT W M ps)(l:wfP p)(I:p∈ps):∃(b:Nat) (c d:Ϡ),
 (Instr.lookup 338 (.map (some M)) (BW p) false).run Tryz.prog W= .ok (.int .i64 1) W/\
 (Instr.mapEntry 338 (.map (some M)) (BW p)).run Tryz.prog W= .ok (.tuple #[.int .i64 1,.int .i64 b]) c/\
 (Instr.lookup 338 (.map (some M)) (BW p) false).run Tryz.prog c= .ok (.int .i64 1) c/\
 (Instr.entryStore 338 (.map (some M)) (.int .i64 b) (.int .i64 2)).run Tryz.prog c= .ok () d/\
 (∀f:World,f.heap[M]? =d.heap[M]? ->(Instr.lookup 338 (.map (some M)) (BW p) false).run Tryz.prog f= .ok (.int .i64 2) f)/\W.grownBy d (some M):=by
 obtain⟨A,B,rfl,F⟩:∃A B,ps=A++p::B/\p ∉ A:=Ua I;have z:W.heap[M]? =some (.map (BJ 0 A++(⟨BW p,.int .i64 1,A.length⟩:MapEntry)::BJ (A.length+1) B).toArray (A++p::B).length):=by
  have:=y;unfold DT at this;rw[JW,Nat.zero_add,BJ]at this;exact this
 have j:∀e∈BJ 0 A,∃q,e.key=BW q/\q≠p:=λe G=>by
  obtain⟨⟨q,J,g⟩,_⟩:=Gm G;exact⟨q,g,λh=>F (by rw[<-h];exact J)⟩
 have C:=Hk z l j rfl;have u:=VV z l j rfl;obtain⟨c,r⟩:=nM (W.putObj M (.map (BJ 0 A++(⟨BW p,.int .i64 1,A.length⟩:MapEntry)::BJ (A.length+1) B).toArray (A++p::B).length));rw[r]at u;have t:c.heap[M]? =some (.map (BJ 0 A++(⟨BW p,.int .i64 1,A.length⟩:MapEntry)::BJ (A.length+1) B).toArray (A++p::B).length):=by
  rw[<-r,World.putObj_heap_same (Hl y)]
 have D:=Hk t l j rfl;have L:(BJ 0 A).length=A.length:=VW 0 A;have m:=TZ (v:=.int .i64 2) t (find_born (n:=A.length) (λx K=>by have:=(Gm K).2.2;omega) rfl);rw[Qr]at m;obtain⟨d,s⟩:=nM (c.putObj M (.map (BJ 0 A++{(⟨BW p,.int .i64 1,A.length⟩:MapEntry)with val:=.int .i64 2}::BJ (A.length+1) B).toArray (A++p::B).length));rw[s]at m;refine⟨A.length,c,d,C,u,D,m,λf E=>?_,?_⟩
 ·have H:f.heap[M]? =some (.map (BJ 0 A++{(⟨BW p,.int .i64 1,A.length⟩:MapEntry)with val:=.int .i64 2}::BJ (A.length+1) B).toArray (A++p::B).length):=by
   rw[E,<-s,World.putObj_heap_same (Array.getElem?_eq_some_iff.1 t).1]
  exact Hk H l j rfl
 ·rw[<-s,<-r];exact⟨rfl,rfl,rfl,Ϧ,λk _ g=>(World.putObj_heap_other (λe=>g (by rw[e]))).trans (World.putObj_heap_other (λe=>g (by rw[e])))⟩
theorem AbV{ps:List Plc}{p:Plc}(c:DT W M (ps++[p]))(k:wfP p)(g:p ∉ ps):(Instr.lookup 338 (.map (some M)) (BW p) false).run Tryz.prog W= .ok (.int .i64 1) W:=by
 have j:∀e∈BJ 0 ps,∃q,e.key=BW q/\q≠p:=λe d=>by
  obtain⟨⟨q,l,f⟩,_⟩:=Gm d;exact⟨q,f,λh=>g (by rw[<-h];exact l)⟩
 unfold DT at c;rw[JW]at c;exact Hk c k j rfl
end bf
end Go.Proofs.YtfkihidbnfkbaaaGreatDoor
