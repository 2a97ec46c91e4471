import Derived.Test.YtfkihidbnfkbaaaGreatDoorPv17
set_option linter.all false
set_option maxHeartbeats 32000000
set_option maxRecDepth 100000
open Go.ChangeShapes Go.WideShapes Go.ChangeAt Go.RowKit Go.Maps Go.WideMaps List
open Inhabited renaming default->ϰ
namespace Go.Proofs.YtfkihidbnfkbaaaGreatDoor
open Go.Proofs.Tryz
namespace ch
open vl
end ch
namespace bt
open vl
variable {w w' w2 : Ϡ} {base : Nat}
structure Own1 where
 v:Value
 e:TypeId
 s:Nat
 n:Nat
 xs:List Value
def Own1.here(x:Own1)(w:World)(base:Nat):Prop:=w.ownsRow base x.e x.s x.v x.n x.xs
def apart(x y:Own1):Prop:=∀g,x.v.ownBlock=some g->y.v.ownBlock≠some g
theorem Wr{x y:Own1}(h:apart x y):apart y x:=λg a c=>h g c a
structure Est(w:World)(base:Nat)(E:List Own1):Prop where
 low:base<=w.heap.size
 own:∀x∈E,x.here w base
 two:E.Pairwise apart
theorem IX{E a:List Own1}(h:Est w base E)(c:E.Perm a):Est w base a:=
 ⟨h.low,λx d=>h.own x (c.mem_iff.2 d),c.pairwise h.two (λh=>Wr h)⟩
theorem Hn{E:List Own1}(h:Est w base E)(a:ϣ w w'):Est w' base E:=
 ⟨Nat.le_trans h.low a.size,λx c=>ch.own_below (h.own x c) a,h.two⟩
theorem Z3{x x':Own1}{E:List Own1}(h:Est w base (x::E))(k:w.heap.size<=w2.heap.size)(j:∀b,b<w.heap.size->x.v.ownBlock≠some b->w2.heap[b]? =w.heap[b]?)(l:x'.here w2 base)
 (i:∀g,x'.v.ownBlock=some g->x.v.ownBlock=some g\/w.heap.size<=g):Est w2 base (x'::E):=by
 have c:=pairwise_cons.1 h.two;refine⟨Nat.le_trans h.low k,λy hy=>?_,pairwise_cons.2 ⟨λy hy g a=>?_,c.2⟩⟩
 ·rcases mem_cons.1 hy with rfl|hy
  ·exact l
  ·have f:=h.own y (mem_cons_of_mem _ hy);exact ch.A1 f (λg a=>j g (ch.AL f a).2 (λe=>c.1 y hy g e a))
 ·rcases i g a with d|d
  ·exact c.1 y hy g d
  ·intro e;have:=(ch.AL (h.own y (mem_cons_of_mem _ hy)) e).2;omega
theorem Um{x x':Own1}{E:List Own1}(h:Est w base (x::E))(a:w.grownBy w2 x.v.ownBlock)(i:x'.here w2 base)(c:∀g,x'.v.ownBlock=some g->x.v.ownBlock=some g\/w.heap.size<=g):Est w2 base (x'::E):=
 Z3 h a.size (λb d f=>a.block b d (λe=>f e.symm)) i c
theorem RG{x:Own1}{E:List Own1}(h:Est w base E)(c:ϣ w w')(i:x.here w' base)(f:∀g,x.v.ownBlock=some g->w.heap.size<=g):Est w' base (x::E):=by
 have a:=Hn h c;refine⟨a.low,λy hy=>?_,pairwise_cons.2 ⟨λy hy g d e=>?_,h.two⟩⟩
 ·rcases mem_cons.1 hy with rfl|hy
  ·exact i
  ·exact a.own y hy
 ·have:=(ch.AL (h.own y hy) e).2;have:=f g d;omega
end bt
namespace ch
open vl
theorem Bi(a:ϡ)(cap:Nat)(v:List Cnt)(w:Ϡ)(j:viewAt w a v)(k:Cc v)(h:v.length<=ύ):
 χ 104 #[vS a v.length cap] w (ψ w (vI (Az v))):=by
 have c:=Nr a cap v w j k h;obtain⟨n,f⟩:∃n,v.length=n:=⟨_,rfl⟩;rw[f]at c;rw[f];go_enter func104,ntmps104;go_wp2_with fail;refine c.mono ?_;rintro e l ⟨i,d⟩;rcases i with⟨g,_,B,rfl,_⟩|⟨_,rfl⟩
 ·go_wp2;go_ret;exact⟨by rw[g];rfl,d⟩
 ·go_wp2;go_ret;exact⟨rfl,d⟩
end ch
namespace bt
open vl pl
theorem Lw(d:FuncId)(Q:∀A w,(callFunc d A).run Tryz.prog w= .ok (.enter d A) w)(q:Array Value)(P:Nat->Bool)(a:ϡ)(cap:Nat)(l:List ch.Cnt)(w:Ϡ)(M:l.length<=ύ)(ha:ch.viewAt w a l)
 (H:∀i c g m,i<l.length->ϣ w c->vl.rowAt c g (l.getD i ϰ).r->Calls Tryz.prog d (#[vI (i:Nat),.agg #[vS g (l.getD i ϰ).r.length m,vI (l.getD i ϰ).n]]++q) c (ψ c (.bool (P i)))):
 χ 174 #[vS a l.length cap,.func (.func d) #[] q] w (ψ w (.bool (allB l.length P))):=by
 have L:Ϣ (∀i c g m,i<l.length->ϣ w c->vl.rowAt c g (l.getD i ϰ).r->CT d (#[vI (i:Nat),.agg #[vS g (l.getD i ϰ).r.length m,vI (l.getD i ϰ).n]]++q) c (ψ c (.bool (P i)))):=H;clear H;obtain⟨n,x⟩:∃n,l.length=n:=⟨_,rfl⟩;have z:=hV0 x;rw[x]at M⊢;clear x;go_enter func174,ntmps174;go_wp2
 go_loopw [9] (λi wr=> ∃k:Nat,k<=n/\i=vI k/\ϣ w wr/\∀i,i<k->P i=true) (λi _=>n - (intOf i).toNat)
 case atStart=>exact⟨0,Nat.zero_le _,rfl,bR,λi r=>absurd r (Nat.not_lt_zero i)⟩
 case round=>
  obtain⟨k,R,rfl,f,C⟩:=hrel;have y:=hV0 C;clear C;by_cases v:k<n
  ·obtain⟨b,o,g,m,e,I,K,J⟩:=ha k (by rw[z.o];exact v);subst e;have N:=cLz f I;have O:=cLz f J;have S:=nn0 k;have T:(k:Int)<(n:Int):=Ϥ;have j:Ϣ (∀c,ϣ wr c->CT d (#[vI (k:Nat),.agg #[vS g (l.getD k ϰ).r.length m,vI (l.getD k ϰ).n]]++q) c (ψ c (.bool (P k)))):=λc D=>L.o k c g m (by rw[z.o];exact v) (bT f D) (Ac K (bT f D));clear I J K ha;obtain⟨V,F⟩:=nM ((l.getD k ϰ).n);obtain⟨X,G⟩:=nM ((l.getD k ϰ).r.length);rw[F]at O j;rw[G]at N j;clear F G;have E:=f.size
   cases hp:P k with
   |true=>
    rw[hp]at j;go_wp2_with (go_at_fn d;refine(j.o _ ϯ).mono ?_;rintro e c ⟨rfl,t⟩;have u:=(f.alloc E _).trans (t.mono ϩ));go_roundw;exact⟨k+1,Ϥ,by go_num,u,λi r=>by
     rcases Nat.lt_succ_iff_lt_or_eq.1 r with h|h
     ·exact y.o i h
     ·rw[h];exact hp⟩
    simp[intOf];omega
   |false=>
    have s:Ϣ (allB n P=false):=CP v hp;rw[hp]at j;go_wp2_with (go_at_fn d;refine(j.o _ ϯ).mono ?_;rintro e c ⟨rfl,t⟩;have u:=(f.alloc E _).trans (t.mono ϩ));go_ret;exact⟨Aa s.o.symm,u⟩
  ·have s:Ϣ (allB n P=true):=AF.2 (λi r=>y.o i Ϥ);go_wp2;go_ret;exact⟨Aa s.o.symm,f⟩
theorem Aet(i m:Int)(j f:ϡ)(c k a g d:Nat)(w:Ϡ)(h:Δ w d 0 (vS f a g)):
 χ 175 #[vI i,.agg #[vS j c k,vI m],ω d] w (ψ w (.bool (decide (c=a)))):=by
 have l:d<w.heap.size:=bLt _ _ h;have e:Ϣ (((c:Int)==(a:Int))=decide (c=a)):=by
  show((c:Int)==(a:Int))=_;rw[Bool.eq_iff_iff];simp;omega
 go_enter func175,ntmps175;go_wp2;go_ret;exact⟨Aa e.o,ϯ⟩
theorem Aeu(i m:Int)(j d:ϡ)(v l c:Nat)(r:List Cel)(a:List Int)(w:Ϡ)(o:Δ w c 0 (vS d a.length l))(t:vl.rowAt w j r)(u:r.length<=ύ)(s:Ay w d a)(q:a.length<=ύ):
 χ 176 #[vI i,.agg #[vS j r.length v,vI m],ω c] w (ψ w (.bool (BU r a))):=by
 have z:c<w.heap.size:=bLt _ _ o;have K:=hIz (λ(k:Ϡ) (n:ϣ w k)=>LJ j d v l r a k u q (Ac t n) (Al s n));obtain⟨A,f⟩:=nM r.length;obtain⟨y,g⟩:=nM a.length;obtain⟨C,h⟩:=nM (BU r a);rw[f,g,h]at K;rw[g]at o;rw[f,h];clear f g h t s u q;go_enter func176,ntmps176;go_wp2_with (go_at_call 177;refine(K.o _ ϯ).mono ?_;rintro e k ⟨rfl,x⟩);go_ret;exact⟨rfl,ϯ.trans (x.mono Ϧ)⟩
def OH(cs:List Int)(v:List ch.Cnt):Bool:=allB v.length (λi=>decide ((v.getD i ϰ).r.length=cs.length))
def Z4(cs:List Int)(v:List ch.Cnt):Bool:=allB v.length (λi=>BU (v.getD i ϰ).r cs)
def Eh(cs:List Int)(v:List ch.Cnt):Int:=if OH cs v=false then 2 else if Z4 cs v=false then 5 else 0
theorem JA(a h:ϡ)(l j:Nat)(v:List ch.Cnt)(c:List Int)(w:Ϡ)(A:v.length<=ύ)(D:ch.viewAt w a v)(N:ch.Cc v)(I:Ay w h c)(H:c.length<=ύ):
 χ 106 #[vS a v.length l,vS h c.length j] w (ψ w (vI (Eh c v))):=by
 have t:Ϣ (∀f d,ϣ w d->Δ d f 0 (vS h c.length j)->CT 174 #[vS a v.length l,.func (.func 175) #[] #[ω f]] d (ψ d (.bool (OH c v)))):=λf d r y=>
  Lw 175 (enters_of func175 ϧ rfl) #[ω f] (λi=>decide ((v.getD i ϰ).r.length=c.length)) a l v d A (ch.Br D r) (λi w2 E F J s L=>Aet i _ E h _ F _ j f w2 (cLz s y))
 have u:Ϣ (∀f d,ϣ w d->Δ d f 0 (vS h c.length j)->CT 174 #[vS a v.length l,.func (.func 176) #[] #[ω f]] d (ψ d (.bool (Z4 c v)))):=λf d r y=>
  Lw 176 (enters_of func176 ϧ rfl) #[ω f] (λi=>BU (v.getD i ϰ).r c) a l v d A (ch.Br D r) (λi w2 E F J s L=>Aeu i _ E h F j f _ _ w2 (cLz s y) L (ch.Hw N i J).2.1 (Al (Al I r) s) H)
 have g:Ϣ (Eh c v=if OH c v=false then 2 else if Z4 c v=false then 5 else 0):=rfl;obtain⟨q,m⟩:=nM (Eh c v);obtain⟨R,K⟩:=nM (OH c v);obtain⟨O,M⟩:=nM (Z4 c v);obtain⟨P,z⟩:=nM c.length;obtain⟨T,C⟩:∃n,v.length=n:=⟨_,rfl⟩;rw[m]at g⊢;rw[K]at t g;rw[M]at u g;rw[z,C]at t u;rw[z,C];clear m K M z C A D N I H;go_enter func106,ntmps106;go_wp2_with fail;refine(t.o _ _ ϯ Ϩ).mono ?_;rintro e w4 ⟨rfl,G⟩;have x:=ϯ.trans (G.mono Ϧ);have S:Δ w4 w 0 (vS h P j):=cLz G Ϩ
 cases R with
 |false=>
  have k:Ϣ (q=2):=by rw[g.o];show(if _ then _ else _)=_;simp
  clear g;go_wp2;go_ret;exact⟨Ad k.o.symm,x⟩
 |true=>
  have o:Ϣ (q=if O=false then 5 else 0):=by rw[g.o];show(if _ then _ else _)=_;simp
  clear g;go_wp2_with fail;refine(u.o _ _ x S).mono ?_;rintro e V ⟨rfl,Q⟩;have m:=bT x Q
  cases O with
  |false=>
   have k:Ϣ (q=5):=by rw[o.o];show(if _ then _ else _)=_;simp
   clear o;go_wp2;go_ret;exact⟨Ad k.o.symm,m⟩
  |true=>
   have k:Ϣ (q=0):=by rw[o.o];show(if _ then _ else _)=_;simp
   clear o;go_wp2;go_ret;exact⟨Ad k.o.symm,m⟩
end bt
namespace jn
open vl
variable {U W : Ϡ} {B b : Nat} {p : pl.Pln}
structure Eng where
 j:Jn
 v:List ch.Cnt
structure EX where
 y:JX
 va:Option Addr
 vc:Nat
def enV(e:Eng)(x:EX):Value:=.agg (ζ e.j x.y.l x.y.r [ώ,vS x.va e.v.length x.vc])
structure enAt(w:World)(e:Eng)(x:EX):Prop where
 j:joinAt w e.j x.y
 v:ch.viewAt w x.va e.v
theorem enAt.below{w w':Ϡ}{e:Eng}{x:EX}(h:enAt w e x)(a:ϣ w w'):enAt w' e x:=⟨h.j.below a,ch.Br h.v a⟩
structure wfEn(e:Eng):Prop where
 j:wfJ e.j
 v:ch.Cc e.v
 n:e.v.length<=ύ
noncomputable def DY(p:pl.Pln)(e:Eng):Int:=if Ba p e.j≠0 then Ba p e.j else if ch.Az e.v≠0 then ch.Az e.v else bt.Eh (pl.Ce p) e.v
def Co(U:World)(b:Nat)(e:Eng)(x:EX):Prop:=Δ U b 0 (vI e.j.L.lim)/\Δ U b 1 (vS x.y.l.m.1.1 x.y.l.m.1.2.1 x.y.l.m.1.2.2)/\Δ U b 2 (vS x.y.l.ra x.y.l.rs.length x.y.l.rc)/\Δ U b 3 (vI e.j.R.lim)/\Δ U b 4 (vS x.y.r.m.1.1 x.y.r.m.1.2.1 x.y.r.m.1.2.2)/\Δ U b 5 (vS x.y.r.ra x.y.r.rs.length x.y.r.rc)/\Δ U b 6 (vI e.j.lm)/\Δ U b 7 (vI e.j.rm)/\Δ U b 8 (vI e.j.seq)/\Δ U b 9 (vS none 0 0)/\Δ U b 10 (vS x.va e.v.length x.vc)
theorem DG(w:Ϡ)(e:Eng)(x:EX)(t:TypeId):Co (ϊ w (ζ e.j x.y.l x.y.r [ώ,vS x.va e.v.length x.vc]) t) w.heap.size e x:=by
 unfold Co;refine⟨?_,?_,?_,?_,?_,?_,?_,?_,?_,?_,?_⟩<;>go_simp
theorem Bg{c:Ϡ}{e:Eng}{x:EX}(h:Co U b e x)(a:ϣ U c):Co c b e x:=by
 obtain⟨d,f,i,j,k,l,m,n,o,q,g⟩:=h;exact⟨cLz a d,cLz a f,cLz a i,cLz a j,cLz a k,cLz a l,cLz a m,cLz a n,cLz a o,cLz a q,cLz a g⟩
theorem Un{e:Eng}{x:EX}(h:Co U b e x):b<U.heap.size:=bLt _ _ h.1
def Fh(W:World)(B:Nat):Prop:=W.there B 0 11
theorem Gq(w:Ϡ):Fh (ϊ w #[Ϗ,ώ,ώ,Ϗ,ώ,ώ,Ϗ,Ϗ,Ϗ,ώ,ώ] 42) w.heap.size:=by
 intro j a
 match j,a with
 |0,_=>exact⟨Ϩ,Ϩ⟩
 |1,_=>exact⟨Ϩ,Ϩ⟩
 |2,_=>exact⟨Ϩ,Ϩ⟩
 |3,_=>exact⟨Ϩ,Ϩ⟩
 |4,_=>exact⟨Ϩ,Ϩ⟩
 |5,_=>exact⟨Ϩ,Ϩ⟩
 |6,_=>exact⟨Ϩ,Ϩ⟩
 |7,_=>exact⟨Ϩ,Ϩ⟩
 |8,_=>exact⟨Ϩ,Ϩ⟩
 |9,_=>exact⟨Ϩ,Ϩ⟩
 |10,_=>exact⟨Ϩ,Ϩ⟩
theorem BC{a:Ϡ}(h:Fh W B)(c:ϣ W a):Fh a B:=Ci h c
theorem RH(h:Fh W B):B<W.heap.size:=Tx h ϥ
theorem Ha:(Tryz.prog.info? 42).map (·.size)=some 11:=ϧ
theorem Fa(h:Fh W B){l:List Value}(a:l.length=11):(W.setCells B 0 l).rangeAt B 0 l:=World.rangeAt_setCells_same W B 0 l (by rw[a];exact h)
def e0:Eng:=⟨j0,[]⟩
def ex0:EX:=⟨jx0,none,0⟩
theorem D5(e:Eng)(x:EX):enV e x= .agg (ζ e.j x.y.l x.y.r [ώ,vS x.va e.v.length x.vc]):=rfl
theorem Fb{s:Jn}(h:Ba p s=0):pl.Ag p=0:=by
 unfold Ba at h;split at h
 ·exact h
 ·rename_i k;exact Decidable.not_not.1 k
theorem Uo(h:pl.Ag p=0)(a:p.grouped=false):(pl.Ce p).length<=ύ:=by
 have:=bt.Abe h;unfold pl.Ce pl.A7;rw[a,if_neg ϥ,lAp];omega
theorem OI(p:pl.Pln)(x:pl.PA)(w:Ϡ)(a:p.grouped=false):
 χ 51 #[pl.Aj p x,ώ] w (ψ w (vI 0)):=by
 unfold pl.Aj;rw[a];go_enter func51,ntmps51;go_wp2;go_ret;exact⟨rfl,ϯ⟩
theorem OJ(p:pl.Pln)(x:pl.PA)(a:ϡ)(m:Nat)(v:List ch.Cnt)(w:Ϡ)(L:pl.wfPlan p)(K:pl.planAt w p x)(h0:pl.Ag p=0)(H:p.grouped=false)(z:ch.viewAt w a v)(A:ch.Cc v)(y:v.length<=ύ):
 χ 52 #[pl.Aj p x,vS a v.length m] w (ψ w (vI (if ch.Az v≠0 then ch.Az v else bt.Eh (pl.Ce p) v))):=by
 have l:=hIz (λ(c:Ϡ) (f:ϣ w c)=>ch.Bi a m v c (ch.Br z f) A y);have E:=hIz (λ(c:Ϡ) (f:ϣ w c)=>pl.WX p x c L (pl.Ae K f));have KV:=hIz (λ(c:Ϡ) i D (f:ϣ w c) (P:pl.Ay c i (pl.Ce p))=>bt.JA a i m D v (pl.Ce p) c y (ch.Br z f) A P (Uo h0 H));obtain⟨R,r⟩:=nM (if ch.Az v≠0 then ch.Az v else bt.Eh (pl.Ce p) v);have g:=hV0 r;have M:=hV0 h0;rw[r];clear r L K z A y h0 H;obtain⟨j,o⟩:=nM (ch.Az v);obtain⟨T,q⟩:=nM (bt.Eh (pl.Ce p) v);obtain⟨n,h⟩:=nM v.length;rw[o,h]at l;rw[q,h]at KV;rw[o,q]at g;rw[h];clear o q h;unfold pl.Aj at E⊢;go_enter func52,ntmps52;go_wp2_with fail;generalize s:(World.alloc w _)=V;have t:ϣ w V:=by rw[<-s];exact ϯ
 have k:Ϣ (boxP V w p x):=by
  subst s;exact BQ ..
 clear s;refine(l.o _ t).mono ?_;rintro e c ⟨rfl,u⟩;have d:ϣ w c:=bT t u;replace k:Ϣ (boxP c w p x):=Af k.o u;clear u t l;by_cases C:j=0
 rotate_left
 ·have X:(j !=0)=true:=by simpa using C
  have N:Ϣ (j=R):=by show _=_;rw[<-g.o,if_pos C]
  go_wp2;go_ret;exact⟨Ad N.o,d⟩
 subst C;rw[if_neg ϥ]at g;obtain⟨Y,Z,v2,v3,v4,v5,v6,v7,v8,v9,aa,ab,ac⟩:=k.o;go_wp2_with fail;refine(E.o _ d).mono ?_;rintro e w2 ⟨Q,G⟩;replace d:ϣ w w2:=bT d G;rcases Q with⟨S,_⟩|⟨_,i,D,rfl,I⟩
 ·exact absurd M.o S
 have F:=KV.o w2 i D d I;obtain⟨on,J⟩:=nM ((pl.Ce p).length);rw[J]at F⊢;clear J I G;go_wp2_with fail;refine F.mono ?_;rintro e w3 ⟨rfl,O⟩;go_wp2;go_ret;exact⟨Ad g.o,bT d O⟩
theorem OL(p:pl.Pln)(x:pl.PA)(e:Eng)(y:EX)(w:Ϡ)(u:pl.wfPlan p)(t:pl.planAt w p x)(s:p.grouped=false)(h:enAt w e y)(n:wfEn e):
 χ 27 #[pl.Aj p x,enV e y] w (ψ w (vI (DY p e))):=by
 have g:=hIz (λ(a:Ϡ) (i:ϣ w a)=>Bi p x e.j y.y a u (pl.Ae t i) (h.j.below i) n.j);have z:Ϣ (∀a:World,CT 51 #[pl.Aj p x,ώ] a (ψ a (vI 0))):=λa=>OI p x a s;have KV:Ϣ (Ba p e.j=0->∀a,ϣ w a->CT 52 #[pl.Aj p x,vS y.va e.v.length y.vc] a (ψ a (vI (if ch.Az e.v≠0 then ch.Az e.v else bt.Eh (pl.Ce p) e.v)))):=λS a i=>OJ p x y.va y.vc e.v a u (pl.Ae t i) (Fb S) s (ch.Br h.v i) n.v n.n;obtain⟨R,q⟩:=nM (DY p e);have f:=hV0 q;rw[q];clear q u t h n s;unfold DY at f;obtain⟨o,A⟩:=nM (Ba p e.j);obtain⟨X,C⟩:=nM (if ch.Az e.v≠0 then ch.Az e.v else bt.Eh (pl.Ce p) e.v);rw[A]at g KV f;rw[C]at KV f;clear A C;unfold pl.Aj at g z KV⊢;rw[AY]at g;rw[D5];go_enter func27,ntmps27;go_wp2_with fail;generalize k:(World.alloc (World.alloc w _) _)=V;have r:ϣ w V:=by rw[<-k];exact ϯ.alloc Ϧ _
 have d:Ϣ (boxP V w p x):=by
  subst k;exact Af (BQ ..) ϯ
 have c:Ϣ (Co V (w.heap.size+1) e y):=by
  subst k;have:=DG (ϊ w (Φ p x) 32) e y 42;rw[World.size_alloc]at this;exact this
 clear k;refine(g.o _ r).mono ?_;rintro Y a ⟨rfl,l⟩;have j:ϣ w a:=bT r l;replace d:Ϣ (boxP a w p x):=Af d.o l;replace c:Ϣ (Co a (w.heap.size+1) e y):=Bg c.o l;clear l r g;by_cases v:o=0
 rotate_left
 ·have aa:(o !=0)=true:=by simpa using v
  have Q:Ϣ (o=R):=by show _=_;rw[<-f.o,if_pos v]
  go_wp2;go_ret;exact⟨Ad Q.o,j⟩
 subst v;rw[if_neg ϥ]at f;obtain⟨D,E,I,J,K,L,M,N,O,P,F,G,H⟩:=d.o;obtain⟨u0,u1,u2,u3,u4,u5,u6,u7,u8,u9,u10⟩:=c.o;go_wp2_with fail;refine(z.o _).mono ?_;rintro Z w2 ⟨rfl,m⟩;replace j:ϣ w w2:=bT j m;replace d:Ϣ (boxP w2 w p x):=Af d.o m;replace c:Ϣ (Co w2 (w.heap.size+1) e y):=Bg c.o m;clear D E I J K L M N O P F G H u0 u1 u2 u3 u4 u5 u6 u7 u8 u9 u10 m;obtain⟨D,E,I,J,K,L,M,N,O,P,F,G,H⟩:=d.o;obtain⟨u0,u1,u2,u3,u4,u5,u6,u7,u8,u9,u10⟩:=c.o;go_wp2_with fail;refine(KV.o Ϭ _ j).mono ?_;rintro e3 w3 ⟨rfl,T⟩;go_wp2;go_ret;exact⟨Ad f.o,bT j T⟩
end jn
def μ(e:jn.Eng)(x:jn.EX):Mmz ([.int .i64 e.j.L.lim,.slice x.y.l.m.1.1 x.y.l.m.1.2.1 x.y.l.m.1.2.2,.slice x.y.l.ra x.y.l.rs.length x.y.l.rc,.int .i64 e.j.R.lim,.slice x.y.r.m.1.1 x.y.r.m.1.2.1 x.y.r.m.1.2.2,.slice x.y.r.ra x.y.r.rs.length x.y.r.rc,.int .i64 e.j.lm,.int .i64 e.j.rm,.int .i64 e.j.seq,.slice none 0 0,.slice x.va e.v.length x.vc]:List Value):=⟨⟩
def ξ(e:jn.Eng)(x:jn.EX):Mmz (#[.int .i64 e.j.L.lim,.slice x.y.l.m.1.1 x.y.l.m.1.2.1 x.y.l.m.1.2.2,.slice x.y.l.ra x.y.l.rs.length x.y.l.rc,.int .i64 e.j.R.lim,.slice x.y.r.m.1.1 x.y.r.m.1.2.1 x.y.r.m.1.2.2,.slice x.y.r.ra x.y.r.rs.length x.y.r.rc,.int .i64 e.j.lm,.int .i64 e.j.rm,.int .i64 e.j.seq,.slice none 0 0,.slice x.va e.v.length x.vc]:Array Value):=⟨⟩
namespace bt
open vl pl
def pr(a b:Nat):Nat:=(a+b) * (a+b)+a
end bt
namespace bt
open vl pl
variable {p : Pln}
theorem RI{v:List ch.Cnt}(h:ch.Az v=0):ch.Ez v:=by
 unfold ch.Az at h;split at h
 ·cases h
 ·split at h
  ·rename_i a;exact a
  ·cases h
theorem Jt(h:Ag p=0)(c:p.grouped=true):p.group.length+p.aggs.length<=8/\1<=p.aggs.length/\p.aggs.length<=4:=by
 have a:=(Bv h).2.2.1.2;rw[if_pos c]at a;exact⟨a.2,a.1.1,a.1.2⟩
theorem Up(h:Ag p=0):∀x∈p.group,0<=x/\x<((A7 p).length:Int):=(Bv h).2.2.2.2.2.2.1.1
theorem Xw(h:Ag p=0){a:Int×Int}(ha:a∈p.aggs):0<=a.2/\a.2.toNat<(A7 p).length:=by
 have c:=(Bv h).2.2.2.2.2.2.2 a ha;have d:1<=p.left.length:=(Bv h).2.2.1.1.1.1;have e:(A7 p).length=p.left.length+p.right.length:=by unfold A7;rw[lAp]
 unfold CN at c;split at c
 ·rw[c];exact⟨Int.le_refl _,by show 0<_;omega⟩
 ·exact⟨c.1.1,Ϥ⟩
end bt
namespace gr
open vl pl bt
attribute [local go_sem] Oper.semAt_some
theorem Z5(w:Ϡ)(x:Value)(t:TypeId)(h:x.oneCell'=true):∀j u,[x][j]? =some u->(w.alloc (.cells #[x] t)).cell? ((⟨w,0,none⟩:Addr).add j)=some u:=by
 intro j u a;rw[Q3]
 match j,a with
 |0,a=>simp at a;subst a;go_simp
theorem Qt{F:Array Oper}{o:Oper}{a:Act}{K:Act->World->Prop}{Q:Exit->Act->World->Prop}{E:Prop}(m:o.guard=none)(s x:Operand)
 (q:o.op= .call {callee:=.builtin .append,args:=#[s,x],argTypes:=#[29,29]})
 (base:Nat) (v:Value) (L:List Int) (z:Int) (c:Ϡ) (d:Nat) (i:L.length=d) (f:Cm c base v L) (J:d<=1000000) (I:base<=c.heap.size)
 (r:a.eval s=v) (t:a.eval x=vS (ϋ c) 1 1)
 (h:∀g e w2,Cm w2 base (vS (ϋ g) (d+1) e) (L++[z])->(c.alloc (.cells #[vI z] 3)).grownBy w2 v.ownBlock->K (a.put o.dst (vS (ϋ g) (d+1) e)) w2):
 if Region.wanted o (yielded F a.tmps)=true then Oper.wp Tryz.prog o a (ϊ c #[vI z] 3) K Q else E:=by
 obtain⟨D,n,y,A,C⟩:=info_parts Tryz.info3;unfold Cm at f;rw[i]at f;exact step_append_lies _ m s x 29 q base 3 D (vI 0) 1 8 underlying29 n y A C rfl ϥ v d (L.map Gc) r
  (f.alloc _) ⟨c,0,none⟩ 1 1 [vI z] t rfl (Z5 _ _ _ rfl) (by intro u j;simp at j;rcases j with rfl;rfl) ϥ Ϯ Ϥ ϩ (c.heap.size+1) Ϧ (λg e w2 k l G H=>h g e w2 (by
   unfold Cm;rw[map_append,lAp,i];exact k) l)
theorem Z6{base:Nat}{c wr w2:Ϡ}{v u:Value}{r:List Int}{o:Obj}{C:Nat}(f:Below C c wr)(j:C<base)(l:base<=wr.heap.size)(i:Cm wr base v r)(e:(wr.alloc o).grownBy w2 v.ownBlock)(d:Δ wr C 0 u)(g:Ξ wr C 0):
 Below C c w2/\Δ w2 C 0 u/\Ξ w2 C 0/\base<=w2.heap.size:=by
 have m:C<wr.heap.size:=bLt _ _ d;have a:Below (C+1) wr w2:=(bR.alloc Ϥ o).grown e ϩ (λk h=>by have:=(World.ownsRow.lt i k h).1;omega);refine⟨f.trans (a.mono Ϥ),?_,?_,?_⟩
 ·rw[a.cell (p:=⟨C,0,none⟩) Ϧ];exact d
 ·rw[a.frozen (p:=⟨C,0,none⟩) Ϧ];exact g
 ·have:=e.size;simp at this;omega
theorem Da(p:Pln):(AZ p).length=p.group.length:=by unfold AZ;rw[lMp]
theorem Lx(p:Pln)(k:Nat)(h:k<p.group.length):(AZ p).take (k+1)=(AZ p).take k++[(A7 p).getD (p.group.getD k 0).toNat 0]:=by
 rw[take_succ_eq_append_getElem (by rw[Da];exact h)];unfold AZ;simp[gDe,h]
theorem Dc(p:Pln)(x:PA)(a:ϡ)(cap:Nat)(xs:List GX)(d:List Grp)(w:Ϡ)(Y:planAt w p x)(h0:Ag p=0)(ak:gsAt w a xs d)(a3:∀g∈d,wfG g)(aj:d.length<=ύ)
 (n1:0<p.left.length) (n2:0<p.right.length) (m1:p.left.length<=400) (m2:p.right.length<=400) (mg:p.group.length<=400) (ma:p.aggs.length<=400):
 χ 172 #[Aj p x,vS a d.length cap] w (ψ w (.bool (allB d.length (FQ p d)))):=by
 have aw:(A7 p).length<=800:=by unfold A7;rw[lAp];omega
 have v:Ϣ (∀c,ϣ w c->CT 133 #[Aj p x] c λe w'=>(∃X cap,e= .returned (vS X (A7 p).length cap)/\Ay w' X (A7 p))/\ϣ c w'):=λc hb=>
  (Ew p x c (Ae Y hb) n1 n2 m1 m2).mono (λe w' ⟨⟨X,cp,h1,h2⟩,h3⟩=>⟨⟨X,cp,h1,(Ea h2).1⟩,h3⟩)
 have l:Ϣ (∀O G L C Z oc m s c,ϣ w c->Δ c O 0 (vS Z (AZ p).length oc)->Δ c G 0 (vS a d.length cap)->Δ c L 12 (vS x.a p.aggs.length x.ac)->Δ c C 0 (vS m (A7 p).length s)->Ay c Z (AZ p)->Ay c m (A7 p)->
  χ 238 #[vS a d.length cap,.func (.func 239) #[] #[ω O,ω G,ω L,ω C]] c (ψ c (.bool (allB d.length (FQ p d))))):=λO G L C Z oc m s c E hO hG hP hC ho hc=>
  QB 239 (enters_of func239 ϧ rfl) #[ω O,ω G,ω L,ω C] (FQ p d) a cap xs d c aj (ak.below E) (λi w2 hi f=>by
   have ar:=bT E f;exact YU p x i O G L C Z a m oc cap s xs d w2 (cLz f hO) (cLz f hG) (cLz f hP) (cLz f hC) (ak.below ar) a3 hi aj (Al ho f) (Al hc f) (Cp Y.a ar) (by rw[Da];omega) Ϥ Ϥ (λj hj=>by
    have hm:p.aggs.getD j (0,0)∈p.aggs:=by rw[gDe,gEe hj];exact getElem_mem hj
    exact Xw h0 hm))
 have J:Ϣ (∀k,k<p.group.length->∃b o,x.g=some ⟨b,o,none⟩/\Δ w b (o+k) (vI (p.group.getD k 0))/\0<=p.group.getD k 0/\(p.group.getD k 0).toNat<(A7 p).length):=λk q=>by
  obtain⟨b,o,e,y⟩:=Y.g k q;have hm:p.group.getD k 0∈p.group:=by rw[gDe,gEe q];exact getElem_mem q
  have:=Up h0 _ hm;exact⟨b,o,e,y,this.1,Ϥ⟩
 have K:Ϣ (∀k,k<p.group.length->(AZ p).take (k+1)=(AZ p).take k++[(A7 p).getD (p.group.getD k 0).toNat 0]):=λk q=>Lx p k q;have T:Ϣ (∀k,k<=p.group.length->((AZ p).take k).length=k):=λk q=>by show _=_;rw[length_take,Da];omega
 have S:Ϣ ((AZ p).take p.group.length=AZ p):=by show _=_;rw[<-Da,take_length]
 have P:Ϣ ((AZ p).length=p.group.length):=Da p;obtain⟨R,hR⟩:=nM (allB d.length (FQ p d));rw[hR]at l⊢;obtain⟨r,aq⟩:=nM (AZ p);obtain⟨CO,ap⟩:=nM (A7 p);rw[aq]at l K T S P;rw[ap]at v l J K aw;obtain⟨gn,ay⟩:=nM d.length;rw[ay]at l⊢;clear hR aq ap ay Y h0 ak a3 aj n1 n2 m1 m2;obtain⟨b1,cd,b7,b0,ci,b3,left,right,br,bs,bz,ae,bh⟩:=p;obtain⟨la,lc,rr,rc,lk,b4,rk,cg,ga,gc,ag,ac⟩:=x;unfold Aj at v⊢;dsimp only at v l J K T S P mg ma⊢;obtain⟨n6,h6⟩:∃n,left.length=n:=⟨_,rfl⟩;obtain⟨n7,h7⟩:∃n,right.length=n:=⟨_,rfl⟩;obtain⟨n8,h8⟩:∃n,br.length=n:=⟨_,rfl⟩;obtain⟨n9,h⟩:∃n,bs.length=n:=⟨_,rfl⟩;obtain⟨u,an⟩:∃n,ae.length=n:=⟨_,rfl⟩;obtain⟨a4,ao⟩:∃n,bh.length=n:=⟨_,rfl⟩;simp only[h6,h7,h8,h,an,ao]at v l J K T S P mg ma⊢;clear h6 h7 h8 h an ao;obtain⟨cn,ai⟩:=nM CO.length;have bb:=hV0 ai;rw[ai]at v l J aw;rw[P.o]at l;clear ai;go_enter func172,ntmps172;go_wp2_with fail;generalize M:((World.alloc w _).alloc _)=V;have af:ϣ w V:=by rw[<-M];exact ϯ.alloc Ϧ _
 have a5:Δ V w 11 (vS ga u gc):=by subst M;go_simp
 have a6:Δ V w 12 (vS ag a4 ac):=by subst M;go_simp
 have vG:Δ V (w+1) 0 (vS a gn cap):=by subst M;go_simp
 clear M;refine(v.o _ af).mono ?_;rintro e c ⟨⟨m,s,rfl,av⟩,E⟩;have ba:=hV0 av;have bn:ϣ w c:=bT af E;obtain⟨a7,a8,wG⟩:=lk3 E a5 a6 vG;have cb:w.heap.size+1<c.heap.size:=bLt _ _ wG;have b9:w.heap.size<c.heap.size:=Ϥ;clear av E a5 a6 vG af;go_wp2;generalize D:((World.alloc c _).alloc _)=A;have f:ϣ c A:=by rw[<-D];exact ϯ.alloc Ϧ _
 have a2:A.heap.size=c.heap.size+1+1:=by rw[<-D];simp
 have b5:Δ A c 0 (vS m cn s):=by subst D;go_simp
 have b6:Δ A (c+1) 0 (vS none 0 0):=by subst D;go_simp
 have f6:Ξ A (c+1) 0:=by subst D;go_simp
 obtain⟨bu,bv,bw⟩:=lk3 f a7 a8 wG;have be:=hV0 a2;have a9:=hV0 f;clear D a7 a8 wG a2 f
 go_loopw [14] (λt wr=> ∃k H N,k<=u/\t=vI (k:Nat)/\Below (c.heap.size+1) A wr/\Δ wr (c+1) 0 (vS H k N)/\Ξ wr (c+1) 0/\c.heap.size+1+1<=wr.heap.size/\Cm wr (c.heap.size+1+1) (vS H k N) (r.take k)) (λt _=>u - (intOf t).toNat)
 case atStart=>exact⟨0,none,0,Nat.zero_le _,rfl,bR,b6,f6,by rw[be.o];exact Nat.le_refl _,World.ownsRow_nil _ _ _ _⟩
 case round=>
  obtain⟨k,H,N,q,rfl,F,cv,cf,az,a1⟩:=hrel;have aa:=hV0 a1;have am:=hV0 az;have lB:c.heap.size+1<wr.heap.size:=bLt _ _ cv;have au:ϣ c wr:=a9.o.trans (F.mono Ϥ);have ah:ϣ w wr:=bT bn au;have c5:Δ wr c 0 (vS m cn s):=by rw[F.cell (p:=⟨c,0,none⟩) Ϧ];exact b5
  have bx:Δ wr w 11 (vS ga u gc):=by rw[F.cell (p:=⟨w,11,none⟩) ϩ];exact bu
  have bi:Δ wr w 12 (vS ag a4 ac):=by rw[F.cell (p:=⟨w,12,none⟩) ϩ];exact bv
  have cG:Δ wr (w+1) 0 (vS a gn cap):=by rw[F.cell (p:=⟨w+1,0,none⟩) ϩ];exact bw
  have al:Ϣ (Ay wr m CO):=Al ba.o au;clear a1 az;by_cases a0:k<u
  ·obtain⟨b,o,e,x1,x2,x3⟩:=J.o k a0;have Q:Ϣ (r.take (k+1)=r.take k++[CO.getD (ae.getD k 0).toNat 0]):=K.o k a0;have bc:Ϣ ((r.take k).length=k):=T.o k q;obtain⟨z,hz⟩:=nM (ae.getD k 0);rw[hz]at x1 x2 x3 Q;obtain⟨zn,rfl⟩:=Int.eq_ofNat_of_zero_le x2;simp only[Int.toNat_natCast]at x3 Q;obtain⟨b8,o8,e8,y8⟩:=al.o zn (by rw[bb.o];omega);obtain⟨bj,ax⟩:=nM (CO.getD zn 0);rw[ax]at y8 Q;subst e;subst e8;have q1:=cLz ah x1;have i1:=nn0 k;have i2:(k:Int)<(u:Int):=Ϥ;have j1:=nn0 zn;have j2:(zn:Int)<(cn:Int):=Ϥ;have b2:b8<wr.heap.size:=bLt _ _ y8;clear hz ax x1 x2;go_wp2
   go_region_law (first
    |(refine Qt (by rfl) (.tmp 18) (.tmp 23) (by rfl) (c.heap.size+1+1) (vS H k N) (r.take k) bj wr.drew k bc.o (World.ownsRow.drew aa.o) Ϥ (by exact am.o) (by rfl) (by rfl) ?_;intro g9 ab w2 bq bo;obtain⟨p1,p2,p3,p4⟩:=Z6 F.drew Ϥ am.o (World.ownsRow.drew aa.o) bo cv cf))
   all_goals
    have bk:Cm (ό w2 (c+1) 0 (vS (ϋ g9) (k+1) ab)) (c.heap.size+1+1) (vS (ϋ g9) (k+1) ab) (r.take (k+1)):=by
     rw[Q.o];exact ownsRow_setCell_below bq (a:=⟨c+1,0,none⟩) Ϧ _
    go_wp2;go_roundw;exact⟨k+1,some ⟨g9,0,none⟩,ab,Ϥ,by go_num,p1.setCell Ϧ _,World.cell?_setCell_same _ _ _ p2,by simpa using p3,by simpa using p4,bk⟩;simp[intOf];omega
  ·have bp:k=u:=Ϥ;subst bp;have bd:Ϣ (Ay wr H r):=by have:=(Ea aa.o).1;rw[S.o]at this;exact this
   have bg:Ϣ (∀I,ϣ wr I->CT 238 #[vS a gn cap,.func (.func 239) #[] #[ω (c+1),ω (w+1),ω w,ω c]] I (ψ I (.bool R))):=λI h=>l.o _ _ _ _ H N m s I (bT ah h) (cLz h cv) (cLz h cG) (cLz h bi) (cLz h c5) (Al bd.o h) (Al al.o h);go_wp2_with (go_at_call 238;refine(bg.o _ bR).mono ?_;rintro e I ⟨rfl,bm⟩);go_ret;exact⟨rfl,bT ah bm⟩
theorem Acn{p:Pln}(h:Ag p=0):(0<p.left.length/\p.left.length<=4)/\0<p.right.length/\p.right.length<=4:=by
 have a:=(Bv h).2.2.1;exact⟨⟨a.1.1.1,a.1.1.2⟩,a.1.2.1.1,a.1.2.1.2⟩
theorem Bi(p:Pln)(x:PA)(a:ϡ)(cap:Nat)(xs:List GX)(d:List Grp)(w:Ϡ)(hw:wfPlan p)(v:planAt w p x)(ad:gsAt w a xs d)(ae:∀g∈d,wfG g)(aa:d.length<=ύ):
 χ 103 #[Aj p x,vS a d.length cap] w (ψ w (vI (CS p d))):=by
 have l:=hIz (λ(c:Ϡ) (m:ϣ w c)=>Dd p x c hw (Ae v m));have i:Ϣ (∀c,Ag p=0->p.grouped=true->ϣ w c->CT 172 #[Aj p x,vS a d.length cap] c (ψ c (.bool (allB d.length (FQ p d))))):=λc j hg m=>by
  have hf:=Acn j;have an:=Jt j hg;exact Dc p x a cap xs d c (Ae v m) j (ad.below m) ae aa hf.1.1 hf.2.1 Ϥ Ϥ Ϥ Ϥ
 obtain⟨R,q⟩:=nM (CS p d);have f:=hV0 q;unfold CS at f;rw[q];clear q hw v ad ae;obtain⟨AB,Y⟩:=nM (allB d.length (FQ p d));rw[Y]at i f;obtain⟨E,Z⟩:=nM (Ag p);rw[Z]at l i f;obtain⟨o,ab⟩:=nM d.length;rw[ab]at i f aa⊢;clear Y Z ab;obtain⟨ap,av,au,ao,az,aq,left,right,ak,al,ai,ah,af⟩:=p;obtain⟨la,lc,rr,rc,lk,ar,rk,ay,ga,gc,ag,ac⟩:=x;unfold Aj at l i⊢;dsimp only at l i f⊢;obtain⟨n6,Q⟩:∃n,left.length=n:=⟨_,rfl⟩;obtain⟨n7,S⟩:∃n,right.length=n:=⟨_,rfl⟩;obtain⟨n8,T⟩:∃n,ak.length=n:=⟨_,rfl⟩;obtain⟨n9,X⟩:∃n,al.length=n:=⟨_,rfl⟩;obtain⟨aw,O⟩:∃n,ah.length=n:=⟨_,rfl⟩;obtain⟨ax,P⟩:∃n,af.length=n:=⟨_,rfl⟩;simp only[Q,S,T,X,O,P]at l i⊢;clear Q S T X O P;go_enter func103,ntmps103;go_wp2_with fail;generalize r:(World.alloc w _)=V;have s:ϣ w V:=by rw[<-r];exact ϯ
 obtain⟨y,z,F,G,H,I,J,K,L,M,A,C,D⟩:=AfF r;clear r;refine(l.o _ s).mono ?_;rintro e c ⟨rfl,t⟩;have k:ϣ w c:=bT s t;have zz:=Aae t y z F G H I J K L M A C D;clear y z F G H I J K L M A C D;obtain⟨y,z,F,G,H,I,J,K,L,M,A,C,D⟩:=zz;clear t s l;by_cases j:E=0
 ·subst j
  cases ai with
  |false=>
   have h:Ϣ (1=R):=by show _=_;rw[<-f.o];simp
   go_wp2;go_ret;exact⟨Ad h.o,k⟩
  |true=>
   by_cases h1:o>4096
   ·have h:Ϣ (2=R):=by show _=_;rw[<-f.o];simp;omega
    have aj:(o:Int)>4096:=Ϥ;go_wp2;go_ret;exact⟨Ad h.o,k⟩
   ·have aj:¬((o:Int)>4096):=Ϥ;have N:Ϣ (∀c,ϣ w c->_):=λc m=>i.o c rfl rfl m;clear i
    cases AB with
    |true=>
     have h:Ϣ (0=R):=by show _=_;rw[<-f.o];simp;omega
     go_wp2_with (go_at_call 172;refine(N.o _ k).mono ?_;rintro e w2 ⟨rfl,u⟩);go_ret;exact⟨Ad h.o,bT k u⟩
    |false=>
     have h:Ϣ (1=R):=by show _=_;rw[<-f.o];simp;omega
     go_wp2_with (go_at_call 172;refine(N.o _ k).mono ?_;rintro e w2 ⟨rfl,u⟩);go_ret;exact⟨Ad h.o,bT k u⟩
 ·have am:(E !=0)=true:=by simpa using j
  have h:Ϣ (E=R):=by show _=_;rw[<-f.o,if_pos j]
  go_wp2;go_ret;exact⟨Ad h.o,k⟩
end gr
end Go.Proofs.YtfkihidbnfkbaaaGreatDoor
