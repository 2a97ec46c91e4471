import Derived.Test.YtfkihidbnfkbaaaGreatDoorPv16
import Derived.Shelf.SlSortCmp.NoneTotal
import Derived.Test.YtfkihidbnfkbaaaGreatDoorPv14
set_option linter.all false
set_option maxHeartbeats 64000000
set_option maxRecDepth 100000
open Go.ChangeShapes Go.WideShapes Go.ChangeAt Go.RowKit Go.Sort Go.Shelf List
open Inhabited renaming default->ϰ
open List renaming length->ϲ
namespace Go.Proofs.YtfkihidbnfkbaaaGreatDoor
open Go.Proofs.Tryz
namespace jn
variable {P : Program} {md : Region.Mode} {ops : Array Oper} {Q : Exit -> Act -> World -> Prop} {S : World -> Prop} {d fuel i : Nat} {listed : Array Bool} {a a' : Act} {w : ϟ} {oi : Oper}
theorem C9{v:Value}(N:Nat)(f:S w)(h:wpAnyH P md ops Q S fuel (listed.setIfInBounds i true) a' w)(q:i+(fuel+1)=N:=by exact rfl)
 (k:ops[i]? =some oi:=by exact rfl) (m:(Region.noSelect ops&&(Region.free md ops listed i&&(Region.ready md ops listed).contains i))=true:=by kernel_rfl) (j:oi.dst=some d:=by exact rfl) (p:Region.wanted oi (yielded ops a.tmps)=true:=by exact rfl) (hy:∀w,S w->(execOp a.eval oi).run P w= .ok (.value v) w:=by(intro r g;(try simp only[boxP,BU]at g);first|(go_simp;done)|(go_simp;with_reducible rfl))) (ha:a.put (some d) v=a':=by(apply (Ol _ _ _ _).trans;dsimp only[sZ,sSz];try exact rfl))
 (e:∀c a w,Q (.panic c) (a.put oi.dst v) w->Q (.panic c) a w:=by exact λ_ _ _ h=>h):wpAnyH P md ops Q S (fuel+1) listed a w:=gr.Qz i (some d) f h k m j p hy ha e
theorem Hd(N:Nat)(f:S w)(h:wpAnyH P md ops Q S fuel (listed.setIfInBounds i true) a' w)(p:i+(fuel+1)=N:=by exact rfl)
 (j:ops[i]? =some oi:=by exact rfl) (m:Region.wanted oi (yielded ops a.tmps)=false:=by exact rfl) (k:(Region.noSelect ops&&(Region.free md ops listed i&&(Region.ready md ops listed).contains i))=true:=by kernel_rfl) (g:oi.dst=some d:=by exact rfl) (ha:a.put (some d) undef=a':=by(apply (Ol _ _ _ _).trans;dsimp only[sZ,sSz];try exact rfl))
 (e:∀c a w,Q (.panic c) (a.put oi.dst undef) w->Q (.panic c) a w:=by exact λ_ _ _ h=>h):wpAnyH P md ops Q S (fuel+1) listed a w:=gr.AgS i (some d) f h j k g m ha e
end jn
namespace bf
open vl
def cfE(a b:EM):Int:=Fw a.ent b.ent
def S8(a b:EM):ltOf cfE a b=decide (ltP a.ent b.ent):=Agb a b
def swoE:SWO (ltOf cfE) where
 irrefl x:=by rw[S8];exact BP (EA _)
 trans x y z h1 h2:=by
  rw[S8]at *;exact DB (CF (Fd h1) (Fd h2))
 ntrans x y z h1 h2:=by
  rw[S8]at *;have f:=aO h1;have e:=aO h2;refine BP (λh=>?_);rcases ltP_tri x.ent y.ent with c|c|c
  ·exact f c
  ·exact e (Abe (Kh c) h)
  ·exact e (CF c h)
def cmpE(g c size:Nat)(w:ϟ):CmpLays Tryz.prog 272 #[] Lf 5 cfE g c size w:=by
 intro m e dk _ x y;rw[eL];exact R8 x y _
def Ag9{w w':ϟ}{base c:Nat}{e f:EM}{x y:Ent}(h:OR w base e x)(k:OR w' c f y):ltP e.ent f.ent↔ltP x y:=by
 unfold ltP EM.ent;simp only[h.key,h.time,h.seq,k.key,k.time,k.seq]
theorem UL(base:Nat)(v:Value)(es:List EM)(l:List Ent)(w:ϟ)(h:OE w base v es l)(R:ϲ es<=1000000):
 χ 351 #[v,.func (.func 272) #[] #[]] w λe k=>e= .returned (.tuple #[])/\∃D f,f.Perm l/\(∀i j,i<j->j<ϲ f->¬ltP (f.getD j ϰ) (f.getD i ϰ))/\OE k base v D f/\Below base w k/\(∀b,b<w.heap.size->v.ownBlock≠some b->k.heap[b]? =w.heap[b]?):=by
 rcases h.own.2 with⟨q,E⟩|⟨g,B,O,q,F,H,_⟩
 ·subst q;refine(AnyF.slices_SortFunc_none Tryz.sortE none 0 (.func (.func 272) #[] #[]) w).mono ?_;rintro e k ⟨rfl,rfl⟩;exact⟨rfl,es,l,eR _,λi j u m=>by rw[<-h.len,E]at m;omega,h,bR,λ_ _ _=>rfl⟩
 ·subst q;have I:g<w.heap.size:=(GS.1 H).1;have C:∀r w,(callFunc 272 r).run Tryz.prog w= .ok (.enter 272 r) w:=IB func272 Ϧ rfl;have s:=AnyQ.slices_SortFunc Tryz.sortE 5 Tryz.isAgg166 Tryz.sizeOf166 Lf Ab0 Ab1 cfE swoE 272 #[] g 0 B es.toArray w C (cmpE g 0 es.toArray.size w) (Zd h.own) I Ϩ;rw[St]at s;refine Calls.mono s ?_;rintro e k ⟨rfl,c,n,A,y,N,rfl⟩;obtain⟨c,rfl⟩:∃z:List EM,c=z.toArray:=⟨c.toList,ϥ⟩;have t:ϲ c=ϲ es:=by have:=y.1;simpa using this
  have M:c.Perm es:=by
   have:=y.2.2;simpa[t,KI]using this
  obtain⟨f,pl,p⟩:=Ze (n:=n) (os:=A) h M;refine⟨rfl,c,f,pl,λi j u m=>?_,p,Ab2 F h.low,λb G L=>RA G (λe=>L (by rw[e];rfl))⟩;have x:j<ϲ c:=by rw[p.len];exact m
  have:=N i j (At _) u (by rw[<-t];exact x);rw[IX c j x,IX c i ϣ,S8]at this;have K:=aO this;exact λJ=>K ((Ag9 (p.rows j m) (p.rows i ϣ)).2 J)
attribute [local go_sem] Oper.semAt_some
variable {LB b n : Nat} {W X Y w3 : ϟ} {v : Value} {es : List EM} {l : List Ent} {o : Obj}
def Ng(n LB:Nat):Nat->Obj->Prop:=λb o=>b≠LB/\∀c f,o= .cells c 166 f->b<n
def Aa7(h:b<n)(c:n<=LB):names (Ng n LB) W b:=λo _=>⟨ϣ,λ_ _ _=>h⟩
def UN{t:TypeId}(h:Am W b t)(ht:t≠166)(m:b≠LB):names (Ng n LB) W b:=λo p=>⟨m,λc f e=>by
 obtain⟨q,r,g⟩:=h;rw[p]at g;rw[e]at g;injection g with j
 injection j with _ k _
 exact absurd k.symm ht⟩
structure Mk(X:World)(n LB:Nat)(v:Value)(es:List EM)(l:List Ent):Prop where
 oe:OE X n v es l
 c:Δ X LB 0 v
 f:Ξ X LB 0
 ty:Am X LB 33
def Mk.below(h:Mk X n LB v es l)(c:Ϣ X Y):Mk Y n LB v es l:=
 ⟨h.oe.below c,cLz c h.c,(c.frozen (p:=⟨LB,0,none⟩) (A7 h.ty)).trans h.f,Ak h.ty c⟩
def Mk.row{s:Option Nat}(h:Mk X n LB v es l)(m:X.grownBy Y s)(z:∀r,s=some r->∃x:Obj,X.heap[r]? =some x/\x.isCells=false):Mk Y n LB v es l:=by
 have q:∀(b:Nat) (c:Array Value) (t:TypeId) (f:Nat×Nat),X.heap[b]? =some (.cells c t f)->Y.heap[b]? =X.heap[b]? :=λb c t f k=>m.block b (GS.1 k).1 (λe=>by
  obtain⟨x,j,u⟩:=z b e.symm;rw[k]at j;cases j;cases u)
 obtain⟨B,D,A⟩:=h.ty;have e:=q _ _ _ _ A;exact⟨h.oe.same m.size (λg C t y _=>q _ _ _ _ y),(cOb (a:=⟨LB,0,none⟩) e).trans h.c,(AZ (p:=⟨LB,0,none⟩) e).trans h.f,A1 h.ty e⟩
theorem N8{w4:ϟ}{e:EM}{y:Ent}{g c4:Nat}(h:Mk X n LB v es l)(j:Ϣ X w3)(O:OR w3 n e y)(J:n<=LB)
 (N:w4.ownsRow n 166 5 (vS (ϋ g) (ϲ es+1) c4) (ϲ es+1) (Ap es++[.string e.key,vI e.time,vI e.seq,hdV e.row,.bool e.met])) (x:(w3.alloc o).grownBy w4 v.ownBlock) (B:Nat):
 Mk (ό w4 LB 0 (vS (ϋ g) (ϲ es+1) c4)) n LB (vS (ϋ g) (ϲ es+1) c4) (es++[e]) (l++[y])/\Below n X (ό w4 LB 0 (vS (ϋ g) (ϲ es+1) c4))/\
 Aw (Ng n LB) X (ό w4 LB 0 (vS (ϋ g) (ϲ es+1) c4))/\KeepsFrom B X (ό w4 LB 0 (vS (ϋ g) (ϲ es+1) c4)):=by
 have c:=h.below j;have H:=JC h.oe j O N x;have L:=A7 c.ty;have t:∀b,b<w3.heap.size->v.ownBlock≠some b->w4.heap[b]? =w3.heap[b]? :=λb m M=>by
  rw[x.block b Ϩ (λe=>M e.symm)];exact LE _ _ b m
 have r:w4.heap[LB]? =w3.heap[LB]? :=t LB L (λe=>tyAt_apart (Az c.oe.own e) c.ty Ϥ rfl);have z:Am w4 LB 33:=A1 c.ty r;have I:=(cOb (a:=⟨LB,0,none⟩) r).trans c.c;have U:=(AZ (p:=⟨LB,0,none⟩) r).trans c.f;have D:∀b u,b≠LB->(w4.setCell ⟨LB,0,none⟩ u).heap[b]? =w4.heap[b]? :=λb u m=>CB _ _ _ _ m;refine⟨⟨H.1.other (by simp[World.setCell]) (λb m=>D b _ (by rcases m with k|k;exact tyAt_apart k z Ϥ;exact tyAt_apart k z Ϥ)),JR _ _ _ I,ϧ,tyAt_set z _ _⟩,H.2.setCell J _,λb ob f s F=>?_,?_⟩
 ·have G:b<X.heap.size:=(GS.1 f).1;have C:=j.block b G;rw[D b _ F.1,t b (NE G j.size) (λe=>?_),C]
  ·exact f
  ·obtain⟨A,E,k⟩:=Az c.oe.own e;rw[C,f]at k;injection k with k
   have:=F.2 A E k;have:=(AL c.oe.own e).1;omega
 ·have R:KeepsFrom B X w3:=BW j;have T:KeepsFrom B w3 w4:=⟨by have:=x.size;simp at this;omega,λk ob V f s=>by
   have K:k<w3.heap.size:=(GS.1 f).1;rw[t k K (λe=>?_)]
   ·exact f
   ·obtain⟨A,E,q⟩:=Az c.oe.own e;rw[f]at q;injection q with q
    rw[q]at s
    cases s⟩
  exact(R.trans T).trans ((Rg _ _ _).from _)
def Xq{w4:ϟ}(h:Mk X n LB v es l)(g:Ϣ X w3)(j:(w3.alloc o).grownBy w4 v.ownBlock):Δ w4 LB 0 v/\Ξ w4 LB 0:=by
 have c:=h.below g;have k:=A7 c.ty;have f:w4.heap[LB]? =w3.heap[LB]? :=by
  rw[j.block LB Ϩ (λe=>tyAt_apart (Az c.oe.own e.symm) c.ty Ϥ rfl)];exact LE _ _ LB k
 exact⟨(cOb (a:=⟨LB,0,none⟩) f).trans c.c,(AZ (p:=⟨LB,0,none⟩) f).trans c.f⟩
end bf
namespace gr
open vl pl bt jn
attribute [local go_sem] Oper.semAt_some
theorem Aa8(p:Pln)(x:PA)(i O G PB C:Nat)(oa ga Z:Ϡ)(oc gc cc:Nat)(k:List GX)(h:List Grp)(w:ϟ)
 (hO:Δ w O 0 (vS oa (ϲ (AW p)) oc)) (hG:Δ w G 0 (vS ga (ϲ h) gc)) (hP:Δ w PB 12 (vS x.a (ϲ p.aggs) x.ac)) (hC:Δ w C 0 (vS Z (ϲ (A5 p)) cc))
 (ac:gsAt w ga k h) (ak:∀g∈h,wfG g) (I:i<ϲ h) (a7:ϲ h<=ύ) (a3:Au w oa (AW p)) (az:Au w Z (A5 p)) (av:DK w x.a p.aggs) (a4:ϲ (AW p)<=ύ) (a0:ϲ (A5 p)<=ύ) (aw:ϲ p.aggs<=ύ) (a1:∀i,i<ϲ p.aggs->0<=(p.aggs.getD i (0,0)).2/\(p.aggs.getD i (0,0)).2.toNat<ϲ (A5 p)):
 χ 239 #[vI (i:Nat),Jf (k.getD i ϰ) (h.getD i ϰ),ω O,ω G,ω PB,ω C] w (ψ w (.bool (Gb p h i))):=by
 have ah:∀i,i<ϲ h->h.getD i ϰ∈h:=λi I=>by rw[gDe,gEe I];exact GE I
 have J:=ak _ (ah i I);have U:=ac.each i I;have M:ϡ (∀f,Ϣ w f->CT 112 #[vS (k.getD i ϰ).r (ϲ (h.getD i ϰ).row) (k.getD i ϰ).rc] f (ψ f (.tuple #[.string (FY (h.getD i ϰ).row),vI (Aq (h.getD i ϰ).row)]))):=λf m=>J2 _ _ _ f (vl.Ac U.row m) J.row J.rl;have D:ϡ (∀f,Ϣ w f->CT 177 #[vS (k.getD i ϰ).r (ϲ (h.getD i ϰ).row) (k.getD i ϰ).rc,vS oa (ϲ (AW p)) oc] f (ψ f (.bool (BQ (h.getD i ϰ).row (AW p))))):=λf m=>Mx _ _ _ _ _ _ f J.rl a4 (vl.Ac U.row m) (Al a3 m);have N:ϡ (∀j f,j<=i->Ϣ w f->CT 220 #[vS (k.getD j ϰ).r (ϲ (h.getD j ϰ).row) (k.getD j ϰ).rc,vS (k.getD i ϰ).r (ϲ (h.getD i ϰ).row) (k.getD i ϰ).rc] f (ψ f (vI (AH (h.getD j ϰ).row (h.getD i ϰ).row)))):=λj f hj m=>Ta _ _ _ _ _ _ f (vl.Ac (ac.each j ϣ).row m) (vl.Ac U.row m) (ak _ (ah j ϣ)).rl J.rl;have B:ϡ (∀f,Ϣ w f->CT 240 #[vS x.a (ϲ p.aggs) x.ac,vS Z (ϲ (A5 p)) cc,Jf (k.getD i ϰ) (h.getD i ϰ)] f (ψ f (.bool (Kd (A5 p) p.aggs (h.getD i ϰ))))):=λf m=>PM _ _ _ _ _ _ _ _ f (Cs av m) (Al az m) (U.below m) J aw a0 a1;have ao:ϡ (∀j,j<=i->∃b o,ga=some ⟨b,o,none⟩/\Δ w b (o+j * 3) (vS (k.getD j ϰ).r (ϲ (h.getD j ϰ).row) (k.getD j ϰ).rc)):=λj hj=>by
  obtain⟨b,o,e,x1,_⟩:=ac.cells j ϣ;exact⟨b,o,e,x1⟩
 obtain⟨R,hR⟩:=nM (Gb p h i);have r:=hV0 hR;unfold Gb at r;rw[hR];clear hR ah J U ac ak a3 az av a4 a0 aw a1;obtain⟨g,hg⟩:=nM (h.getD i ϰ);obtain⟨y,hy⟩:=nM (k.getD i ϰ);rw[hg,hy]at M D N B;rw[hg]at r;rw[hg,hy];obtain⟨E,hE⟩:=nM (Aq g.row);obtain⟨TB,au⟩:=nM (BQ g.row (AW p));obtain⟨BB,aq⟩:=nM (Kd (A5 p) p.aggs g);rw[hE]at M r;rw[au]at D r;rw[aq]at B r;unfold Jf at B⊢;obtain⟨rn,ad⟩:=nM (ϲ g.row);obtain⟨bn,af⟩:=nM (ϲ g.bags);obtain⟨s,ab⟩:=nM g.n;obtain⟨on,a5⟩:=nM (ϲ (AW p));obtain⟨gl,a2⟩:=nM (ϲ h);obtain⟨an,ae⟩:=nM (ϲ p.aggs);obtain⟨cn,ag⟩:=nM (ϲ (A5 p));obtain⟨pa,ai⟩:=nM x.a;obtain⟨a8,aj⟩:=nM x.ac;obtain⟨xr,am,xb,al,xh⟩:=y;dsimp only at M D N B⊢;rw[ad]at M D N;rw[ad,af,ab,ae,ag,ai,aj]at B;rw[a5]at D hO;rw[a2]at hG I a7;rw[ae,ai,aj]at hP;rw[ag]at hC;rw[ab]at r;rw[ad,af,ab];clear hg hy hE au aq ad af a5 a2 ae ag ai aj ab;have ax:Ϣ w (ϊ w #[vS xr rn am,vI s,vS xb bn al] 102):=Ϯ;have i1:=nn0 i;have i2:(i:Int)<(gl:Int):=ϣ;obtain⟨j,hj⟩:∃j,j=i - 1:=⟨_,rfl⟩;rw[<-hj]at r;obtain⟨gb,ap,e9,x9⟩:=ao.o j ϣ;subst e9;have V:ϡ (∀f,Ϣ w f->_):=λf m=>N.o j f ϣ m;obtain⟨CV,ar⟩:=nM (AH (h.getD j ϰ).row g.row);rw[ar]at V r;obtain⟨⟨pr,a9,_,_,_⟩,q⟩:∃z,k.getD j ϰ=z:=⟨_,rfl⟩;obtain⟨pn,a6⟩:=nM (ϲ (h.getD j ϰ).row);rw[q,a6]at V x9;dsimp only at V x9;have j1:=nn0 j;have j2:(j:Int)<(gl:Int):=ϣ;clear ar q a6 N ao;have t:=r.o;by_cases h0:E=0
 case' neg=>
  have ba:(E==0)=false:=by simpa using h0
  have A:ϡ (false=R):=by show _=_;rw[<-t];simp[h0]
 case' pos=>
  subst h0;by_cases h4:TB=true
  case' neg=>
   obtain rfl:TB=false:=by simpa using h4
   have A:ϡ (false=R):=by show _=_;rw[<-t];simp
  case' pos=>
   subst h4;by_cases F:1<=s
   case' neg=>
    have B1:=Mp (x:=1) (y:=s) false (by simpa using F);have A:ϡ (false=R):=by show _=_;rw[<-t];simp[F]
   case' pos=>
    have B1:=Mp (x:=1) (y:=s) true (by simpa using F);by_cases H:s<=1073741824
    case' neg=>
     have B2:=Mp (x:=s) (y:=1073741824) false (by simpa using H);have A:ϡ (false=R):=by show _=_;rw[<-t];simp[H]
    case' pos=>
     have B2:=Mp (x:=s) (y:=1073741824) true (by simpa using H);by_cases h9:i=0
     case' pos=>
      have B3:=AbU (x:=(i:Int)) (y:=0) true Ϩ;have A:ϡ (BB=R):=by show _=_;rw[<-t];simp[F,H,h9]
     case' neg=>
      have B3:=AbU (x:=(i:Int)) (y:=0) false Ϩ;have i3:IntKind.i64.wrap ((i:Int) - 1)=(j:Int):=by rw[RW];omega
      by_cases T:CV<0
      case' pos=>
       have B4:=Km (x:=CV) (y:=0) true (by simpa using T);have A:ϡ (BB=R):=by show _=_;rw[<-t];simp[F,H,T]
      case' neg=>
       have B4:=Km (x:=CV) (y:=0) false (by simpa using T);have A:ϡ (false=R):=by show _=_;rw[<-t];simp[T,h9]
 all_goals
  clear t hj r
  try clear h0
  try clear F
  try clear H
  try clear T
  try clear h9
  as_aux_lemma=>
  go_enter func239,ntmps239;go_wp2_with (go_at_call 112;refine(M.o _ ax).mono ?_;rintro e f ⟨rfl,aa⟩;have ay:Ϣ w f:=bT ax aa;have u0:Δ f w 0 (vS xr rn am):=cLz aa ϧ;have u1:Δ f w 1 (vI s):=cLz aa ϧ;have u2:Δ f w 2 (vS xb bn al):=cLz aa ϧ);obtain⟨uO,uG,uP,uC,uV⟩:=lk5 ay hO hG hP hC x9;refine CZ (S:=λL=>Ϙ L w (vS xr rn am) (vI s) (vS xb bn al) (Δ L O 0 (vS oa on oc)/\Δ L G 0 (vS (some ⟨gb,ap,none⟩) gl gc)/\Δ L PB 12 (vS pa an a8)/\Δ L C 0 (vS Z cn cc)/\Δ L gb (ap+j * 3) (vS pr pn a9))) 42 rfl Ϧ ⟨ϧ,ϧ,ϧ,ϧ,ϧ,ϧ,ϧ,ϧ⟩ (λc=>?_);have q:=ay.drew
  repeat first|refine C9 42 c ?_|refine Hd 42 c ?_
  try
   refine rD 6 λK u=>?_;go_simp;refine(D.o _ q).mono ?_;rintro e y ⟨rfl,hy⟩;replace q:=bT q hy;go_wp2_with fail;refine u.out _ _ ⟨cLz hy c.1,cLz hy c.2.1,cLz hy c.2.2.1,cLz hy c.2.2.2.1,cLz hy c.2.2.2.2.1,cLz hy c.2.2.2.2.2.1,cLz hy c.2.2.2.2.2.2.1,cLz hy c.2.2.2.2.2.2.2⟩ (λc=>?_);clear u K
   try simp only[Act.put,sI,sZ,sSz]
   repeat first|refine C9 42 c ?_|refine Hd 42 c ?_
  try
   refine rD 30 λK u=>?_;go_simp;refine(V.o _ q).mono ?_;rintro e y ⟨rfl,hy⟩;replace q:=bT q hy;go_wp2_with fail;refine u.out _ _ ⟨cLz hy c.1,cLz hy c.2.1,cLz hy c.2.2.1,cLz hy c.2.2.2.1,cLz hy c.2.2.2.2.1,cLz hy c.2.2.2.2.2.1,cLz hy c.2.2.2.2.2.2.1,cLz hy c.2.2.2.2.2.2.2⟩ (λc=>?_);clear u K
   try simp only[Act.put,sI,sZ,sSz]
   repeat first|refine C9 42 c ?_|refine Hd 42 c ?_
  try
   refine rD 39 λK u=>?_;go_simp;refine(B.o _ q).mono ?_;rintro e y ⟨rfl,hy⟩;replace q:=bT q hy;go_wp2_with fail;refine u.out _ _ ⟨cLz hy c.1,cLz hy c.2.1,cLz hy c.2.2.1,cLz hy c.2.2.2.1,cLz hy c.2.2.2.2.1,cLz hy c.2.2.2.2.2.1,cLz hy c.2.2.2.2.2.2.1,cLz hy c.2.2.2.2.2.2.2⟩ (λc=>?_);clear u K
   try simp only[Act.put,sI,sZ,sSz]
   repeat first|refine C9 42 c ?_|refine Hd 42 c ?_
  refine GT Ϧ ?_ _;go_wp2;go_ret;exact⟨Aa A.o,q⟩
end gr
