import Derived.Test.YtfkihidbnfkbaaaGreatDoorPv15
import Derived.Test.YtfkihidbnfkbaaaGreatDoorPv18
import Derived.Test.YtfkihidbnfkbaaaGreatDoorPv19
import Derived.Test.YtfkihidbnfkbaaaGreatDoorPv17
set_option linter.all false
set_option maxHeartbeats 4000000
set_option maxRecDepth 100000
open Go.ChangeShapes Go.WideShapes Go.ChangeAt Go.RowKit
open Inhabited renaming default->ϰ
namespace Go.Proofs.YtfkihidbnfkbaaaGreatDoor
open Go.Proofs.Tryz
namespace bt
open vl pl
theorem I4(d:FuncId)(O:∀z w,(callFunc d z).run Tryz.prog w= .ok (.enter d z) w)(p:Array Value)(P:Nat->Bool)(a:ϙ)(cap:Nat)(l:List ch.Cnt)(w:Ϙ)(L:l.length<=χ)(ha:ch.viewAt w a l)
 (H:∀i c g m,i<l.length->ϛ w c->vl.rowAt c g (l.getD i ϰ).r->Calls Tryz.prog d (#[vI (i:Nat),.agg #[vS g (l.getD i ϰ).r.length m,vI (l.getD i ϰ).n]]++p) c (θ c (.bool (P i)))):
 η 174 #[vS a l.length cap,.func (.func d) #[] p] w (θ w (.bool (allB l.length P))):=by
 have K:Ϛ (∀i c g m,i<l.length->ϛ w c->vl.rowAt c g (l.getD i ϰ).r->CT d (#[vI (i:Nat),.agg #[vS g (l.getD i ϰ).r.length m,vI (l.getD i ϰ).n]]++p) c (θ c (.bool (P i)))):=H;clear H;obtain⟨n,v⟩:∃n,l.length=n:=⟨_,rfl⟩;have y:=hqz v;rw[v]at L⊢;clear v;go_enter func174,ntmps174;go_wp2
 go_loopw [9] (λi wr=> ∃k:Nat,k<=n/\i=vI k/\ϛ w wr/\∀i,i<k->P i=true) (λi _=>n - (intOf i).toNat)
 case atStart=>exact⟨0,Nat.zero_le _,rfl,bR,λi q=>absurd q (Nat.not_lt_zero i)⟩
 case round=>
  obtain⟨k,Q,rfl,f,A⟩:=hrel;have x:=hqz A;clear A;by_cases u:k<n
  ·obtain⟨b,o,g,m,e,G,J,I⟩:=ha k (by rw[y.o];exact u);subst e;have M:=cLz f G;have N:=cLz f I;have R:(0:Int)<=(k:Int):=Ϝ;have S:(k:Int)<(n:Int):=Ϝ;have j:Ϛ (∀c,ϛ wr c->CT d (#[vI (k:Nat),.agg #[vS g (l.getD k ϰ).r.length m,vI (l.getD k ϰ).n]]++p) c (θ c (.bool (P k)))):=λc C=>K.o k c g m (by rw[y.o];exact u) (bT f C) (Ac J (bT f C));clear G I J ha;obtain⟨T,E⟩:=nM ((l.getD k ϰ).n);obtain⟨V,F⟩:=nM ((l.getD k ϰ).r.length);rw[E]at N j;rw[F]at M j;clear E F;have D:=f.size
   cases hp:P k with
   |true=>
    rw[hp]at j;go_wp2_with (go_at_fn d;refine(j.o _ ϧ).mono ?_;rintro e c ⟨rfl,s⟩;have t:=(f.alloc D _).trans (s.mono ϡ));go_roundw
    case rel=>exact⟨k+1,Ϝ,by go_num,t,λi q=>by
     rcases Nat.lt_succ_iff_lt_or_eq.1 q with h|h
     ·exact x.o i h
     ·rw[h];exact hp⟩
    case measure=>simp[intOf];omega
   |false=>
    have r:Ϛ (allB n P=false):=Ez u hp;rw[hp]at j;go_wp2_with (go_at_fn d;refine(j.o _ ϧ).mono ?_;rintro e c ⟨rfl,s⟩;have t:=(f.alloc D _).trans (s.mono ϡ));go_ret;exact⟨Aa r.o.symm,t⟩
  ·have r:Ϛ (allB n P=true):=AQ.2 (λi q=>x.o i Ϝ);go_wp2;go_ret;exact⟨Aa r.o.symm,f⟩
theorem Yj(i m:Int)(j f:ϙ)(c k a g d:Nat)(w:Ϙ)(h:Δ w d 0 (vS f a g)):
 η 175 #[vI i,.agg #[vS j c k,vI m],μ d] w (θ w (.bool (decide (c=a)))):=by
 have l:d<w.heap.size:=bLt _ _ h;have e:Ϛ (((c:Int)==(a:Int))=decide (c=a)):=by
  show((c:Int)==(a:Int))=_;rw[Bool.eq_iff_iff];simp;omega
 go_enter func175,ntmps175;go_wp2;go_ret;exact⟨Aa e.o,ϧ⟩
theorem Yk(i m:Int)(j d:ϙ)(u l c:Nat)(r:List Cel)(a:List Int)(w:Ϙ)(o:Δ w c 0 (vS d a.length l))(s:vl.rowAt w j r)(t:r.length<=χ)(q:A8 w d a)(p:a.length<=χ):
 η 176 #[vI i,.agg #[vS j r.length u,vI m],μ c] w (θ w (.bool (EH r a))):=by
 have y:c<w.heap.size:=bLt _ _ o;have K:=hIz (λ(k:Ϙ) (n:ϛ w k)=>Nu j d u l r a k t p (Ac s n) (Av q n));obtain⟨z,f⟩:=nM r.length;obtain⟨x,g⟩:=nM a.length;obtain⟨A,h⟩:=nM (EH r a);rw[f,g,h]at K;rw[g]at o;rw[f,h];clear f g h s q t p;go_enter func176,ntmps176;go_wp2_with (go_at_call 177;refine(K.o _ ϧ).mono ?_;rintro e k ⟨rfl,v⟩);go_ret;exact⟨rfl,ϧ.trans (v.mono Ϟ)⟩
def S7(cs:List Int)(v:List ch.Cnt):Bool:=allB v.length (λi=>decide ((v.getD i ϰ).r.length=cs.length))
def Yl(cs:List Int)(v:List ch.Cnt):Bool:=allB v.length (λi=>EH (v.getD i ϰ).r cs)
def Gs(cs:List Int)(v:List ch.Cnt):Int:=if S7 cs v=false then 2 else if Yl cs v=false then 5 else 0
theorem MI(a h:ϙ)(l j:Nat)(v:List ch.Cnt)(c:List Int)(w:Ϙ)(z:v.length<=χ)(C:ch.viewAt w a v)(N:ch.Cd v)(I:A8 w h c)(H:c.length<=χ):
 η 106 #[vS a v.length l,vS h c.length j] w (θ w (vI (Gs c v))):=by
 have s:Ϛ (∀f d,ϛ w d->Δ d f 0 (vS h c.length j)->CT 174 #[vS a v.length l,.func (.func 175) #[] #[μ f]] d (θ d (.bool (S7 c v)))):=λf d q x=>
  I4 175 (enters_of func175 ϟ rfl) #[μ f] (λi=>decide ((v.getD i ϰ).r.length=c.length)) a l v d z (ch.BJ C q) (λi F D E J r L=>Yj i _ D h _ E _ j f F (cLz r x))
 have t:Ϛ (∀f d,ϛ w d->Δ d f 0 (vS h c.length j)->CT 174 #[vS a v.length l,.func (.func 176) #[] #[μ f]] d (θ d (.bool (Yl c v)))):=λf d q x=>
  I4 176 (enters_of func176 ϟ rfl) #[μ f] (λi=>EH (v.getD i ϰ).r c) a l v d z (ch.BJ C q) (λi F D E J r L=>Yk i _ D h E j f _ _ F (cLz r x) L (ch.Ke N i J).2.1 (Av (Av I q) r) H)
 have g:Ϛ (Gs c v=if S7 c v=false then 2 else if Yl c v=false then 5 else 0):=rfl;obtain⟨p,m⟩:=nM (Gs c v);obtain⟨R,K⟩:=nM (S7 c v);obtain⟨O,M⟩:=nM (Yl c v);obtain⟨P,y⟩:=nM c.length;obtain⟨T,A⟩:∃n,v.length=n:=⟨_,rfl⟩;rw[m]at g⊢;rw[K]at s g;rw[M]at t g;rw[y,A]at s t;rw[y,A];clear m K M y A z C N I H;go_enter func106,ntmps106;go_wp2_with fail;refine(s.o _ _ ϧ Ϡ).mono ?_;rintro e w4 ⟨rfl,G⟩;have u:=ϧ.trans (G.mono Ϟ);have S:Δ w4 w 0 (vS h P j):=cLz G Ϡ
 cases R with
 |false=>
  have k:Ϛ (p=2):=by rw[g.o];show(if _ then _ else _)=_;simp
  clear g;go_wp2;go_ret;exact⟨Am k.o.symm,u⟩
 |true=>
  have o:Ϛ (p=if O=false then 5 else 0):=by rw[g.o];show(if _ then _ else _)=_;simp
  clear g;go_wp2_with fail;refine(t.o _ _ u S).mono ?_;rintro e V ⟨rfl,Q⟩;have m:=bT u Q
  cases O with
  |false=>
   have k:Ϛ (p=5):=by rw[o.o];show(if _ then _ else _)=_;simp
   clear o;go_wp2;go_ret;exact⟨Am k.o.symm,m⟩
  |true=>
   have k:Ϛ (p=0):=by rw[o.o];show(if _ then _ else _)=_;simp
   clear o;go_wp2;go_ret;exact⟨Am k.o.symm,m⟩
end bt
namespace jn
open vl
variable {U W : Ϙ} {B b : Nat}
structure Eng where
 j:Jn
 v:List ch.Cnt
structure EX where
 y:JX
 va:Option Addr
 vc:Nat
def enV(e:Eng)(x:EX):Value:=.agg #[vI e.j.L.lim,vS x.y.l.m.1.1 x.y.l.m.1.2.1 x.y.l.m.1.2.2,vS x.y.l.ra x.y.l.rs.length x.y.l.rc,vI e.j.R.lim,vS x.y.r.m.1.1 x.y.r.m.1.2.1 x.y.r.m.1.2.2,vS x.y.r.ra x.y.r.rs.length x.y.r.rc,vI e.j.lm,vI e.j.rm,vI e.j.seq,ψ,vS x.va e.v.length x.vc]
structure enAt(w:World)(e:Eng)(x:EX):Prop where
 j:joinAt w e.j x.y
 v:ch.viewAt w x.va e.v
theorem enAt.below{w c:Ϙ}{e:Eng}{x:EX}(h:enAt w e x)(a:ϛ w c):enAt c e x:=⟨h.j.below a,ch.BJ h.v a⟩
structure wfEn(e:Eng):Prop where
 j:wfJ e.j
 v:ch.Cd e.v
 n:e.v.length<=χ
noncomputable def CV(p:pl.Pln)(e:Eng):Int:=if Bh p e.j≠0 then Bh p e.j else if ch.A4 e.v≠0 then ch.A4 e.v else bt.Gs (pl.FM p) e.v
def Bn(U:World)(b:Nat)(e:Eng)(x:EX):Prop:=Δ U b 0 (vI e.j.L.lim)/\Δ U b 1 (vS x.y.l.m.1.1 x.y.l.m.1.2.1 x.y.l.m.1.2.2)/\Δ U b 2 (vS x.y.l.ra x.y.l.rs.length x.y.l.rc)/\Δ U b 3 (vI e.j.R.lim)/\Δ U b 4 (vS x.y.r.m.1.1 x.y.r.m.1.2.1 x.y.r.m.1.2.2)/\Δ U b 5 (vS x.y.r.ra x.y.r.rs.length x.y.r.rc)/\Δ U b 6 (vI e.j.lm)/\Δ U b 7 (vI e.j.rm)/\Δ U b 8 (vI e.j.seq)/\Δ U b 9 (vS none 0 0)/\Δ U b 10 (vS x.va e.v.length x.vc)
theorem Cg(w:Ϙ)(e:Eng)(x:EX)(t:TypeId):Bn (ξ w #[vI e.j.L.lim,vS x.y.l.m.1.1 x.y.l.m.1.2.1 x.y.l.m.1.2.2,vS x.y.l.ra x.y.l.rs.length x.y.l.rc,vI e.j.R.lim,vS x.y.r.m.1.1 x.y.r.m.1.2.1 x.y.r.m.1.2.2,vS x.y.r.ra x.y.r.rs.length x.y.r.rc,vI e.j.lm,vI e.j.rm,vI e.j.seq,ψ,vS x.va e.v.length x.vc] t) w.heap.size e x:=by
 unfold Bn;refine⟨?_,?_,?_,?_,?_,?_,?_,?_,?_,?_,?_⟩<;>go_simp
theorem AH{c:Ϙ}{e:Eng}{x:EX}(h:Bn U b e x)(a:ϛ U c):Bn c b e x:=by
 obtain⟨d,f,i,j,k,l,m,n,o,p,g⟩:=h;exact⟨cLz a d,cLz a f,cLz a i,cLz a j,cLz a k,cLz a l,cLz a m,cLz a n,cLz a o,cLz a p,cLz a g⟩
theorem Ln{e:Eng}{x:EX}(h:Bn U b e x):b<U.heap.size:=bLt _ _ h.1
def DL(W:World)(B:Nat):Prop:=W.there B 0 11
theorem E9(w:Ϙ):DL (ξ w #[ω,ψ,ψ,ω,ψ,ψ,ω,ω,ω,ψ,ψ] 42) w.heap.size:=by
 intro j a
 match j,a with
 |0,_=>exact⟨Ϡ,Ϡ⟩
 |1,_=>exact⟨Ϡ,Ϡ⟩
 |2,_=>exact⟨Ϡ,Ϡ⟩
 |3,_=>exact⟨Ϡ,Ϡ⟩
 |4,_=>exact⟨Ϡ,Ϡ⟩
 |5,_=>exact⟨Ϡ,Ϡ⟩
 |6,_=>exact⟨Ϡ,Ϡ⟩
 |7,_=>exact⟨Ϡ,Ϡ⟩
 |8,_=>exact⟨Ϡ,Ϡ⟩
 |9,_=>exact⟨Ϡ,Ϡ⟩
 |10,_=>exact⟨Ϡ,Ϡ⟩
theorem Be{a:Ϙ}(h:DL W B)(c:ϛ W a):DL a B:=Bz h c
theorem NV(h:DL W B):B<W.heap.size:=PO h ϝ
theorem Fu:(Tryz.prog.info? 42).map (·.size)=some 11:=ϟ
theorem D3(h:DL W B){l:List Value}(a:l.length=11):(W.setCells B 0 l).rangeAt B 0 l:=World.rangeAt_setCells_same W B 0 l (by rw[a];exact h)
def e0:Eng:=⟨j0,[]⟩
def ex0:EX:=⟨jx0,none,0⟩
theorem Cq(e:Eng)(x:EX):enV e x= .agg #[vI e.j.L.lim,vS x.y.l.m.1.1 x.y.l.m.1.2.1 x.y.l.m.1.2.2,vS x.y.l.ra x.y.l.rs.length x.y.l.rc,vI e.j.R.lim,vS x.y.r.m.1.1 x.y.r.m.1.2.1 x.y.r.m.1.2.2,vS x.y.r.ra x.y.r.rs.length x.y.r.rc,vI e.j.lm,vI e.j.rm,vI e.j.seq,ψ,vS x.va e.v.length x.vc]:=rfl
end jn
end Go.Proofs.YtfkihidbnfkbaaaGreatDoor
