import Derived.Laws.AppendOwnNone
import Derived.Test.YtfkihidbnfkbaaaGreatDoorPb14
import Derived.Test.YtfkihidbnfkbaaaGreatDoorPb12
set_option linter.all false
set_option maxHeartbeats 16000000
set_option maxRecDepth 100000
open Go.ChangeShapes Go.WideShapes Go.ChangeAt Go.RowKit Go.Maps Go.WideMaps Go.Sort List
open Inhabited renaming default->ϰ
namespace Go.Proofs.YtfkihidbnfkbaaaGreatDoor
open Go.Proofs.Tryz
namespace ch
open vl
theorem ZP:(Tryz.prog.info? 217).map (λi=>(i.zero,i.size,i.bytes))=some (some (.agg #[ω,ψ]),2,32):=Ϡ
def Bi(l:List (Int×Value)):List Value:=l.flatMap λp=>[vI p.1,p.2]
theorem Xr(l:List (Int×Value)):(Bi l).length=l.length * 2:=by
 induction l with
 |nil=>rfl
 |cons c r ih=>show([_,_]++Bi r).length=_;rw[lAp,ih,length_cons];simp;omega
theorem TH(l:List (Int×Value))(n:Int)(x:Value):Bi (l++[(n,x)])=Bi l++[vI n,x]:=by
 unfold Bi;rw[flatMap_append];simp
theorem RH(l:List (Int×Value))(i:Nat)(b:i<l.length):(Bi l)[i * 2]? =some (vI (l.getD i (0,.bool false)).1)/\(Bi l)[i * 2+1]? =some (l.getD i (0,.bool false)).2:=by
 induction l generalizing i with
 |nil=>exact absurd b (Nat.not_lt_zero i)
 |cons p r ih=>
  have e:Bi (p::r)=vI p.1::p.2::Bi r:=rfl;rw[e]
  cases i with
  |zero=>exact⟨rfl,rfl⟩
  |succ i=>
   have:=ih i (by simpa using b);rw[show(i+1) * 2=i * 2+1+1 by omega];simpa using this
end ch
namespace ch
open vl
theorem OJ(p q:List (Int×Value)):Bi (p++q)=Bi p++Bi q:=by unfold Bi;rw[flatMap_append]
theorem Xs{p:List (Int×Value)}(h:∀x∈p,x.2.oneCell'=true):∀u∈Bi p,u.oneCell'=true:=by
 intro u b;unfold Bi at b;obtain⟨x,c,b⟩:=mem_flatMap.1 b;simp at b;rcases b with rfl|rfl
 ·rfl
 ·exact h x c
end ch
namespace ch
open vl
end ch
namespace bt
open vl
variable {w w' w2 : ϙ} {base : Nat}
structure Own1 where
 v:Value
 e:TypeId
 s:Nat
 n:Nat
 xs:List Value
def Own1.here(x:Own1)(w:World)(base:Nat):Prop:=w.ownsRow base x.e x.s x.v x.n x.xs
def apart(x y:Own1):Prop:=∀g,x.v.ownBlock=some g->y.v.ownBlock≠some g
theorem TI{x y:Own1}(h:apart x y):apart y x:=λg b c=>h g c b
structure Est(w:World)(base:Nat)(E:List Own1):Prop where
 low:base<=w.heap.size
 own:∀x∈E,x.here w base
 two:E.Pairwise apart
theorem Gk{E b:List Own1}(h:Est w base E)(c:E.Perm b):Est w base b:=
 ⟨h.low,λx d=>h.own x (c.mem_iff.2 d),c.pairwise h.two (λh=>TI h)⟩
theorem Gl{E:List Own1}(h:Est w base E)(b:Ϝ w w'):Est w' base E:=
 ⟨Nat.le_trans h.low b.size,λx c=>ch.own_below (h.own x c) b,h.two⟩
theorem Xt{x x':Own1}{E:List Own1}(h:Est w base (x::E))(m:w.heap.size<=w2.heap.size)(l:∀b,b<w.heap.size->x.v.ownBlock≠some b->w2.heap[b]? =w.heap[b]?)(n:x'.here w2 base)
 (j:∀g,x'.v.ownBlock=some g->x.v.ownBlock=some g\/w.heap.size<=g):Est w2 base (x'::E):=by
 have d:=pairwise_cons.1 h.two;refine⟨Nat.le_trans h.low m,λy hy=>?_,pairwise_cons.2 ⟨λy hy g c=>?_,d.2⟩⟩
 ·rcases mem_cons.1 hy with rfl|hy
  ·exact n
  ·have i:=h.own y (mem_cons_of_mem _ hy);exact ch.A4 i (λg c=>l g (ch.AE i c).2 (λe=>d.1 y hy g e c))
 ·rcases j g c with f|f
  ·exact d.1 y hy g f
  ·intro e;have:=(ch.AE (h.own y (mem_cons_of_mem _ hy)) e).2;omega
theorem RI{x x':Own1}{E:List Own1}(h:Est w base (x::E))(c:w.grownBy w2 x.v.ownBlock)(j:x'.here w2 base)(d:∀g,x'.v.ownBlock=some g->x.v.ownBlock=some g\/w.heap.size<=g):Est w2 base (x'::E):=
 Xt h c.size (λb f i=>c.block b f (λe=>i e.symm)) j d
theorem PY{x:Own1}{E:List Own1}(h:Est w base E)(c:Ϝ w w')(i:x.here w' base)(f:∀g,x.v.ownBlock=some g->w.heap.size<=g):Est w' base (x::E):=by
 have b:=Gl h c;refine⟨b.low,λy hy=>?_,pairwise_cons.2 ⟨λy hy g d e=>?_,h.two⟩⟩
 ·rcases mem_cons.1 hy with rfl|hy
  ·exact i
  ·exact b.own y hy
 ·have:=(ch.AE (h.own y hy) e).2;have:=f g d;omega
end bt
namespace bt
open vl pl
theorem ZQ{p:Pln}(h:Ag p=0):p.left.length<=4/\p.right.length<=4:=by
 have b:=(Bf h).2.2.1;exact⟨b.1.1.2,b.1.2.1.2⟩
end bt
namespace bt
open vl pl
variable {w : ϙ}
theorem JY(d:FuncId)(O:∀A w,(callFunc d A).run Tryz.prog w= .ok (.enter d A) w)(q:Array Value)(P:Nat->Bool)(a:Ϛ)(cap:Nat)(l:List ch.Cnt)(w:ϙ)(L:l.length<=χ)(ha:ch.viewAt w a l)
 (H:∀i c g m,i<l.length->Ϝ w c->vl.rowAt c g (l.getD i ϰ).r->Calls Tryz.prog d (#[vI (i:Nat),.agg #[vS g (l.getD i ϰ).r.length m,vI (l.getD i ϰ).n]]++q) c (θ c (.bool (P i)))):
 η 174 #[vS a l.length cap,.func (.func d) #[] q] w (θ w (.bool (allB l.length P))):=by
 have K:ϛ (∀i c g m,i<l.length->Ϝ w c->vl.rowAt c g (l.getD i ϰ).r->CT d (#[vI (i:Nat),.agg #[vS g (l.getD i ϰ).r.length m,vI (l.getD i ϰ).n]]++q) c (θ c (.bool (P i)))):=H;clear H;obtain⟨n,x⟩:∃n,l.length=n:=⟨_,rfl⟩;have z:=hqz x;rw[x]at L⊢;clear x;go_enter func174,ntmps174;go_wp2
 go_loopw [9] (λi wr=> ∃k:Nat,k<=n/\i=vI k/\Ϝ w wr/\∀i,i<k->P i=true) (λi _=>n - (intOf i).toNat)
 case atStart=>exact⟨0,Nat.zero_le _,rfl,bR,λi r=>absurd r (Nat.not_lt_zero i)⟩
 case round=>
  obtain⟨k,Q,rfl,f,B⟩:=hrel;have y:=hqz B;clear B;by_cases v:k<n
  ·obtain⟨b,o,g,m,e,G,J,I⟩:=ha k (by rw[z.o];exact v);subst e;have M:=cLz f G;have N:=cLz f I;have R:(0:Int)<=(k:Int):=ϝ;have S:(k:Int)<(n:Int):=ϝ;have j:ϛ (∀c,Ϝ wr c->CT d (#[vI (k:Nat),.agg #[vS g (l.getD k ϰ).r.length m,vI (l.getD k ϰ).n]]++q) c (θ c (.bool (P k)))):=λc C=>K.o k c g m (by rw[z.o];exact v) (bT f C) (Ab J (bT f C));clear G I J ha;obtain⟨T,E⟩:=nM ((l.getD k ϰ).n);obtain⟨U,F⟩:=nM ((l.getD k ϰ).r.length);rw[E]at N j;rw[F]at M j;clear E F;have D:=f.size
   cases hp:P k with
   |true=>
    rw[hp]at j;go_wp2_with (go_at_fn d;refine(j.o _ Ϩ).mono ?_;rintro e c ⟨rfl,t⟩;have u:=(f.alloc D _).trans (t.mono Ϣ));go_roundw
    case rel=>exact⟨k+1,ϝ,by go_num,u,λi r=>by
     rcases Nat.lt_succ_iff_lt_or_eq.1 r with h|h
     ·exact y.o i h
     ·rw[h];exact hp⟩
    case measure=>simp[intOf];omega
   |false=>
    have s:ϛ (allB n P=false):=DW v hp;rw[hp]at j;go_wp2_with (go_at_fn d;refine(j.o _ Ϩ).mono ?_;rintro e c ⟨rfl,t⟩;have u:=(f.alloc D _).trans (t.mono Ϣ));go_ret;exact⟨Aa s.o.symm,u⟩
  ·have s:ϛ (allB n P=true):=A9.2 (λi r=>y.o i ϝ);go_wp2;go_ret;exact⟨Aa s.o.symm,f⟩
theorem AbS(i m:Int)(j f:Ϛ)(c l b g d:Nat)(w:ϙ)(h:Δ w d 0 (vS f b g)):
 η 175 #[vI i,.agg #[vS j c l,vI m],μ d] w (θ w (.bool (decide (c=b)))):=by
 have n:d<w.heap.size:=bLt _ _ h;have e:ϛ (((c:Int)==(b:Int))=decide (c=b)):=by
  show((c:Int)==(b:Int))=_;rw[Bool.eq_iff_iff];simp;omega
 go_enter func175,ntmps175;go_wp2;go_ret;exact⟨Aa e.o,Ϩ⟩
theorem AbT(i m:Int)(j d:Ϛ)(x n c:Nat)(r:List Cel)(b:List Int)(w:ϙ)(q:Δ w c 0 (vS d b.length n))(u:vl.rowAt w j r)(v:r.length<=χ)(t:Ay w d b)(s:b.length<=χ):
 η 176 #[vI i,.agg #[vS j r.length x,vI m],μ c] w (θ w (.bool (DZ r b))):=by
 have A:c<w.heap.size:=bLt _ _ q;have K:=hIz (λ(l:ϙ) (o:Ϝ w l)=>KX j d x n r b l v s (Ab u o) (Ao t o));obtain⟨B,f⟩:=nM r.length;obtain⟨z,g⟩:=nM b.length;obtain⟨C,h⟩:=nM (DZ r b);rw[f,g,h]at K;rw[g]at q;rw[f,h];clear f g h u t v s;go_enter func176,ntmps176;go_wp2_with (go_at_call 177;refine(K.o _ Ϩ).mono ?_;rintro e l ⟨rfl,y⟩);go_ret;exact⟨rfl,Ϩ.trans (y.mono ϟ)⟩
def UZ(cs:List Int)(v:List ch.Cnt):Bool:=allB v.length (λi=>decide ((v.getD i ϰ).r.length=cs.length))
def AbU(cs:List Int)(v:List ch.Cnt):Bool:=allB v.length (λi=>DZ (v.getD i ϰ).r cs)
def Ej(cs:List Int)(v:List ch.Cnt):Int:=if UZ cs v=false then 2 else if AbU cs v=false then 5 else 0
theorem IH(a g:Ϛ)(l h:Nat)(v:List ch.Cnt)(b:List Int)(w:ϙ)(A:v.length<=χ)(C:ch.viewAt w a v)(M:ch.BJ v)(H:Ay w g b)(G:b.length<=χ):
 η 106 #[vS a v.length l,vS g b.length h] w (θ w (vI (Ej b v))):=by
 have t:ϛ (∀d c,Ϝ w c->Δ c d 0 (vS g b.length h)->CT 174 #[vS a v.length l,.func (.func 175) #[] #[μ d]] c (θ c (.bool (UZ b v)))):=λd c r y=>
  JY 175 (enters_of func175 Ϡ rfl) #[μ d] (λi=>decide ((v.getD i ϰ).r.length=b.length)) a l v c A (ch.Bg C r) (λi w2 D E I s K=>AbS i _ D g _ E _ h d w2 (cLz s y))
 have u:ϛ (∀d c,Ϝ w c->Δ c d 0 (vS g b.length h)->CT 174 #[vS a v.length l,.func (.func 176) #[] #[μ d]] c (θ c (.bool (AbU b v)))):=λd c r y=>
  JY 176 (enters_of func176 Ϡ rfl) #[μ d] (λi=>DZ (v.getD i ϰ).r b) a l v c A (ch.Bg C r) (λi w2 D E I s K=>AbT i _ D g E h d _ _ w2 (cLz s y) K (ch.Kx M i I).2.1 (Ao (Ao H r) s) G)
 have f:ϛ (Ej b v=if UZ b v=false then 2 else if AbU b v=false then 5 else 0):=rfl;obtain⟨q,m⟩:=nM (Ej b v);obtain⟨Q,J⟩:=nM (UZ b v);obtain⟨N,L⟩:=nM (AbU b v);obtain⟨O,z⟩:=nM b.length;obtain⟨S,B⟩:∃n,v.length=n:=⟨_,rfl⟩;rw[m]at f⊢;rw[J]at t f;rw[L]at u f;rw[z,B]at t u;rw[z,B];clear m J L z B A C M H G;go_enter func106,ntmps106;go_wp2_with fail;refine(t.o _ _ Ϩ ϡ).mono ?_;rintro e w4 ⟨rfl,F⟩;have x:=Ϩ.trans (F.mono ϟ);have R:Δ w4 w 0 (vS g O h):=cLz F ϡ
 cases Q with
 |false=>
  have j:ϛ (q=2):=by rw[f.o];show(if _ then _ else _)=_;simp
  clear f;go_wp2;go_ret;exact⟨Aj j.o.symm,x⟩
 |true=>
  have o:ϛ (q=if N=false then 5 else 0):=by rw[f.o];show(if _ then _ else _)=_;simp
  clear f;go_wp2_with fail;refine(u.o _ _ x R).mono ?_;rintro e T ⟨rfl,P⟩;have m:=bT x P
  cases N with
  |false=>
   have j:ϛ (q=5):=by rw[o.o];show(if _ then _ else _)=_;simp
   clear o;go_wp2;go_ret;exact⟨Aj j.o.symm,m⟩
  |true=>
   have j:ϛ (q=0):=by rw[o.o];show(if _ then _ else _)=_;simp
   clear o;go_wp2;go_ret;exact⟨Aj j.o.symm,m⟩
def ZR(c:Cel):Value:=.agg #[vI c.k,vI c.n,.string c.s]
abbrev Tal:=Cel×Int
def EV(w:World)(a:Option Addr)(l:List Tal):Prop:=∀i,i<l.length->∃b o,a=some ⟨b,o,none⟩/\Δ w b (o+i * 4) (vI (l.getD i ϰ).1.k)/\Δ w b (o+i * 4+1) (vI (l.getD i ϰ).1.n)/\Δ w b (o+i * 4+2) (.string (l.getD i ϰ).1.s)/\Δ w b (o+i * 4+3) (vI (l.getD i ϰ).2)
theorem Hy{w':ϙ}{a:Ϛ}{l:List Tal}(h:EV w a l)(c:Ϝ w w'):EV w' a l:=λi d=>by
 obtain⟨b,o,e,f,g,j,m⟩:=h i d;exact⟨b,o,e,cLz c f,cLz c g,cLz c j,cLz c m⟩
def Fv(l:List Tal):List Value:=l.flatMap λt=>[vI t.1.k,vI t.1.n,.string t.1.s,vI t.2]
theorem L4:∀(l:List Tal) (i:Nat),i<l.length->(Fv l)[i * 4]? =some (vI (l.getD i ϰ).1.k)/\(Fv l)[i * 4+1]? =some (vI (l.getD i ϰ).1.n)/\(Fv l)[i * 4+2]? =some (.string (l.getD i ϰ).1.s)/\(Fv l)[i * 4+3]? =some (vI (l.getD i ϰ).2)
 |[],i,h=>absurd h (Nat.not_lt_zero i)
 |t::l,0,_=>⟨rfl,rfl,rfl,rfl⟩
 |t::l,i+1,h=>by
  have c:=L4 l i (by simpa using h);have b:Fv (t::l)=vI t.1.k::vI t.1.n:: .string t.1.s::vI t.2::Fv l:=rfl;rw[b,show(i+1) * 4=i * 4+1+1+1+1 by omega,show i * 4+1+1+1+1+1=(i * 4+1)+1+1+1+1 by omega,show i * 4+1+1+1+1+2=(i * 4+2)+1+1+1+1 by omega,show i * 4+1+1+1+1+3=(i * 4+3)+1+1+1+1 by omega];simp only[getElem?_cons_succ,getD_cons_succ];exact c
def AbV(w:World)(base:Nat)(v:Value)(l:List Tal):Prop:=w.ownsRow base 121 4 v l.length (Fv l)
theorem AbW{base:Nat}{ad:Ϛ}{n cap:Nat}{l:List Tal}(h:AbV w base (vS ad n cap) l):EV w ad l/\n=l.length:=by
 obtain⟨r,s,f,c⟩:=Ce h;injection f with ha e b
 subst ha b;refine⟨λi d=>?_,e⟩;obtain⟨g,rfl⟩:=c ϝ;obtain⟨j,m,o,q⟩:=L4 l i d;refine⟨g,0,rfl,?_,?_,?_,?_⟩
 ·have:=World.ownsRow.cells h (g:=g) rfl _ _ j;rwa[GA]at this
 ·have:=World.ownsRow.cells h (g:=g) rfl _ _ m;rw[GA]at this;rw[Nat.add_assoc];exact this
 ·have:=World.ownsRow.cells h (g:=g) rfl _ _ o;rw[GA]at this;rw[Nat.add_assoc];exact this
 ·have:=World.ownsRow.cells h (g:=g) rfl _ _ q;rw[GA]at this;rw[Nat.add_assoc];exact this
theorem Aex:(Tryz.prog.info? 121).map (λi=>(i.zero,i.size,i.bytes))=some (some (.agg #[ω,ω,ϊ,ω]),4,40):=Ϡ
end bt
namespace gr
open vl pl bt
variable {w w' : ϙ} {a : Ϛ} {col rest : Int} {k : Nat}
structure Grp where
 row:List Cel
 n:Int
 bags:List (List Tal)
instance:Inhabited Grp:=⟨⟨[],0,[]⟩⟩
structure GX where
 r:Option Addr
 rc:Nat
 b:Option Addr
 bc:Nat
 hs:List (Option Addr×Nat×Nat)
instance:Inhabited GX:=⟨⟨none,0,none,0,[]⟩⟩
def Hz(x:GX)(g:Grp):Value:=.agg #[vS x.r g.row.length x.rc,vI g.n,vS x.b g.bags.length x.bc]
structure gAt(w:World)(x:GX)(g:Grp):Prop where
 row:vl.rowAt w x.r g.row
 hs:IU w x.b x.hs
 len:x.hs.length=g.bags.length
 hl:∀i,i<g.bags.length->(x.hs.getD i (none,0,0)).2.1=(g.bags.getD i []).length
 bag:∀i,i<g.bags.length->EV w (x.hs.getD i (none,0,0)).1 (g.bags.getD i [])
theorem RJ{r:List Cel}(h:vl.rowAt w a r)(b:Ϝ w w'):vl.rowAt w' a r:=vl.Ab h b
theorem JZ{l:List (Option Addr×Nat×Nat)}(h:IU w a l)(c:Ϝ w w'):IU w' a l:=λi d=>by
 obtain⟨b,o,e,x⟩:=h i d;exact⟨b,o,e,cLz c x⟩
theorem gAt.below{x:GX}{g:Grp}(h:gAt w x g)(b:Ϝ w w'):gAt w' x g:=
 ⟨RJ h.row b,JZ h.hs b,h.len,h.hl,λi c=>Hy (h.bag i c) b⟩
structure gsAt(w:World)(a:Option Addr)(xs:List GX)(gs:List Grp):Prop where
 len:xs.length=gs.length
 cells:∀i,i<gs.length->∃b o,a=some ⟨b,o,none⟩/\Δ w b (o+i * 3) (vS (xs.getD i ϰ).r (gs.getD i ϰ).row.length (xs.getD i ϰ).rc)/\Δ w b (o+i * 3+1) (vI (gs.getD i ϰ).n)/\Δ w b (o+i * 3+2) (vS (xs.getD i ϰ).b (gs.getD i ϰ).bags.length (xs.getD i ϰ).bc)
 each:∀i,i<gs.length->gAt w (xs.getD i ϰ) (gs.getD i ϰ)
theorem gsAt.below{g:List GX}{f:List Grp}(h:gsAt w a g f)(c:Ϝ w w'):gsAt w' a g f:=
 ⟨h.len,λi d=>by
  obtain⟨b,o,e,j,l,m⟩:=h.cells i d;exact⟨b,o,e,cLz c j,cLz c l,cLz c m⟩,λi d=>(h.each i d).below c⟩
structure wfG(g:Grp):Prop where
 row:B9 g.row
 rl:g.row.length<=χ
 n:i64 g.n
 bl:g.bags.length<=χ
 tl:∀l∈g.bags,l.length<=χ/\∀t∈l,t.1.s.size<=maxLen/\i64 t.1.n/\i64 t.2
def PZ(c:Cel)(col:Int):Bool:=decide (chk c.k c.n c.s=0)&&(decide (c.k=0)||decide (c.k=col))
def Lg(col rest:Int)(prev:Option Cel)(t:Tal):Bool:=PZ t.1 col&&decide (1<=t.2)&&decide (t.2<=rest)&&(match prev with|none=>true|some c=>decide (Gm c t.1<0))
def Dq(col:Int):Int->Option Cel->List Tal->Bool
 |rest,_,[]=>decide (rest=0)
 |rest,prev,t::l=>Lg col rest prev t&&Dq col (rest - t.2) (some t.1) l
def CI(l:List Tal)(k:Nat):Option Cel:=if k=0 then none else some (l.getD (k - 1) ϰ).1
theorem OM{l:List Tal}(h:k<l.length):Dq col rest (CI l k) (l.drop k)=(Lg col rest (CI l k) (l.getD k ϰ)&&Dq col (rest - (l.getD k ϰ).2) (CI l (k+1)) (l.drop (k+1))):=by
 have e:l.drop k=l.getD k ϰ::l.drop (k+1):=by
  rw[drop_eq_getElem_cons h,gDe,gEe h];rfl
 rw[e,Dq];unfold CI;simp
theorem ZS{l:List Tal}(h:l.length<=k):Dq col rest (CI l k) (l.drop k)=decide (rest=0):=by
 rw[drop_of_length_le h,Dq]
def Qa(c:List Int)(a:Int×Int)(n:Int)(l:List Tal):Bool:=if a.1=1 then decide (l.length=0)else Dq (c.getD a.2.toNat 0) n none l
def Ka(c:List Int)(aggs:List (Int×Int))(g:Grp):Bool:=decide (g.bags.length=aggs.length)&&allB g.bags.length (λi=>Qa c (aggs.getD i (0,0)) g.n (g.bags.getD i []))
def BF(p:Pln):List Int:=p.group.map λat1=>(Bb p).getD at1.toNat 0
def Ji(p:Pln)(gs:List Grp)(i:Nat):Bool:=
 decide (A5 (gs.getD i ϰ).row=0)&&DZ (gs.getD i ϰ).row (BF p)&&(decide (1<=(gs.getD i ϰ).n)&&decide ((gs.getD i ϰ).n<=1073741824))&&(decide (i=0)||decide (AX (gs.getD (i - 1) ϰ).row (gs.getD i ϰ).row<0))&&Ka (Bb p) p.aggs (gs.getD i ϰ)
noncomputable def FC(p:Pln)(gs:List Grp):Int:=if Ag p≠0 then Ag p else if p.grouped=false then 1 else if 4096<gs.length then 2 else if allB gs.length (Ji p gs)=false then 1 else 0
theorem Qb(f:FuncId)(eg:∀M w,(callFunc f M).run Tryz.prog w= .ok (.enter f M) w)(m:Array Value)(P:Nat->Bool)(a:Ϛ)(cap:Nat)(j:List GX)(l:List Grp)(w:ϙ)(Z:l.length<=χ)(ha:gsAt w a j l)
 (H:∀i c,i<l.length->Ϝ w c->Calls Tryz.prog f (#[vI (i:Nat),(Hz (j.getD i ϰ) (l.getD i ϰ))]++m) c (θ c (.bool (P i)))):
 η 238 #[vS a l.length cap,.func (.func f) #[] m] w (θ w (.bool (allB l.length P))):=by
 have X:ϛ (∀i c,i<l.length->Ϝ w c->CT f (#[vI (i:Nat),(Hz (j.getD i ϰ) (l.getD i ϰ))]++m) c (θ c (.bool (P i)))):=H;clear H;obtain⟨n,x⟩:∃n,l.length=n:=⟨_,rfl⟩;have L:=hqz x;rw[x]at Z⊢;clear x;go_enter func238,ntmps238;go_wp2
 go_loopw [9] (λi wr=> ∃k:Nat,k<=n/\i=vI k/\Ϝ w wr/\∀i,i<k->P i=true) (λi _=>n - (intOf i).toNat)
 case atStart=>exact⟨0,Nat.zero_le _,rfl,bR,λi q=>absurd q (Nat.not_lt_zero i)⟩
 case round=>
  obtain⟨k,hk,rfl,g,N⟩:=hrel;have K:=hqz N;clear N;by_cases u:k<n
  ·obtain⟨b,o,e,U,V,W⟩:=ha.cells k (by rw[L.o];exact u);subst e;have I:=cLz g U;have T:=cLz g V;have J:=cLz g W;clear U V W ha;have i1:(0:Int)<=(k:Int):=ϝ;have i2:(k:Int)<(n:Int):=ϝ;have d:ϛ (∀c,Ϝ wr c->CT f (#[vI (k:Nat),(Hz (j.getD k ϰ) (l.getD k ϰ))]++m) c (θ c (.bool (P k)))):=λc Y=>X.o k c (by rw[L.o];exact u) (bT g Y);unfold Hz at d;obtain⟨z,S⟩:=nM (l.getD k ϰ);rw[S]at I T J d;obtain⟨y,hy⟩:=nM (j.getD k ϰ);rw[hy]at I J d;obtain⟨v1,Q⟩:∃v,Value.slice y.r z.row.length y.rc=v:=⟨_,rfl⟩;obtain⟨v3,R⟩:∃v,Value.slice y.b z.bags.length y.bc=v:=⟨_,rfl⟩;have o1:v1.oneCell'=true:=by rw[<-Q];rfl
   have o3:v3.oneCell'=true:=by rw[<-R];rfl
   obtain⟨v2,A⟩:∃v,z.n=v:=⟨_,rfl⟩;obtain⟨y1,B⟩:∃v,y.r=v:=⟨_,rfl⟩;obtain⟨y2,C⟩:∃v,z.row.length=v:=⟨_,rfl⟩;obtain⟨y3,D⟩:∃v,y.rc=v:=⟨_,rfl⟩;obtain⟨y4,E⟩:∃v,y.b=v:=⟨_,rfl⟩;obtain⟨y5,F⟩:∃v,z.bags.length=v:=⟨_,rfl⟩;obtain⟨y6,G⟩:∃v,y.bc=v:=⟨_,rfl⟩;rw[B,C,D]at I;rw[A]at T;rw[E,F,G]at J;rw[B,C,D,A,E,F,G]at d;clear S hy Q A R o1 o3 B C D E F G;have O:=g.size
   cases hp:P k with
   |true=>
    rw[hp]at d;go_wp2_with (go_at_fn f;refine(d.o _ Ϩ).mono ?_;rintro e c ⟨rfl,s⟩;have t:=(g.alloc O _).trans (s.mono Ϣ));go_roundw
    case rel=>exact⟨k+1,ϝ,by go_num,t,λi q=>by
     rcases Nat.lt_succ_iff_lt_or_eq.1 q with h|h
     ·exact K.o i h
     ·rw[h];exact hp⟩
    case measure=>simp[intOf];omega
   |false=>
    have r:ϛ (allB n P=false):=DW u hp;rw[hp]at d;go_wp2_with (go_at_fn f;refine(d.o _ Ϩ).mono ?_;rintro e c ⟨rfl,s⟩;have t:=(g.alloc O _).trans (s.mono Ϣ));go_ret;exact⟨Aa r.o.symm,t⟩
  ·have r:ϛ (allB n P=true):=A9.2 (λi q=>K.o i ϝ);go_wp2;go_ret;exact⟨Aa r.o.symm,g⟩
theorem Qc(d:FuncId)(G:∀x w,(callFunc d x).run Tryz.prog w= .ok (.enter d x) w)(j:Array Value)(P:Nat->Bool)(a:Ϛ)(cap:Nat)(l:List (Option Addr×Nat×Nat))(w:ϙ)(F:l.length<=χ)(ha:IU w a l)
 (H:∀i c,i<l.length->Ϝ w c->Calls Tryz.prog d (#[vI (i:Nat),vS (l.getD i (none,0,0)).1 (l.getD i (none,0,0)).2.1 (l.getD i (none,0,0)).2.2]++j) c (θ c (.bool (P i)))):
 η 277 #[vS a l.length cap,.func (.func d) #[] j] w (θ w (.bool (allB l.length P))):=by
 have E:ϛ (∀i c,i<l.length->Ϝ w c->CT d (#[vI (i:Nat),vS (l.getD i (none,0,0)).1 (l.getD i (none,0,0)).2.1 (l.getD i (none,0,0)).2.2]++j) c (θ c (.bool (P i)))):=H;clear H;obtain⟨n,t⟩:∃n,l.length=n:=⟨_,rfl⟩;have v:=hqz t;rw[t]at F⊢;clear t;go_enter func277,ntmps277;go_wp2
 go_loopw [9] (λi wr=> ∃k:Nat,k<=n/\i=vI k/\Ϝ w wr/\∀i,i<k->P i=true) (λi _=>n - (intOf i).toNat)
 case atStart=>exact⟨0,Nat.zero_le _,rfl,bR,λi m=>absurd m (Nat.not_lt_zero i)⟩
 case round=>
  obtain⟨k,I,rfl,g,y⟩:=hrel;have u:=hqz y;clear y;by_cases s:k<n
  ·obtain⟨b,o,e,D⟩:=ha k (by rw[v.o];exact s);subst e;have C:=cLz g D;clear D ha;have J:(0:Int)<=(k:Int):=ϝ;have K:(k:Int)<(n:Int):=ϝ;have f:ϛ (CT d (#[vI (k:Nat),vS (l.getD k (none,0,0)).1 (l.getD k (none,0,0)).2.1 (l.getD k (none,0,0)).2.2]++j) wr (θ wr (.bool (P k)))):=E.o k wr (by rw[v.o];exact s) g;obtain⟨⟨L,M,N⟩,B⟩:∃z,l.getD k (none,0,0)=z:=⟨_,rfl⟩;rw[B]at C f;dsimp only at C f;clear B;have A:=g.size
   cases hp:P k with
   |true=>
    rw[hp]at f;go_wp2_with (go_at_fn d;refine f.o.mono ?_;rintro e c ⟨rfl,r⟩);go_roundw
    case rel=>exact⟨k+1,ϝ,by go_num,g.trans (r.mono A),λi m=>by
     rcases Nat.lt_succ_iff_lt_or_eq.1 m with h|h
     ·exact u.o i h
     ·rw[h];exact hp⟩
    case measure=>simp[intOf];omega
   |false=>
    have q:ϛ (allB n P=false):=DW s hp;rw[hp]at f;go_wp2_with (go_at_fn d;refine f.o.mono ?_;rintro e c ⟨rfl,r⟩);go_ret;exact⟨Aa q.o.symm,g.trans (r.mono A)⟩
  ·have q:ϛ (allB n P=true):=A9.2 (λi m=>u.o i ϝ);go_wp2;go_ret;exact⟨Aa q.o.symm,g⟩
end gr
namespace gr
open vl pl bt
attribute [local go_sem] Oper.semAt_some
variable {col rest : Int} {k : Nat}
theorem Nf(c:Cel)(col:Int)(w:ϙ)(r:c.s.size<=maxLen):
 η 294 #[ZR c,vI col] w (θ w (.bool (PZ c col))):=by
 have h:ϛ (∀b,CT 183 #[ZR c] b (θ b (vI (chk c.k c.n c.s)))):=λb=>AH c.k c.n c.s b r;obtain⟨R,o⟩:=nM (PZ c col);have g:=hqz o;unfold PZ at g;rw[o];clear o r;obtain⟨E,q⟩:=nM (chk c.k c.n c.s);rw[q]at h g;clear q;obtain⟨i,t,u⟩:=c;unfold ZR at h⊢;dsimp only at h g⊢;have j:Ϝ w (ξ w #[vI i,vI t,.string u] 119):=Ϩ;by_cases l:E=0
 ·subst l;by_cases m:i=0
  ·subst m;have f:ϛ (true=R):=by show _=_;rw[<-g.o];simp
   go_enter func294,ntmps294;go_wp2_with (go_at_call 183;refine(h.o _).mono ?_;rintro e b ⟨rfl,d⟩;have s:Δ b w 0 (vI 0):=cLz d ϡ);go_ret;exact⟨Aa f.o,bT j d⟩
  ·have x:(i==0)=false:=by simpa using m
   by_cases n:i=col
   ·subst n;have f:ϛ (true=R):=by show _=_;rw[<-g.o];simp
    go_enter func294,ntmps294;go_wp2_with (go_at_call 183;refine(h.o _).mono ?_;rintro e b ⟨rfl,d⟩;have s:Δ b w 0 (vI i):=cLz d ϡ);go_ret;exact⟨Aa f.o,bT j d⟩
   ·have y:(i==col)=false:=by simpa using n
    have f:ϛ (false=R):=by show _=_;rw[<-g.o];simp[m,n]
    go_enter func294,ntmps294;go_wp2_with (go_at_call 183;refine(h.o _).mono ?_;rintro e b ⟨rfl,d⟩;have s:Δ b w 0 (vI i):=cLz d ϡ);go_ret;exact⟨Aa f.o,bT j d⟩
 ·have v:(E==0)=false:=by simpa using l
  have f:ϛ (false=R):=by show _=_;rw[<-g.o];simp[l]
  go_enter func294,ntmps294;go_wp2_with (go_at_call 183;refine(h.o _).mono ?_;rintro e b ⟨rfl,d⟩);go_ret;exact⟨Aa f.o,bT j d⟩
theorem ZT{l:List Tal}(h:k<l.length)(b:Lg col rest (CI l k) (l.getD k ϰ)=false):Dq col rest (CI l k) (l.drop k)=false:=by
 rw[OM h,b];rfl
theorem Xu{l:List Tal}(h:k<l.length)(b:Lg col rest (CI l k) (l.getD k ϰ)=true):Dq col rest (CI l k) (l.drop k)=Dq col (rest - (l.getD k ϰ).2) (CI l (k+1)) (l.drop (k+1)):=by
 rw[OM h,b,Bool.true_and]
theorem Lh(a:Ϛ)(cap:Nat)(l:List Tal)(col n:Int)(w:ϙ)(hl:l.length<=χ)(ha:EV w a l)(hn:i64 n)(hw:∀t∈l,t.1.s.size<=maxLen/\i64 t.1.n/\i64 t.2):
 η 279 #[vS a l.length cap,vI col,vI n] w (θ w (.bool (Dq col n none l))):=by
 have HA:=hqz ha;have HW:ϛ (∀k,k<l.length->(l.getD k ϰ).1.s.size<=maxLen/\i64 (l.getD k ϰ).2):=λk hk=>by
  have:=hw (l.getD k ϰ) (by rw[gDe,gEe hk];exact getElem_mem hk);exact⟨this.1,this.2.2⟩
 obtain⟨R,hR⟩:=nM (Dq col n none l);have ao:=hqz hR;rw[hR];clear hR ha hw;obtain⟨E,ad⟩:=nM l.length;have HN:=hqz ad;rw[ad]at hl⊢;clear ad;obtain⟨ar,au⟩:=hn;go_enter func279,ntmps279;go_wp2
 go_loopw [7,13] (λrr t wr=> ∃(k:Nat) (r:Int),k<=E/\t=vI k/\rr=vI r/\i64 r/\Dq col r (CI l k) (l.drop k)=R/\Ϝ w wr) (λ_ t _=>E - (intOf t).toNat)
 case atStart=>exact⟨0,n,Nat.zero_le _,rfl,rfl,⟨ar,au⟩,ao.o,bR⟩
 case round=>
  obtain⟨k,r,hk,rfl,rfl,hr,ai,f⟩:=hrel;have U:=hqz ai;obtain⟨aw,ax⟩:=hr;clear ai;by_cases aq:k<E
  ·have N:k<l.length:=by rw[HN.o];exact aq
   obtain⟨B,F,e3,m1,m2,m3,m4⟩:=HA.o k N;have an:ϛ (∀j,k=j+1->∃b o,a=some ⟨b,o,none⟩/\Δ wr b (o+j * 4) (vI (l.getD j ϰ).1.k)/\Δ wr b (o+j * 4+1) (vI (l.getD j ϰ).1.n)/\Δ wr b (o+j * 4+2) (.string (l.getD j ϰ).1.s)):=λj M=>by
    obtain⟨b,o,e,x1,x2,x3,x4⟩:=HA.o j ϝ;exact⟨b,o,e,cLz f x1,cLz f x2,cLz f x3⟩
   obtain⟨aj,ak,al⟩:=HW.o k N;subst e3;have p1:=cLz f m1;have p2:=cLz f m2;have p3:=cLz f m3;have p4:=cLz f m4;have az:B<wr.heap.size:=bLt _ _ p1;have i1:(0:Int)<=(k:Int):=ϝ;have i2:(k:Int)<(E:Int):=ϝ;have J:ϛ (Lg col r (CI l k) (l.getD k ϰ)=false->false=R):=λh=>by rw[<-U.o];exact(ZT N h).symm
   have L:ϛ (Lg col r (CI l k) (l.getD k ϰ)=true->Dq col (r - (l.getD k ϰ).2) (CI l (k+1)) (l.drop (k+1))=R):=λh=>by rw[<-U.o];exact(Xu N h).symm
   have KV:ϛ (∀c,CT 294 #[ZR (l.getD k ϰ).1,vI col] c (θ c (.bool (PZ (l.getD k ϰ).1 col)))):=λc=>Nf _ _ c aj;obtain⟨⟨⟨q,s,u⟩,i⟩,hx⟩:∃z,l.getD k ϰ=z:=⟨_,rfl⟩;rw[hx]at p1 p2 p3 p4 J L KV ak al;unfold ZR at KV;dsimp only at p1 p2 p3 p4 KV L ak al;obtain⟨VB,ab⟩:=nM (PZ ⟨q,s,u⟩ col);have V:=hqz ab;rw[ab]at KV;clear hx m1 m2 m3 m4 ab aj
   cases VB with
   |false=>
    have y:ϛ (false=R):=J.o (by unfold Lg;rw[V.o];simp);go_wp2_with (go_at_call 294;refine(KV.o _).mono ?_;rintro e c ⟨rfl,d⟩;have m:Δ c wr 0 (vI q):=cLz d ϡ;have C:Δ c wr 1 (vI s):=cLz d ϡ;have D:Δ c wr 2 (.string u):=cLz d ϡ;have A:Δ c wr 3 (vI i):=cLz d ϡ;have x:Ϝ w c:=(f.alloc f.size _).trans (d.mono (by have:=f.size;simp<;>omega));have K:wr.heap.size<c.heap.size:=bLt _ _ m;have v:Ϝ wr c:=Ϩ.trans (d.mono ϟ));go_ret;exact⟨Aa y.o,x⟩
   |true=>
    by_cases h1:i<1
    ·have y:ϛ (false=R):=J.o (by unfold Lg;simp;intros;omega);go_wp2_with (go_at_call 294;refine(KV.o _).mono ?_;rintro e c ⟨rfl,d⟩;have m:Δ c wr 0 (vI q):=cLz d ϡ;have C:Δ c wr 1 (vI s):=cLz d ϡ;have D:Δ c wr 2 (.string u):=cLz d ϡ;have A:Δ c wr 3 (vI i):=cLz d ϡ;have x:Ϝ w c:=(f.alloc f.size _).trans (d.mono (by have:=f.size;simp<;>omega));have K:wr.heap.size<c.heap.size:=bLt _ _ m;have v:Ϝ wr c:=Ϩ.trans (d.mono ϟ));go_ret;exact⟨Aa y.o,x⟩
    ·by_cases h2:i>r
     ·have y:ϛ (false=R):=J.o (by unfold Lg;simp;intros;omega);go_wp2_with (go_at_call 294;refine(KV.o _).mono ?_;rintro e c ⟨rfl,d⟩;have m:Δ c wr 0 (vI q):=cLz d ϡ;have C:Δ c wr 1 (vI s):=cLz d ϡ;have D:Δ c wr 2 (.string u):=cLz d ϡ;have A:Δ c wr 3 (vI i):=cLz d ϡ;have x:Ϝ w c:=(f.alloc f.size _).trans (d.mono (by have:=f.size;simp<;>omega));have K:wr.heap.size<c.heap.size:=bLt _ _ m;have v:Ϝ wr c:=Ϩ.trans (d.mono ϟ));go_ret;exact⟨Aa y.o,x⟩
     ·have ay:IntKind.i64.wrap (r - i)=r - i:=by rw[IntKind.wrap_i64];omega
      by_cases ac:k=0
      ·have X:ϛ (Dq col (r - i) (CI l (k+1)) (l.drop (k+1))=R):=L.o (by unfold Lg;rw[V.o,show CI l k=none from if_pos ac];simp;omega);have i6:decide (0<k)=false:=Ϣ;have am:i64 (r - i):=⟨ϝ,ϝ⟩;have W:=hqz am;clear ac am;go_wp2_with (go_at_call 294;refine(KV.o _).mono ?_;rintro e c ⟨rfl,d⟩;have m:Δ c wr 0 (vI q):=cLz d ϡ;have C:Δ c wr 1 (vI s):=cLz d ϡ;have D:Δ c wr 2 (.string u):=cLz d ϡ;have A:Δ c wr 3 (vI i):=cLz d ϡ;have x:Ϝ w c:=(f.alloc f.size _).trans (d.mono (by have:=f.size;simp<;>omega));have K:wr.heap.size<c.heap.size:=bLt _ _ m;have v:Ϝ wr c:=Ϩ.trans (d.mono ϟ))
       go_quiet (fail)
       have hq:=pl.JI x nq;have ah:=pl.JI (Below.refl c.heap.size c) nq;generalize (c.drewN nq)=W2 at hq ah⊢;have t3:=cLz ah A;go_wp2;go_roundw
       case rel=>exact⟨k+1,r - i,ϝ,by go_num,rfl,W.o,X.o,hq⟩
       case measure=>simp[intOf];omega
      ·obtain⟨j,M⟩:∃j,k=j+1:=⟨k - 1,ϝ⟩;obtain⟨b4,o4,Z,O,P,Q⟩:=an.o j M;injection Z with Z
       injection Z with e5 e6
       subst e5 e6;have i6:decide (0<k)=true:=Ϣ;have i7:IntKind.i64.wrap ((k:Int) - 1)=(j:Int):=by rw[IntKind.wrap_i64];omega
       have i8:(0:Int)<=(j:Int):=ϝ;have i9:(j:Int)<(E:Int):=ϝ;have T:ϛ (CI l k=some (l.getD j ϰ).1):=by show _=_;rw[M];rfl
       obtain⟨⟨G,H,I⟩,ag⟩:∃z,(l.getD j ϰ).1=z:=⟨_,rfl⟩;rw[ag]at O P Q T;dsimp only at O P Q;have Y:ϛ (∀c,CT 257 #[.agg #[vI G,vI H,.string I],.agg #[vI q,vI s,.string u]] c (θ c (vI (Gm ⟨G,H,I⟩ ⟨q,s,u⟩)))):=λc=>Hl G H I q s u c;obtain⟨S,aa⟩:=nM (Gm ⟨G,H,I⟩ ⟨q,s,u⟩);have af:=hqz aa;rw[aa]at Y;clear aa ag M ac;by_cases h3:S<0
       ·have X:ϛ (Dq col (r - i) (CI l (k+1)) (l.drop (k+1))=R):=L.o (by unfold Lg;rw[V.o,T.o];simp[af.o,h3];omega);have W:ϛ (i64 (r - i)):=⟨ϝ,ϝ⟩;have ap:¬(S≥0):=ϝ;go_wp2_with (go_at_call 294;refine(KV.o _).mono ?_;rintro e c ⟨rfl,d⟩;have m:Δ c wr 0 (vI q):=cLz d ϡ;have C:Δ c wr 1 (vI s):=cLz d ϡ;have D:Δ c wr 2 (.string u):=cLz d ϡ;have A:Δ c wr 3 (vI i):=cLz d ϡ;have x:Ϝ w c:=(f.alloc f.size _).trans (d.mono (by have:=f.size;simp<;>omega));have K:wr.heap.size<c.heap.size:=bLt _ _ m;have v:Ϝ wr c:=Ϩ.trans (d.mono ϟ));have v1:=cLz v O;have v2:=cLz v P;have v3:=cLz v Q
        go_region_held3 (λw'=>Δ w' B (F+j * 4) (vI G)/\Δ w' B (F+j * 4+1) (vI H)/\Δ w' B (F+j * 4+2) (.string I)/\ύ w' wr (vI q) (vI s) (.string u) (vI i)) (first|exact⟨cLz g v1,cLz g v2,cLz g v3,cLz g m,cLz g C,cLz g D,cLz g A⟩|go_keep|(refine⟨?_,?_,?_,?_,?_,?_,?_⟩<;>go_keep))
         (first|(go_at_call 257;refine(Y.o c.drew).mono ?_;rintro e y1 ⟨rfl,ae⟩;have g:Ϝ c y1:=bR.drew.trans ae;have t3:=cLz g A))
        all_goals
         go_wp2;go_roundw
         case rel=>exact⟨k+1,r - i,ϝ,by go_num,rfl,W.o,X.o,bT x g⟩
         case measure=>simp[intOf];omega
       ·have y:ϛ (false=R):=J.o (by unfold Lg;rw[T.o];simp[af.o];intros;omega);have ap:S≥0:=ϝ;go_wp2_with (go_at_call 294;refine(KV.o _).mono ?_;rintro e c ⟨rfl,d⟩;have m:Δ c wr 0 (vI q):=cLz d ϡ;have C:Δ c wr 1 (vI s):=cLz d ϡ;have D:Δ c wr 2 (.string u):=cLz d ϡ;have A:Δ c wr 3 (vI i):=cLz d ϡ;have x:Ϝ w c:=(f.alloc f.size _).trans (d.mono (by have:=f.size;simp<;>omega));have K:wr.heap.size<c.heap.size:=bLt _ _ m;have v:Ϝ wr c:=Ϩ.trans (d.mono ϟ));have v1:=cLz v O;have v2:=cLz v P;have v3:=cLz v Q
        go_region_held3 (λw'=>Δ w' B (F+j * 4) (vI G)/\Δ w' B (F+j * 4+1) (vI H)/\Δ w' B (F+j * 4+2) (.string I)/\ύ w' wr (vI q) (vI s) (.string u) (vI i)) (first|exact⟨cLz g v1,cLz g v2,cLz g v3,cLz g m,cLz g C,cLz g D,cLz g A⟩|go_keep|(refine⟨?_,?_,?_,?_,?_,?_,?_⟩<;>go_keep))
         (first|(go_at_call 257;refine(Y.o c.drew).mono ?_;rintro e y1 ⟨rfl,ae⟩;have g:Ϝ c y1:=bR.drew.trans ae;have t3:=cLz g A))
        all_goals
         go_wp2;go_ret;exact⟨Aa y.o,bT x g⟩
  ·have av:k=E:=ϝ;have y:ϛ (decide (r=0)=R):=by show _=_;rw[<-U.o];exact(ZS (by rw[HN.o];omega)).symm
   go_wp2;go_ret
   first
    |exact⟨Aa y.o,f⟩
    |exact⟨Aa (by rw[<-y.o];simp),f⟩
theorem ZU(i A C X:Nat)(u:Ϛ)(x:Nat)(l:List Tal)(B H:Ϛ)(D I:Nat)(b:List (Int×Int))(c:List Int)(n:Int)(w:ϙ)
 (N:Δ w A 0 (vS B b.length D)) (O:Δ w C 0 (vS H c.length I)) (hX:Δ w X 1 (vI n))
 (ha:Es w B b) (S:Ay w H c) (Q:EV w u l) (V:i<b.length) (ab:b.length<=χ) (ad:c.length<=χ) (ae:0<=(b.getD i (0,0)).2/\(b.getD i (0,0)).2.toNat<c.length)
 (W:l.length<=χ) (Z:i64 n) (hw:∀t∈l,t.1.s.size<=maxLen/\i64 t.1.n/\i64 t.2):
 η 278 #[vI (i:Nat),vS u l.length x,μ A,μ C,μ X] w (θ w (.bool (Qa c (b.getD i (0,0)) n l))):=by
 have f:ϛ (∀q,Ϝ w q->CT 279 #[vS u l.length x,vI (c.getD (b.getD i (0,0)).2.toNat 0),vI n] q (θ q (.bool (Dq (c.getD (b.getD i (0,0)).2.toNat 0) n none l)))):=λq m=>Lh u x l _ n q W (Hy Q m) Z hw;obtain⟨R,v⟩:=nM (Qa c (b.getD i (0,0)) n l);have d:=hqz v;unfold Qa at d;rw[v];clear v;obtain⟨F,o1,e1,x1,y⟩:=ha i V;subst e1;obtain⟨s,o⟩:=ae;obtain⟨G,o2,e2,r⟩:=S (b.getD i (0,0)).2.toNat o;subst e2;obtain⟨⟨L,col⟩,hz⟩:∃z,b.getD i (0,0)=z:=⟨_,rfl⟩;rw[hz]at x1 y r d f s o;dsimp only at x1 y r d f s o;obtain⟨j,rfl⟩:=Int.eq_ofNat_of_zero_le s;simp only[Int.toNat_natCast]at r d f o;obtain⟨K,U⟩:=nM (c.getD j 0);rw[U]at r d f;obtain⟨ln,Y⟩:=nM l.length;obtain⟨E,P⟩:=nM b.length;obtain⟨J,T⟩:=nM c.length;rw[Y]at f d W⊢;rw[P]at N V ab;rw[T]at O o ad;have i1:(0:Int)<=(i:Int):=ϝ;have i2:(i:Int)<(E:Int):=ϝ;have j1:(0:Int)<=(j:Int):=ϝ;have j2:(j:Int)<(J:Int):=ϝ;clear hz U Y P T ha S Q Z hw s;by_cases m:L=1
 ·subst m;by_cases M:ln=0
  ·subst M;have h:ϛ (true=R):=by show _=_;rw[<-d.o,if_pos rfl];rfl
   go_enter func278,ntmps278;go_wp2;go_ret;exact⟨Aa h.o,bR⟩
  ·have h:ϛ (false=R):=by show _=_;rw[<-d.o,if_pos rfl];simp[M]
   have ah:((ln:Int)==0)=false:=Ϣ;go_enter func278,ntmps278;go_wp2;go_ret;exact⟨Aa (by rw[<-h.o]),bR⟩
 ·have ag:(L==1)=false:=by simpa using m
  have h:ϛ (Dq K n none l=R):=by show _=_;rw[<-d.o,if_neg m]
  rw[h.o]at f;go_enter func278,ntmps278;go_wp2
  go_region_held3 (λw'=>Δ w' A 0 (vS (some ⟨F,o1,none⟩) E D)/\Δ w' C 0 (vS (some ⟨G,o2,none⟩) J I)/\Δ w' X 1 (vI n)/\Δ w' F (o1+i * 2+1) (vI (j:Int))/\Δ w' G (o2+j) (vI K)) (first|exact⟨cLz g N,cLz g O,cLz g hX,cLz g y,cLz g r⟩|go_keep)
   (first|(go_at_call 279;refine(f.o w.drew bR.drew).mono ?_;rintro e y1 ⟨rfl,af⟩;have g:Ϝ w y1:=bR.drew.trans af))
  all_goals
   go_wp2;go_ret;exact⟨rfl,g⟩
theorem Oc(l m:Ϛ)(o r:Nat)(d:List (Int×Int))(c:List Int)(x:GX)(g:Grp)(w:ϙ)(ha:Es w l d)(Q:Ay w m c)(h:gAt w x g)(n:wfG g)(P:d.length<=χ)(ad:c.length<=χ)(S:∀i,i<d.length->0<=(d.getD i (0,0)).2/\(d.getD i (0,0)).2.toNat<c.length):
 η 240 #[vS l d.length o,vS m c.length r,Hz x g] w (θ w (.bool (Ka c d g))):=by
 have K:∀i,i<g.bags.length->g.bags.getD i []∈g.bags:=λi z=>by rw[gDe,gEe z];exact getElem_mem z
 have j:ϛ (∀A C X b,Ϝ w b->g.bags.length=d.length->Δ b A 0 (vS l d.length o)->Δ b C 0 (vS m c.length r)->Δ b X 1 (vI g.n)->
  η 277 #[vS x.b g.bags.length x.bc,.func (.func 278) #[] #[μ A,μ C,μ X]] b (θ b (.bool (allB g.bags.length (λi=>Qa c (d.getD i (0,0)) g.n (g.bags.getD i [])))))):=λA C X b v ag hA hC hX=>by
  have k:=Qc 278 (enters_of func278 Ϡ rfl) #[μ A,μ C,μ X] (λi=>Qa c (d.getD i (0,0)) g.n (g.bags.getD i [])) x.b x.bc x.hs b (by rw[h.len];exact n.bl) (JZ h.hs v) (λi w2 z y=>by
   have B:i<g.bags.length:=by rw[<-h.len];exact z
   have H:=bT v y;rw[h.hl i B];exact ZU i A C X _ _ (g.bags.getD i []) l m o r d c g.n w2 (cLz y hA) (cLz y hC) (cLz y hX) (CP ha H) (Ao Q H) (Hy (h.bag i B) H) ϝ P ad (S i ϝ) (n.tl _ (K i B)).1 n.n (n.tl _ (K i B)).2)
  rw[h.len]at k;exact k
 obtain⟨R,F⟩:=nM (Ka c d g);have f:=hqz F;unfold Ka at f;rw[F];have ab:=n.bl;clear F ha Q h n S K;unfold Hz;obtain⟨L,O⟩:=nM (allB g.bags.length (λi=>Qa c (d.getD i (0,0)) g.n (g.bags.getD i [])));rw[O]at j f;obtain⟨q,t⟩:=nM g.bags.length;obtain⟨E,s⟩:=nM d.length;obtain⟨M,I⟩:=nM c.length;obtain⟨rn,T⟩:=nM g.row.length;obtain⟨N,J⟩:=nM g.n;obtain⟨xr,ae,U,V,xh⟩:=x;dsimp only at j⊢;rw[t,s,I,J]at j;rw[t,s]at f;rw[t]at ab;rw[s]at P;rw[t,s,I,T,J];clear O t s I T J;have G:Ϝ w (ξ (ξ (ξ w #[vS l E o] 30) #[vS m M r] 29) #[vS xr rn ae,vI N,vS U q V] 102):=by
  repeat (first|exact bR|(refine Below.alloc ?_ Ϥ _))
 by_cases u:q=E
 ·subst u;have D:ϛ (L=R):=by show _=_;rw[<-f.o];simp
  have W:ϛ (∀b,Ϝ w b->Δ b w 0 (vS l q o)->Δ b (w+1) 0 (vS m M r)->Δ b (w+1+1) 1 (vI N)->CT 277 #[vS U q V,.func (.func 278) #[] #[μ w,μ (w+1),μ (w+1+1)]] b (θ b (.bool L))):=λb hb u Y Z=>j.o _ _ _ b hb rfl u Y Z;clear j f;go_enter func240,ntmps240;go_wp2_with (go_at_call 277;refine(W.o _ G ϡ ϡ ϡ).mono ?_;rintro e b ⟨rfl,v⟩);go_ret;exact⟨Aa D.o,bT G v⟩
 ·have af:((q:Int)==(E:Int))=false:=Ϣ;have D:ϛ (false=R):=by show _=_;rw[<-f.o];simp[u]
  clear j f;go_enter func240,ntmps240;go_wp2;go_ret;exact⟨Aa D.o,G⟩
end gr
namespace bt
open vl pl
def pr(a b:Nat):Nat:=(a+b) * (a+b)+a
end bt
namespace bt
open vl pl
variable {p : Pln}
theorem Qd{v:List ch.Cnt}(h:ch.Ar v=0):ch.DV v:=by
 unfold ch.Ar at h;split at h
 ·cases h
 ·split at h
  ·rename_i b;exact b
  ·cases h
theorem Li(h:Ag p=0)(c:p.grouped=true):p.group.length+p.aggs.length<=8/\1<=p.aggs.length/\p.aggs.length<=4:=by
 have b:=(Bf h).2.2.1.2;rw[if_pos c]at b;exact⟨b.2,b.1.1,b.1.2⟩
theorem ZV(h:Ag p=0):∀x∈p.group,0<=x/\x<((Bb p).length:Int):=(Bf h).2.2.2.2.2.2.1.1
theorem AbX(h:Ag p=0){a:Int×Int}(ha:a∈p.aggs):0<=a.2/\a.2.toNat<(Bb p).length:=by
 have b:=(Bf h).2.2.2.2.2.2.2 a ha;have c:1<=p.left.length:=(Bf h).2.2.1.1.1.1;have d:(Bb p).length=p.left.length+p.right.length:=by unfold Bb;rw[lAp]
 unfold FZ at b;split at b
 ·rw[b];exact⟨Int.le_refl _,by show 0<_;omega⟩
 ·exact⟨b.1.1,ϝ⟩
end bt
namespace gr
open vl pl bt
attribute [local go_sem] Oper.semAt_some
theorem Xv(a1 a2:Ϛ)(c1 c2:Nat)(a5 a6:List GX)(f:List Grp)(w:ϙ)(h1:gsAt w a1 a5 f)(h2:gsAt w a2 a6 f)(hl:f.length<=1000000)(ap:∀g∈f,g.row.length<=1000/\g.bags.length<=1000/\∀l∈g.bags,l.length<=1073741824):
 η 43 #[vS a1 f.length c1,vS a2 f.length c2] w (θ w (.bool true)):=by
 have am:=hqz h1;have an:=hqz h2;have al:ϛ (∀i,i<f.length->(f.getD i ϰ).row.length<=1000/\(f.getD i ϰ).bags.length<=1000/\∀l∈(f.getD i ϰ).bags,l.length<=1073741824):=λi hi=>ap _ (by rw[gDe,gEe hi];exact getElem_mem hi);obtain⟨n,hn⟩:=nM f.length;have HN:=hqz hn;rw[hn]at hl al⊢;clear h1 h2 ap hn;go_enter func43,ntmps43;go_wp2
 go_loopw [5] (λt wr=> ∃i:Nat,i<=n/\t=vI i/\Ϝ w wr) (λt _=>n - (intOf t).toNat)
 case atStart=>exact⟨0,Nat.zero_le _,rfl,bR⟩
 case round=>
  obtain⟨i,hi,rfl,r⟩:=hrel;by_cases au:i<n
  ·have W:i<f.length:=by rw[HN.o];exact au
   obtain⟨b,o,e1,H,x2,A⟩:=am.o.cells i W;obtain⟨d,q,e2,s,y2,B⟩:=an.o.cells i W;have T:=am.o.each i W;have U:=an.o.each i W;have V:=al.o i au;subst e1 e2;obtain⟨g,hg⟩:=nM (f.getD i ϰ);obtain⟨⟨ar,ae,ab,ad,ah⟩,a3⟩:∃z,a5.getD i ϰ=z:=⟨_,rfl⟩;obtain⟨⟨br,ag,bb,af,bh⟩,a4⟩:∃z,a6.getD i ϰ=z:=⟨_,rfl⟩;rw[hg]at H x2 A s y2 B T U V;rw[a3]at H A T;rw[a4]at s B U;dsimp only at H A s B;have I:=hqz T;have J:=hqz U;have aa:=hqz V;have ac:∀O,Ϝ w O->η 94 #[vS ar g.row.length ae,vS br g.row.length ag] O (θ O (.bool true)):=λO K=>by
    have h:=vl.Ni ar br ae ag g.row g.row O (vl.Ab I.o.row K) (vl.Ab J.o.row K) (by have:=aa.o.1;omega) (by have:=aa.o.1;omega);rw[decide_eq_true rfl]at h;exact h
   obtain⟨rl,ax⟩:=nM g.row.length;obtain⟨m,hm⟩:=nM g.bags.length;obtain⟨N,hN⟩:=nM g.n;have HM:=hqz hm;have bd:=V.2.1;rw[ax]at H s ac;rw[hm]at A B bd;rw[hN]at x2 y2;have KS:ϛ _:=ac;have p1:=cLz r H;have p2:=cLz r x2;have L:=cLz r A;have q1:=cLz r s;have q2:=cLz r y2;have M:=cLz r B;have P:ϛ (Δ w b (o+i * 3+2) (vS ab m ad)/\Δ w d (q+i * 3+2) (vS bb m af)):=⟨A,B⟩;have i1:(0:Int)<=(i:Int):=ϝ;have i2:(i:Int)<(n:Int):=ϝ;clear hg a3 a4 T U V ax hm hN ac H x2 A s y2 B;go_wp2
   go_region_held3 (λw'=>Δ w' b (o+i * 3) (vS ar rl ae)/\Δ w' b (o+i * 3+1) (vI N)/\Δ w' b (o+i * 3+2) (vS ab m ad)/\Δ w' d (q+i * 3) (vS br rl ag)/\Δ w' d (q+i * 3+1) (vI N)/\Δ w' d (q+i * 3+2) (vS bb m af)) (first|exact⟨cLz hy p1,cLz hy p2,cLz hy L,cLz hy q1,cLz hy q2,cLz hy M⟩|go_keep)
    (first|(go_at_call 94;refine(KS.o _ r.drew).mono ?_;rintro e s ⟨rfl,a9⟩;have hy:Ϝ wr s:=bR.drew.trans a9))
   all_goals
    have ba:Ϝ w s:=bT r hy;clear p1 p2 L q1 q2 M KS;go_wp2
    go_loopw [6] (λt wq=> ∃j:Nat,j<=m/\t=vI j/\Ϝ w wq) (λt _=>m - (intOf t).toNat)
    case atStart=>exact⟨0,Nat.zero_le _,rfl,ba⟩
    case round=>
     rename World=>wq;obtain⟨j,hj,rfl,E⟩:=hrel;have L:=cLz E P.o.1;have M:=cLz E P.o.2;by_cases bc:j<m
     ·have y:j<g.bags.length:=by rw[HM.o];exact bc
      obtain⟨K,ho,R,u⟩:=I.o.hs j (by rw[I.o.len];exact y);have aj:=I.o.hl j y;have C:=I.o.bag j y;dsimp only at R u aj C;rw[aj]at u;obtain⟨kb,ko,S,x⟩:=J.o.hs j (by rw[J.o.len];exact y);have ai:=J.o.hl j y;have D:=J.o.bag j y;dsimp only at S x ai D;rw[ai]at x;have aw:=aa.o.2.2 (g.bags.getD j []) (by rw[gDe,gEe y];exact getElem_mem y);obtain⟨l,av⟩:=nM (g.bags.getD j []);obtain⟨⟨ta,tx,tc⟩,ay⟩:∃z,ah.getD j (none,0,0)=z:=⟨_,rfl⟩;obtain⟨⟨ua,ux,uc⟩,az⟩:∃z,bh.getD j (none,0,0)=z:=⟨_,rfl⟩;rw[av]at u x C D aw;rw[ay]at u C;rw[az]at x D;dsimp only at u x C D;have a7:=hqz C;have a8:=hqz D;obtain⟨F,ak⟩:=nM l.length;have ao:=hqz ak;rw[ak]at u x aw;rw[R]at L;rw[S]at M;have Q:ϛ (Δ w K (ho+j) (vS ta F tc)/\Δ w kb (ko+j) (vS ua F uc)/\Δ w b (o+i * 3+2) (vS (some ⟨K,ho,none⟩) m ad)/\Δ w d (q+i * 3+2) (vS (some ⟨kb,ko,none⟩) m af)):=⟨u,x,by rw[<-R];exact P.o.1,by rw[<-S];exact P.o.2⟩;have r1:=cLz E u;have r2:=cLz E x;have j1:(0:Int)<=(j:Int):=ϝ;have j2:(j:Int)<(m:Int):=ϝ;clear av ay az C D ak aj ai u x R S;go_wp2
      go_quiet (fail)
      go_wp2
      go_loopw [7] (λt G=> ∃v:Nat,v<=F/\t=vI v/\Ϝ w G) (λt _=>F - (intOf t).toNat)
      case atStart=>exact⟨0,Nat.zero_le _,rfl,below_drewN E _⟩
      case round=>
       rename World=>G;obtain⟨v,hv,rfl,c⟩:=hrel;have L:=cLz c Q.o.2.2.1;have M:=cLz c Q.o.2.2.2;have r1:=cLz c Q.o.1;have r2:=cLz c Q.o.2.1;by_cases a0:v<F
       ·obtain⟨sb,so,es,X,Y,Z,s4⟩:=a7.o v (by rw[ao.o];exact a0);obtain⟨tb,tq,et,t1,t2,t3,t4⟩:=a8.o v (by rw[ao.o];exact a0);rw[es]at r1;rw[et]at r2;obtain⟨⟨⟨ck,cn,cs⟩,cN⟩,aq⟩:∃z,l.getD v ϰ=z:=⟨_,rfl⟩;rw[aq]at X Y Z s4 t1 t2 t3 t4;dsimp only at X Y Z s4 t1 t2 t3 t4;have X:=cLz c X;have Y:=cLz c Y;have Z:Δ G sb (so+v * 4+1+1) (.string cs):=cLz c Z;have s4:Δ G sb (so+v * 4+1+1+1) (vI cN):=cLz c s4;have t1:=cLz c t1;have t2:=cLz c t2;have t3:Δ G tb (tq+v * 4+1+1) (.string cs):=cLz c t3;have t4:Δ G tb (tq+v * 4+1+1+1) (vI cN):=cLz c t4;have v1:(0:Int)<=(v:Int):=ϝ;have v2:(v:Int)<(F:Int):=ϝ;clear aq es et;go_wp2
        go_quiet (fail)
        go_wp2;go_roundw
        case rel=>exact⟨v+1,ϝ,by go_num,below_drewN c _⟩
        case measure=>simp[intOf];omega
       ·go_wp2;go_roundw
        case rel=>exact⟨j+1,ϝ,by go_num,c⟩
        case measure=>simp[intOf];omega
     ·go_wp2;go_roundw
      case rel=>exact⟨i+1,ϝ,by go_num,E⟩
      case measure=>simp[intOf];omega
  ·go_wp2;go_ret;exact⟨rfl,r⟩
end gr
end Go.Proofs.YtfkihidbnfkbaaaGreatDoor
