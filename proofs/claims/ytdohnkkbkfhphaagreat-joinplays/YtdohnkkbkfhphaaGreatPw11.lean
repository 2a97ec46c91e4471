import Derived.Test.YtdohnkkbkfhphaaGreatPw9
import Derived.Laws.AppendOwnNone
import Derived.Test.YtdohnkkbkfhphaaGreatPw10
set_option linter.all false
set_option maxHeartbeats 8000000
set_option maxRecDepth 100000
open Go.ChangeShapes Go.WideShapes Go.ChangeAt Go.RowKit Go.Maps Go.WideMaps Go.Sort List
open Inhabited renaming default->ϰ
namespace Go.Proofs.YtdohnkkbkfhphaaGreat
open Go.Proofs.Tryz
namespace ch
open vl
variable {B b base cap i n nn : Nat} {w w' : ϛ} {a : Act} {k : List UInt8} {r : List Cel} {ops : Array Oper} {rest : List Oper} {o : Oper} {Q : Exit -> Act -> World -> Prop} {out v : List Cnt} {ad : Ϝ} {kv : KV}
theorem ob{c x:Nat}(h:(Value.slice (τ b) n c).ownBlock=some x):x=b:=by cases h;rfl
theorem Aad(B nn:Nat)(out:List Cnt)(w:ϛ)(h:DZ w B nn (Bi out))(A:rising (Bi out))(z:∀c∈out,rowOk c.r)(y:out.length<=100000):
 η 73 #[.map (some B)] w λe w'=>(∃ad cap,e= .returned (vS ad out.length cap)/\viewAt w' ad out)/\Ϟ w w':=by
 obtain⟨M,f,E,F,G⟩:=info_parts Nl;obtain⟨d,L,m,x⟩:=run_make_own (P:=Tryz.prog) w w.heap.size 74 177 M (.agg #[ψ,ω]) 2 underlying74 f E F .i64 .i64 out.length (by rw[G];omega) ϩ nR;have j:Ϟ w d:=bR.grown x nR (λk K=>by cases K);have R:w.heap.size<d.heap.size:=(AM m (g:=w.heap.size) rfl).2;have N:=Mv h;have t:ϝ (VS (ξ d #[vS (τ w) 0 out.length] 74) d.heap.size w.heap.size (vS (τ w) 0 out.length) []):=by
  refine⟨ϣ,ϣ,λe=>by have:=ob e;omega,Ϥ,[],rfl,own_below m Ϫ,λi f=>absurd f (Nat.not_lt_zero i)⟩
 have q:ϝ (DZ (ξ d #[vS (τ w) 0 out.length] 74) B nn (Bi out)):=El (CN h j) _;have u:ϝ (CT 132 #[.map (some B),.func (.func 133) #[] #[μ d]] (d.alloc (.cells #[vS (τ w) 0 out.length] 74))
  λe w'=>e= .returned (.tuple #[])/\∃v,VS w' d.heap.size w.heap.size v out/\fr d.heap.size (Value.slice (τ w) 0 out.length).ownBlock (ξ d #[vS (τ w) 0 out.length] 74) w'):=
  Yo B nn out d.heap.size w.heap.size _ _ q.o A z y t.o ϟ (λe=>by have:=ob e;omega)
 have H:=hV0 h;have C:ϝ (Maps.size (toD (Bi out))=out.length):=by show Maps.size (toD (Bi out))=out.length;rw[Ko,Kt]
 obtain⟨n,l⟩:∃n,out.length=n:=⟨_,rfl⟩;rw[l]at L u C y⊢;have s:=hV0 l;clear f E F G m x h A z t q l;go_enter func73,ntmps73;go_wp2_with (first
  |(at_len;refine wpList_len_own _ rfl (.tmp 4) 115 rfl 9 3 underlying115 _ B nn _ rfl H.o ?_;rw[C.o])
  |(go_at_call 132;refine u.o.mono ?_;rintro e S ⟨rfl,v,p,J⟩;have O:=p.cell))
 obtain⟨ad,cap,D⟩:=Adh p;rw[s.o]at D;subst D;go_ret;exact⟨⟨ad,cap,rfl,AbT (cap:=cap) (by rw[s.o];exact p)⟩,Aap (j.alloc j.size _) J ϟ (λb I=>by have:=ob I;omega) Ϥ⟩
structure Chg where
 k:Int
 r:List Cel
instance:Inhabited Chg:=⟨⟨0,[]⟩⟩
def BZ(w:World)(a:Option Addr)(l:List Chg):Prop:=
 ∀i,i<l.length->∃b off ra rc,a=some ⟨b,off,none⟩/\Δ w b (off+i * 2) (vI (l.getD i ϰ).k)/\Δ w b (off+i * 2+1) (vS ra (l.getD i ϰ).r.length rc)/\vl.rowAt w ra (l.getD i ϰ).r
def CU(l:List Chg):Prop:=∀c∈l,Cj c.r/\c.r.length<=χ/\(-9223372036854775808<=c.k/\c.k<=9223372036854775807)
theorem Q9{l:List Chg}(h:CU l)(k:Nat)(c:k<l.length):Cj (l.getD k ϰ).r/\(l.getD k ϰ).r.length<=χ/\(-9223372036854775808<=(l.getD k ϰ).k/\(l.getD k ϰ).k<=9223372036854775807):=
 h _ (by simp[gDe,c])
theorem Ct{a:Ϝ}{l:List Chg}(h:BZ w a l)(c:Ϟ w w'):BZ w' a l:=by
 intro i d;obtain⟨b,o,f,g,e,j,m,p⟩:=h i d;exact⟨b,o,f,g,e,cLz c j,cLz c m,Ac p c⟩
def Ca(l:List Chg)(i:Nat):Bool:=
 if (l.getD i ϰ).k=3 then decide (i+1<l.length)&&decide ((l.getD (i+1) ϰ).k=4)else if (l.getD i ϰ).k=4 then decide (0<i)&&decide ((l.getD (i - 1) ϰ).k=3)else true
def Gt(l:List Chg)(i:Nat):Int:=
 if (l.getD i ϰ).k<1\/4<(l.getD i ϰ).k then 4 else if A3 (l.getD i ϰ).r=0 then(if Ca l i then 0 else 6)else A3 (l.getD i ϰ).r
def first(f:Nat->Int):Nat->Int
 |0=>0
 |n+1=>if first f n=0 then f n else first f n
theorem NF{f:Nat->Int}(h:∀i,i<n->f i=0):first f n=0:=by
 induction n with
 |zero=>rfl
 |succ n ih=>rw[first,ih (λi c=>h i ϟ),if_pos rfl,h n ϟ]
theorem Aae{f:Nat->Int}{k:Nat}(n:Nat)(h:∀i,i<k->f i=0)(c:f k≠0)(d:k<n):first f n=f k:=by
 induction n with
 |zero=>exact absurd d (Nat.not_lt_zero k)
 |succ n ih=>
  rw[first];by_cases e:k=n
  ·subst e;rw[NF h,if_pos rfl]
  ·rw[ih ϟ,if_neg c]
def Bq(l:List Chg):Int:=if 4096<l.length then 2 else first (Gt l) l.length
def NG(l:List Chg)(i:Nat):Prop:=1<=(l.getD i ϰ).k/\(l.getD i ϰ).k<=4/\A3 (l.getD i ϰ).r=0/\Ca l i=true
theorem Su{l:List Chg}(h:Gt l i=0):NG l i:=by
 unfold Gt at h;split at h
 ·cases h
 ·rename_i e;split at h
  ·rename_i c;split at h
   ·rename_i d;exact⟨ϟ,ϟ,c,d⟩
   ·cases h
  ·contradiction
theorem P7{l:List Chg}(h:NG l i):Gt l i=0:=by
 obtain⟨e,f,c,d⟩:=h;unfold Gt;rw[if_neg ϟ,if_pos c,if_pos d]
def Bf(l:List Chg):Prop:=l.length<=4096/\∀i,i<l.length->NG l i
theorem AbA{l:List Chg}(h:Bf l):Bq l=0:=by
 have:=h.1;unfold Bq;rw[if_neg ϟ,NF (λi c=>P7 (h.2 i c))]
def Gs(w:World)(ad:Option Addr)(l:List Chg):Prop:=
 ∀i,i<l.length->∃g,ad=some ⟨g,0,none⟩/\Δ w g i (.string ⟨(encR (l.getD i ϰ).r).toArray⟩)
theorem Ab{a b:Bool}(h:a=b):Ending.returned (.bool a)= .returned (.bool b):=by rw[h]
def EI(k:Int):Int:=if k=1\/k=4 then 1 else -1
theorem Sv(k:Int)(w:ϛ):η 72 #[vI k] w λe w'=>e= .returned (vI (EI k))/\w'=w:=by
 by_cases c:k=1
 ·subst c;go_enter func72,ntmps72;go_wp2;go_ret;exact⟨rfl,rfl⟩
 ·have f:(k==1)=false:=by simpa using c
  by_cases d:k=4
  ·subst d;go_enter func72,ntmps72;go_wp2;go_ret;exact⟨rfl,rfl⟩
  ·have g:(k==4)=false:=by simpa using d
   have e:EI k= -1:=by unfold EI;rw[if_neg ϟ]
   rw[e];go_enter func72,ntmps72;go_wp2;go_ret;exact⟨rfl,rfl⟩
theorem U2(a:Ϝ)(cap:Nat)(l:List Chg)(i:Nat)(w:ϛ)(t:BZ w a l)(P:CU l)(H:l.length<=1000000)(y:i<l.length):
 η 131 #[vS a l.length cap,vI i] w (θ w (.bool (Ca l i))):=by
 obtain⟨b,o,X,Z,e,C,I,J⟩:=t i y;subst e;have c:ϝ (Ca l i=if (l.getD i ϰ).k=3 then decide (i+1<l.length)&&decide ((l.getD (i+1) ϰ).k=4)else if (l.getD i ϰ).k=4 then decide (0<i)&&decide ((l.getD (i - 1) ϰ).k=3)else true):=rfl;have q:ϝ (∀j,j<l.length->Δ w b (o+j * 2) (vI (l.getD j ϰ).k)):=λj F=>by
  obtain⟨K,W,Y,aa,D,p,y2,y3⟩:=t j F
  cases D
  exact p
 obtain⟨k,z⟩:∃k,(l.getD i ϰ).k=k:=⟨_,rfl⟩;rw[z]at C c;clear z t I J;obtain⟨n,A⟩:∃n,l.length=n:=⟨_,rfl⟩;rw[A]at H y c q⊢;clear A;have U:(0:Int)<=(i:Int):=ϟ;have V:(i:Int)<(n:Int):=ϟ;have R:IntKind.i64.wrap ((i:Int)+1)=(i:Int)+1:=by rw[BA];omega
 by_cases s:k=3
 ·subst s;by_cases f:i+1<n
  ·have p:=q.o (i+1) f;obtain⟨g,m⟩:∃k,(l.getD (i+1) ϰ).k=k:=⟨_,rfl⟩;rw[m]at p c;have u:(i:Int)+1<(n:Int):=ϟ;have h:decide (g=4)=(g==4):=by rw[Bool.eq_iff_iff];simp
   have d:ϝ (Ca l i=(g==4)):=by show Ca l i=_;rw[c.o,if_pos rfl,decide_eq_true f,h];rfl
   clear c m h;go_enter func131,ntmps131;go_wp2;go_ret;exact⟨Ab d.o.symm,by first|exact bR|exact bR.drew⟩
  ·have u:¬(i:Int)+1<(n:Int):=ϟ;have d:ϝ (Ca l i=false):=by show Ca l i=_;rw[c.o,if_pos rfl,decide_eq_false f];rfl
   clear c;go_enter func131,ntmps131;go_wp2;go_ret;exact⟨Ab d.o.symm,by first|exact bR|exact bR.drew⟩
 ·have L:(k==3)=false:=by simpa using s
  by_cases f:k=4
  ·subst f;by_cases x:0<i
   ·obtain⟨j,rfl⟩:∃j,i=j+1:=⟨i - 1,ϟ⟩;have p:=q.o j ϟ;have G:(j+1:Nat) - 1=j:=ϟ;rw[G]at c;obtain⟨g,m⟩:∃k,(l.getD j ϰ).k=k:=⟨_,rfl⟩;rw[m]at p c;have h:decide (g=3)=(g==3):=by rw[Bool.eq_iff_iff];simp
    have d:ϝ (Ca l (j+1)=(g==3)):=by show Ca l (j+1)=_;rw[c.o,if_neg Ϡ,if_pos rfl,decide_eq_true x,h];rfl
    have M:(0:Int)<((j:Int)+1):=ϟ;have N:((j:Int))<(n:Int):=ϟ;have O:(0:Int)<=(j:Int):=ϟ;have S:IntKind.i64.wrap ((j:Int)+1 - 1)=(j:Int):=by rw[BA];omega
    have T:IntKind.i64.wrap (j:Int)=(j:Int):=by rw[BA];omega
    clear c m h;go_enter func131,ntmps131;go_wp2;go_ret;exact⟨Ab d.o.symm,by first|exact bR|exact bR.drew⟩
   ·have E:i=0:=ϟ;subst E;have d:ϝ (Ca l 0=false):=by show Ca l 0=_;rw[c.o,if_neg Ϡ,if_pos rfl,decide_eq_false x];rfl
    clear c;simp only[Nat.zero_mul,Nat.add_zero]at C;go_enter func131,ntmps131;go_wp2;go_ret;exact⟨Ab d.o.symm,by first|exact bR|exact bR.drew⟩
  ·have u:(k==4)=false:=by simpa using f
   have d:ϝ (Ca l i=true):=by show Ca l i=_;rw[c.o,if_neg s,if_neg f]
   clear c;go_enter func131,ntmps131;go_wp2;go_ret;exact⟨Ab d.o.symm,by first|exact bR|exact bR.drew⟩
theorem Acy:(Tryz.prog.info? 9).map (λi=>(i.zero,i.size,i.bytes))=some (some (.string ⟨#[]⟩),1,16):=Ϣ
def U3(c:Chg):Value:=.string ⟨(encR c.r).toArray⟩
theorem AbB(h:rowOk r):(.string (FV r):Value)= .string ⟨(encR r).toArray⟩:=by
 rw[<-K8 h]
theorem U4(m:o.guard=none)(s x:Operand)
 (q:o.op= .call {callee:=.builtin .append,args:=#[s,x],argTypes:=#[118,118]}) (base:Nat) (v:Value) (n:Nat) (e:List Value) (y:a.eval s=v) (c:ϛ)
 (t:c.ownsRow base 9 1 v n e) (X:ByteArray) (B:Nat) (l:c.heap.size=B) (z:a.eval x=vS (τ B) 1 1) (G:n<=2000000) (F:base<=c.heap.size)
 (h:∀d w',w'.ownsRow base 9 1 d (n+1) (e++[.string X])->(c.alloc (.cells #[.string X] 9)).grownBy w' v.ownBlock->wpList Tryz.prog ops Q rest (a.put o.dst d) w'):
 wpList Tryz.prog ops Q (o::rest) a (ξ c #[.string X] 9):=by
 subst l;obtain⟨E,p,A,C,D⟩:=info_parts Acy;refine wpList_append_own _ m s x 118 q base 9 E (.string ⟨#[]⟩) 1 16 underlying118 p A C D rfl Ϡ v n e y
  (World.ownsRow.alloc t _) ⟨c,0,none⟩ 1 1 [.string X] z rfl (cell_one_new _ _ _) (by intro u f;simp at f;subst f;rfl) ϩ ϟ Ϥ ?_
 intro d w' g j _;exact h d w' g j
theorem XW{c:ϛ}{e:TypeId}{size:Nat}{j:List Value}{v:Value}{o:Obj}(d:Below base w c)(h0:base<=c.heap.size)(h:c.ownsRow base e size v n j)(f:(c.alloc o).grownBy w' v.ownBlock):Below base w w':=
 (d.alloc h0 o).grown f Ϥ (λk g=>(World.ownsRow.lt h k g).1)
theorem QA{l:List Chg}(h:4096<l.length):Bq l=2:=by unfold Bq;rw[if_pos h]
theorem U5{l:List Chg}(h1:¬4096<l.length)(k:Nat)(e:k<l.length)(h:∀i,i<k->NG l i)(c:Gt l k≠0):Bq l=Gt l k:=by
 unfold Bq;rw[if_neg h1,Aae _ (λi d=>P7 (h i d)) c e]
theorem takeC(l:List Chg)(k:Nat)(h:k<l.length):l.take (k+1)=l.take k++[l.getD k ϰ]:=by
 rw[take_succ_eq_append_getElem h];simp[gDe,h]
theorem U6{l:List Chg}(h:w.ownsRow base 9 1 (vS ad l.length cap) l.length (l.map U3)):Gs w ad l:=by
 intro i f;obtain⟨m,p,j,d⟩:=Iv h
 cases j
 obtain⟨g,rfl⟩:=d ϟ;refine⟨g,rfl,?_⟩;have c:=World.ownsRow.cells h (g:=g) rfl i (.string ⟨(encR (l.getD i ϰ).r).toArray⟩) (by
  simp[getElem?_map,gEe f,gDe,U3])
 have e:(⟨g,0,none⟩:Addr).add i=⟨g,i,none⟩:=by unfold Addr.add;split<;>simp_all
 rw[e]at c;exact c
theorem Kk{a b:Int}(h:a=b):Ending.returned (.tuple #[ψ,vI a])= .returned (.tuple #[ψ,vI b]):=by rw[h]
theorem Adc{a:Nat}(h:a=b):Ending.returned (.tuple #[vS ad a cap,ω])= .returned (.tuple #[vS ad b cap,ω]):=by rw[h]
def Wg(l:List Chg)(e:Ending)(w':World):Prop:=
 (Bq l=0/\Bf l/\∃ad cap,e= .returned (.tuple #[vS ad l.length cap,ω])/\Gs w' ad l)\/
 (Bq l≠0/\e= .returned (.tuple #[ψ,vI (Bq l)]))
theorem Kl{l:List Chg}{x:Int}(h:Bq l=x)(c:x≠0):Wg l (.returned (.tuple #[ψ,vI x])) w':=.inr ⟨by rw[h];exact c,Kk h.symm⟩
theorem U7(a:Ϝ)(cap:Nat)(l:List Chg)(w:ϛ)(hv:BZ w a l)(hw:CU l)(N:l.length<=χ):
 η 70 #[vS a l.length cap] w λe w'=>Wg l e w'/\Ϟ w w':=by
 have KP:ϝ (∀w,BZ w a l->l.length<=1000000->∀i,i<l.length->CT 131 #[vS a l.length cap,vI i] w (θ w (.bool (Ca l i)))):=λw h N i j=>U2 a cap l i w h hw N j;obtain⟨n,R⟩:∃n,l.length=n:=⟨_,rfl⟩;have q:=hV0 R;rw[R]at N KP⊢;clear R;by_cases h4:4096<n
 ·have f:ϝ (Bq l=2):=QA (by rw[q.o];exact h4);go_enter func70,ntmps70;go_wp2
  go_ret2
  exact⟨Kl f.o Ϡ,bR⟩
 ·obtain⟨i0,j,aj,ak,al⟩:=info_parts Acy;obtain⟨wm,a1,A,ac⟩:=run_make_own (P:=Tryz.prog) w w.heap.size 118 9 i0 (.string ⟨#[]⟩) 1 underlying118 j aj ak .i64 .i64 n (by rw[al];omega) ϩ nR;have aq:Ϟ w wm:=bR.grown ac nR (λk hk=>by cases hk);have ao:=hV0 A;have Z:=hV0 hv;clear j aj ak al A ac hv;go_enter func70,ntmps70;go_wp2
  go_loopw [4,17] (λv i wr=> ∃k:Nat,k<=n/\i=vI k/\wr.ownsRow w 9 1 v k ((l.take k).map U3)/\Ϟ w wr/\(∀i,i<k->NG l i)) (λ_ i _=>n - (intOf i).toNat)
  case atStart=>exact⟨0,ϟ,rfl,ao.o,aq,λi j=>absurd j (Nat.not_lt_zero i)⟩
  case round=>
   obtain⟨k,hk,rfl,A,g,aa⟩:=hrel;have K:=hV0 A;have J:=hV0 aa;have C:=g.size;clear A aa;by_cases ag:k<n
   ·have G:k<l.length:=by rw[q.o];exact ag
    obtain⟨b,o,H,rc,e,x1,x2,x3⟩:=Z.o k G;subst e;obtain⟨I,V,am,an⟩:=Q9 hw k G;have q1:=cLz g x1;have T:=cLz g x2;have z:ϝ (vl.rowAt wr H (l.getD k ϰ).r):=Ac x3 g;have i1:(0:Int)<=(k:Int):=ϟ;have i2:(k:Int)<(n:Int):=ϟ;have D:ϝ (Gt l k≠0->Bq l=Gt l k):=λhe=>U5 (by rw[q.o];exact h4) k G J.o he;have M:ϝ ((l.take (k+1)).map U3=(l.take k).map U3++[.string ⟨(encR (l.getD k ϰ).r).toArray⟩]):=by
     show(l.take (k+1)).map U3=_;rw[takeC l k G,map_append];rfl
    have p:ϝ (Gt l k=if (l.getD k ϰ).k<1\/4<(l.getD k ϰ).k then 4 else if A3 (l.getD k ϰ).r=0 then(if Ca l k then 0 else 6)else A3 (l.getD k ϰ).r):=rfl;have L:ϝ (∀w',Ϟ w w'->CT 131 #[vS (some ⟨b,o,none⟩) n cap,vI k] w' (θ w' (.bool (Ca l k)))):=λw' hb=>KP.o w' (Ct Z.o hb) ϟ k ag;obtain⟨⟨m,r⟩,ab⟩:∃c,l.getD k ϰ=c:=⟨_,rfl⟩;rw[ab]at q1 T z M p I V am an;dsimp only at q1 T z M p I V am an;clear x1 x2 x3 ab;obtain⟨rl,ai⟩:∃l,r.length=l:=⟨_,rfl⟩;rw[ai]at T;have E:ϝ (∀w,vl.rowAt w H r->CT 109 #[vS H rl rc] w (θ w (.tuple #[.string (FV r),vI (A3 r)]))):=by
     subst ai;exact λw h=>Mj H rc r w h I V
    by_cases e1:m<1
    ·have f:ϝ (Bq l=4):=by
      have d:=p.o;rw[if_pos (.inl e1)]at d;show Bq l=4;rw[D.o (by rw[d];decide),d]
     go_wp2
     go_ret2
     exact⟨Kl f.o Ϡ,g.alloc C _⟩
    ·have ay:decide (m<1)=false:=decide_eq_false e1;by_cases e2:4<m
     ·have f:ϝ (Bq l=4):=by
       have d:=p.o;rw[if_pos (.inr e2)]at d;show Bq l=4;rw[D.o (by rw[d];decide),d]
      go_wp2
      go_ret2
      exact⟨Kl f.o Ϡ,g.alloc C _⟩
     ·have az:decide (4<m)=false:=decide_eq_false e2;by_cases t:A3 r=0
      ·have ah:rowOk r:=NM t I;have W:ϝ ((.string (FV r):Value)= .string ⟨(encR r).toArray⟩):=AbB ah;obtain⟨ks,af⟩:∃s,FV r=s:=⟨_,rfl⟩;obtain⟨pb,S⟩:∃x,Ca l k=x:=⟨_,rfl⟩;rw[af]at E W;rw[S]at L p;have ax:=hV0 S;clear af ah S
       cases pb
       ·have f:ϝ (Bq l=6):=by
         have d:=p.o;rw[if_neg ϟ,if_pos t,if_neg Ϡ]at d;show Bq l=6;rw[D.o (by rw[d];decide),d]
        go_wp2_with (first
         |(go_at_call 109;refine(E.o _ (Ac z.o Ϫ)).mono ?_;rintro e U ⟨rfl,y⟩;have u:=(g.alloc C _).trans (y.mono Ϥ))
         |(go_at_call 131;refine(L.o _ u).mono ?_;rintro e wb ⟨rfl,F⟩))
        go_ret2
        exact⟨Kl f.o Ϡ,bT u F⟩
       ·have f:ϝ (NG l k):=Su (by
         have d:=p.o;rw[if_neg ϟ,if_pos t,if_pos rfl]at d;exact d)
        go_wp2_with (first
         |(go_at_call 109;refine(E.o _ (Ac z.o Ϫ)).mono ?_;rintro e U ⟨rfl,y⟩;have u:=(g.alloc C _).trans (y.mono Ϥ);have ar:Ϟ wr U:=Ϫ.trans (y.mono ϡ))
         |(go_at_call 131;refine(L.o _ u).mono ?_;rintro e wb ⟨rfl,F⟩;have O:=bT u F;have Y:=own_below K.o (bT ar F))
         |(at_builtin;refine U4 rfl (.tmp 43) (.tmp 45) rfl w.heap.size _ k _ rfl _ Y _ _ rfl rfl ϟ O.size ?_;intro v' w1 av au))
        go_roundw
        case rel=>exact⟨k+1,ϟ,by go_num,by rw[M.o,<-W.o];exact av,XW O O.size Y au,λi j=>by
         rcases Nat.lt_or_ge i k with h|h
         ·exact J.o i h
         ·rw[show i=k by omega];exact f.o⟩
        case measure=>simp[intOf];omega
      ·have a0:(A3 r==0)=false:=by simpa using t
       have f:ϝ (Bq l=A3 r):=by
        have d:=p.o;rw[if_neg ϟ,if_neg t]at d;show Bq l=A3 r;rw[D.o (by rw[d];exact t),d]
       go_wp2_with (go_at_call 109;refine(E.o _ (Ac z.o Ϫ)).mono ?_;rintro e U ⟨rfl,y⟩;have u:=(g.alloc C _).trans (y.mono Ϥ))
       go_ret2
       exact⟨Kl f.o t,u⟩
   ·have ae:k=n:=ϟ;have HT:ϝ (l.take k=l):=take_of_length_le (by rw[q.o];omega);have X:ϝ (Bf l):=⟨by rw[q.o];omega,λi j=>J.o i (by rw[q.o]at j;omega)⟩;obtain⟨ad,ap,aw,_⟩:=Iv K.o;subst aw;go_wp2
    go_ret2
    exact⟨.inl ⟨AbA X.o,X.o,ad,ap,Adc (ae.trans q.o.symm),U6 (by have h:=K.o;rw[HT.o,ae]at h;rw[q.o];exact h)⟩,g⟩
def keyed(kv:KV):Prop:=∀p∈kv,∃r,rowOk r/\encR r=p.1
structure F6(kv:KV):Prop where
 up:rising kv
 len:kv.length<=4096
 cnt:∀p∈kv,1<=p.2/\p.2<=1073741824
 key:keyed kv
theorem before_total:∀(a b:List UInt8),bytesBefore a b=false->a≠b->bytesBefore b a=true
 |[],[],_,h=>absurd rfl h
 |[],_::_,h,_=>by simp[bytesBefore]at h
 |_::_,[],_,_=>by simp[bytesBefore]
 |a::x,b::y,h,hne=>by
  rw[bytesBefore]at h⊢;by_cases e:a=b
  ·subst e;have g:x≠y:=λe=>hne (by rw[e]);have c:bytesBefore x y=false:=by simpa using h
   simp[before_total x y c g]
  ·have c:¬a<b:=by
    intro f;simp[f]at h
   have d:b<a:=by
    rw[UInt8.lt_iff_toNat_lt]at c⊢;have:a.toNat≠b.toNat:=λh=>e (UInt8.toNat_inj.1 h);omega
   simp[d]
theorem mem_ins(x:List UInt8×Int)(l:KV):∀p,p∈insK x l↔p=x\/p∈l:=by
 induction l with
 |nil=>intro p;simp[insK]
 |cons y r ih=>
  intro p;rw[insK];split
  ·simp
  ·rw[mem_cons,ih p,mem_cons]
   constructor
   ·rintro (h|h|h)
    ·exact .inr (.inl h)
    ·exact .inl h
    ·exact .inr (.inr h)
   ·rintro (h|h|h)
    ·exact .inr (.inl h)
    ·exact .inl h
    ·exact .inr (.inr h)
theorem AbC(x:List UInt8×Int)(l:KV):(insK x l).length=l.length+1:=by
 induction l with
 |nil=>rfl
 |cons y r ih=>
  rw[insK];split
  ·rfl
  ·rw[length_cons,ih,length_cons]
theorem U8{x:List UInt8×Int}{l:KV}(h:rising l)(g:∀p∈l,p.1≠x.1):rising (insK x l):=by
 induction l with
 |nil=>exact pairwise_singleton _ _
 |cons y r ih=>
  have f:=pairwise_cons.1 h;rw[insK];split
  ·rename_i d;refine pairwise_cons.2 ⟨?_,h⟩;intro p c;rcases mem_cons.1 c with e|c
   ·rw[e];exact d
   ·exact before_trans d (f.1 p c)
  ·rename_i d;refine pairwise_cons.2 ⟨?_,ih f.2 (λp c=>g p (mem_cons_of_mem _ c))⟩;intro p c;rcases(mem_ins x r p).1 c with e|c
   ·rw[e];exact before_total _ _ (by simpa using d) (λe=>g y (mem_cons_self ..) e.symm)
   ·exact f.1 p c
theorem Mu{p:List UInt8×Int}:p∈J5 kv k↔p∈kv/\p.1≠k:=by
 unfold J5;rw[mem_filter];simp
theorem NH(h:rising kv)(k:List UInt8):rising (J5 kv k):=List.Pairwise.filter _ h
theorem Wh(kv:KV)(k:List UInt8):(J5 kv k).length<=kv.length:=length_filter_le _ _
theorem U9(h:rising kv)(k:List UInt8)(n:Int):rising (Kn kv k n):=U8 (NH h k) (λp c=>(Mu.1 c).2)
theorem mem_put{n:Int}{p:List UInt8×Int}:p∈Kn kv k n↔p=(k,n)\/(p∈kv/\p.1≠k):=by
 unfold Kn;rw[mem_ins,Mu]
theorem Sw(h:E5 kv k≠0):(k,E5 kv k)∈kv:=by
 unfold E5 at *
 cases e:kv.find? (λp=>p.1==k)with
 |none=>rw[e]at h;exact absurd rfl h
 |some p=>
  dsimp only;have c:=mem_of_find?_eq_some e;have d:=find?_some e;have f:p.1=k:=by simpa using d
  rw[<-f];exact c
theorem UA(h:E5 kv k≠0):(J5 kv k).length<kv.length:=by
 have c:=Sw h;unfold J5;rw[length_filter_lt_length_iff_exists];exact⟨_,c,ϡ⟩
theorem AbD{n:Int}:(Kn kv k n).length=(J5 kv k).length+1:=by unfold Kn;rw[AbC]
theorem XX(h:keyed kv)(k:List UInt8):keyed (J5 kv k):=λp c=>h p (Mu.1 c).1
theorem XY(h:keyed kv)(d:rowOk r)(n:Int):keyed (Kn kv (encR r) n):=λp c=>by
 rcases mem_put.1 c with e|e
 ·subst e;exact⟨r,d,rfl⟩
 ·exact h p e.1
theorem Aaf(h:F6 kv)(k:List UInt8):0<=E5 kv k/\E5 kv k<=1073741824:=by
 by_cases e:E5 kv k=0
 ·omega
 ·have:=h.cnt _ (Sw e);exact⟨ϟ,this.2⟩
theorem Aag(h:F6 kv)(f:rowOk r)(n:Int):F6 (UC kv (encR r) n):=by
 unfold UC;split
 ·exact h
 ·split
  ·exact h
  ·split
   ·exact⟨NH h.up _,Nat.le_trans (Wh _ _) h.len,λp c=>h.cnt p (Mu.1 c).1,XX h.key _⟩
   ·split
    ·exact h
    ·rename_i g j l d;refine⟨U9 h.up _ _,?_,?_,XY h.key f _⟩
     ·rw[AbD];have q:=h.len;by_cases e:E5 kv (encR r)=0
      ·have:=Wh kv (encR r);have m:kv.length≠4096:=λh=>d ⟨e,h⟩;omega
      ·have:=UA e;omega
     ·intro p c;rcases mem_put.1 c with e|e
      ·subst e;exact⟨ϥ,ϥ⟩
      ·exact h.cnt p e.1
theorem XZ(h:keyed kv):∃out:List Cnt,Bi out=kv/\∀c∈out,rowOk c.r:=by
 induction kv with
 |nil=>exact⟨[],rfl,λc d=>by cases d⟩
 |cons p r ih=>
  obtain⟨out,g,j⟩:=ih (λq s=>h q (mem_cons_of_mem _ s));obtain⟨f,l,m⟩:=h p (mem_cons_self ..);refine⟨⟨f,p.2⟩::out,?_,?_⟩
  ·show(encR f,p.2)::Bi out=p::r;rw[g,m]
  ·intro c d;rcases mem_cons.1 d with e|d
   ·rw[e];exact l
   ·exact j c d
theorem Ox{a b:List Cel}(ha:rowOk a)(d:rowOk b)(h:bytesBefore (encR a) (encR b)=true):B5 a b<0:=by
 have e:=PF a b ha.2 d.2;have c:=Kb (encR a) (encR b);rw[Ep]at h;rw[Gh,h,if_pos rfl]at c;omega
theorem Aah(h:rowOk r):Cj r:=λc d=>(h.2 c d).2
theorem AD{α:Type} [Inhabited α]{l:List α}{i:Nat}(h:i<l.length):l.getD i ϰ∈l:=by simp[gDe,h]
theorem Sx{c:Cnt}(h:c∈out):(encR c.r,c.n)∈Bi out:=mem_map.2 ⟨c,h,rfl⟩
theorem Ya(h:F6 (Bi out))(e:∀c∈out,rowOk c.r):EK out/\EJ out:=by
 refine⟨⟨by have:=h.len;rw[Kt]at this;exact this,?_⟩,?_⟩
 ·intro i f;have g:=AD f;have d:=h.cnt _ (Sx g);refine⟨IW (e _ g),d.1,d.2,λt=>?_⟩;have s:=AD (l:=out) (i:=i - 1) ϟ;refine Ox (e _ s) (e _ g) ?_;have j:=h.up;unfold rising Bi at j;rw[pairwise_map,pairwise_iff_getElem]at j;have:=j (i - 1) i ϟ f ϟ;have m:out[i - 1]=out.getD (i - 1) ϰ:=by simp[gDe,show i - 1<out.length by omega]
  have p:out[i]=out.getD i ϰ:=by simp[gDe,f]
  rw[m,p]at this;exact this
 ·intro c d;have q:=h.cnt _ (Sx d);have u:=(e c d).1;dsimp only at q;exact⟨Aah (e c d),ϟ,ϟ,ϟ⟩
theorem Yb(f:EJ v)(h:EK v):∀c∈v,rowOk c.r:=by
 intro c e;obtain⟨i,d,rfl⟩:=getElem_of_mem e;have:=QE f d (h.2 i d);simpa[gDe,d]using this
theorem Yc(g:EJ v)(h:EK v):F6 (Bi v):=by
 refine⟨Yj g h,by rw[Kt];exact h.1,?_,?_⟩
 ·intro p e;obtain⟨c,d,rfl⟩:=mem_map.1 e;obtain⟨i,f,rfl⟩:=getElem_of_mem d;have:=h.2 i f;simp only[Hh,gDe,gEe f,Option.getD_some]at this;exact⟨this.2.1,this.2.2.1⟩
 ·intro p e;obtain⟨c,d,rfl⟩:=mem_map.1 e;exact⟨c.r,Yb g h c d,rfl⟩
def Ad0(kv:KV)(c:Chg):KV:=UC kv (encR c.r) (EI c.k)
def atK(kv:KV)(l:List Chg)(i:Nat):KV:=(l.take i).foldl Ad0 kv
def J4(kv:KV)(l:List Chg)(i:Nat):Int:=AbK (atK kv l i) (encR (l.getD i ϰ).r) (EI (l.getD i ϰ).k)
theorem Sy(kv:KV)(l:List Chg)(i:Nat)(h:i<l.length):atK kv l (i+1)=UC (atK kv l i) (encR (l.getD i ϰ).r) (EI (l.getD i ϰ).k):=by
 unfold atK;rw[takeC l i h,foldl_append];rfl
theorem Wi{l:List Chg}(d:CU l)(h:Bf l)(i:Nat)(c:i<l.length):rowOk (l.getD i ϰ).r:=NM (h.2 i c).2.2.1 (Q9 d i c).1
theorem Wj(h:F6 kv){l:List Chg}(d:CU l)(c:Bf l)(i:Nat)(e:i<=l.length):F6 (atK kv l i):=by
 induction i with
 |zero=>exact h
 |succ i ih=>
  rw[Sy kv l i ϟ];exact Aag (ih ϟ) (Wi d c i ϟ) _
def AbE(v:List Cnt)(l:List Chg)(e:Ending)(w':World):Prop:=
 (BE v≠0/\e= .returned (.tuple #[ψ,ω,vI (BE v)]))\/
 (BE v=0/\Bq l≠0/\e= .returned (.tuple #[ψ,ω,vI (Bq l)]))\/
 (BE v=0/\Bq l=0/\∃k:Nat,k<l.length/\(∀i,i<k->J4 (Bi v) l i=0)/\J4 (Bi v) l k≠0/\e= .returned (.tuple #[ψ,vI k,vI (J4 (Bi v) l k)]))\/
 (BE v=0/\Bq l=0/\(∀i,i<l.length->J4 (Bi v) l i=0)/\∃out ad cap,Bi out=atK (Bi v) l l.length/\EK out/\EJ out/\e= .returned (.tuple #[vS ad out.length cap,ω,ω])/\viewAt w' ad out)
theorem Yd{x:Value}(h:DZ w B nn kv):w.cell? ⟨B,i,none⟩≠some x:=by
 obtain⟨f,d,c,g,j,l⟩:=h;intro e;simp[World.cell?,c]at e
theorem QB{l:List Chg}(h:Gs w ad l)(d:DZ w B nn kv)(f:w.grownBy w' (some B)):Gs w' ad l:=by
 intro i m;obtain⟨g,e,c⟩:=h i m;refine⟨g,e,f.cell c (λh=>?_)⟩;have j:g=B:=by simpa using h
 subst j;exact Yd d c
theorem AbF(k:Int): -1<=EI k/\EI k<=1:=by unfold EI;split<;>omega
theorem Aai{a b c d:Int}(h:a=b)(k:c=d):Ending.returned (.tuple #[ψ,vI a,vI c])= .returned (.tuple #[ψ,vI b,vI d]):=by rw[h,k]
theorem AbG{a:Nat}(h:a=b):Ending.returned (.tuple #[vS ad a cap,ω,ω])= .returned (.tuple #[vS ad b cap,ω,ω]):=by rw[h]
theorem AbH(h:rowOk r):(encR r).length<=maxLen:=by
 have e:=Hz r (λc d=>(h.2 c d).1);have f:=h.1;unfold maxLen;omega
theorem Aaj(a c:Ϝ)(ca cc:Nat)(v:List Cnt)(l:List Chg)(w:ϛ)(hv:viewAt w a v)(av:EJ v)(a8:v.length<=χ)(X:BZ w c l)(M:CU l)(a6:l.length<=χ):
 η 37 #[vS a v.length ca,vS c l.length cc] w λe w'=>AbE v l e w'/\Ϟ w w':=by
 have U:=UG a ca v w hv av a8;have KK:=hIz (λ(N:ϛ) (hb:Ϟ w N)=>U7 c cc l N (Ct X hb) M a6);have HC:=hV0 X;clear X hv;obtain⟨m,K⟩:∃m,v.length=m:=⟨_,rfl⟩;have HM:=hV0 K;obtain⟨n,L⟩:∃n,l.length=n:=⟨_,rfl⟩;have p:=hV0 L;rw[K]at U;rw[L]at KK;rw[K,L];clear K L;go_enter func37,ntmps37;go_wp2_with fail;refine U.mono ?_;rintro e N ⟨ac,W⟩;rcases ac with⟨t,ar,B,rfl,hB,C⟩|⟨t,rfl⟩
 ·have A:ϝ (BE v=0):=t;have aj:ϝ (EK v):=ar;have f:=hV0 C;clear t ar C;go_wp2_with fail;refine(KK.o N W).mono ?_;rintro e w2 ⟨ac,am⟩;have au:Ϟ w w2:=bT W am;rcases ac with⟨q,ap,ad,kc,rfl,E⟩|⟨q,rfl⟩
  ·have G:ϝ (Bq l=0):=q;have H:ϝ (Bf l):=ap;have az:=hV0 E;have ax:ϝ (DZ w2 B v.length (Bi v)):=CN f.o am;have HG:ϝ (F6 (Bi v)):=Yc av aj.o;have bd:m<=4096:=by rw[<-HM.o];exact aj.o.1
   have be:n<=4096:=by rw[<-p.o];exact H.o.1
   rw[p.o];clear q ap E f U;go_wp2
   go_loopw [31] (λi wr=> ∃k:Nat,k<=n/\i=vI k/\DZ wr B (m+k) (atK (Bi v) l k)/\Ϟ w wr/\Gs wr ad l/\(∀i,i<k->J4 (Bi v) l i=0)) (λi _=>n - (intOf i).toNat)
   case atStart=>exact⟨0,ϟ,rfl,by rw[<-HM.o];exact ax.o,au,az.o,λi J=>absurd J (Nat.not_lt_zero i)⟩
   case round=>
    obtain⟨k,hk,rfl,C,s,E,al⟩:=hrel;have f:=hV0 C;have ah:=hV0 E;have O:=hV0 al;clear C E al;by_cases a7:k<n
    ·have D:k<l.length:=by rw[p.o];exact a7
     obtain⟨b,o,ra,rc,e,x1,_,_⟩:=HC.o k D;subst e;have q1:=cLz s x1;obtain⟨g,e,q2⟩:=ah.o k D;subst e;have R:ϝ (rowOk (l.getD k ϰ).r):=Wi M H.o k D;have y:ϝ (F6 (atK (Bi v) l k)):=Wj HG.o M H.o k ϟ;have z:ϝ (atK (Bi v) l (k+1)=UC (atK (Bi v) l k) (encR (l.getD k ϰ).r) (EI (l.getD k ϰ).k)):=Sy (Bi v) l k D;have u:ϝ (J4 (Bi v) l k=AbK (atK (Bi v) l k) (encR (l.getD k ϰ).r) (EI (l.getD k ϰ).k)):=rfl;obtain⟨⟨F,r⟩,ao⟩:∃c,l.getD k ϰ=c:=⟨_,rfl⟩;rw[ao]at q1 q2 R z u;dsimp only at q1 q2 R z u;clear x1 ao;obtain⟨j,Z⟩:∃x,(⟨(encR r).toArray⟩:ByteArray)=x:=⟨_,rfl⟩;have ag:ϝ (encR r=j.data.toList):=by show encR r=j.data.toList;rw[<-Z]
     have ay:ϝ (j.size<=maxLen):=by
      show j.size<=maxLen;rw[<-AU,<-ag.o];exact AbH R.o
     rw[Z]at q2;rw[ag.o]at z u;clear Z;have i1:(0:Int)<=(k:Int):=ϟ;have i2:(k:Int)<(n:Int):=ϟ;have a3:=Aaf y.o j.data.toList;have a9:=AbF F;have a4:=y.o.len;have T:ϝ (∀w',DZ w' B (m+k) (atK (Bi v) l k)->CT 71 #[.map (some B),.string j,vI (EI F)] w' λe aw=>e= .returned (vI (J4 (Bi v) l k))/\DZ aw B (m+k+1) (atK (Bi v) l (k+1))/\w'.grownBy aw (some B)):=λw' h=>by
      rw[z.o,u.o];exact AbL B (m+k) _ j (EI F) w' h ay.o ϩ ϟ ϟ ϟ ϟ ϟ
     clear z u a3 a9 a4;obtain⟨er,Y⟩:∃x,J4 (Bi v) l k=x:=⟨_,rfl⟩;rw[Y]at T;have P:=hV0 Y;clear Y;by_cases V:er=0
     ·subst V;go_wp2_with (first
       |(go_at_call 72;refine(Sv F _).mono ?_;rintro e wa ⟨rfl,rfl⟩)
       |(go_at_call 71;refine(T.o _ f.o).mono ?_;rintro e wb ⟨rfl,an,I⟩))
      go_roundw
      case rel=>exact⟨k+1,ϟ,by go_num,an,s.grown I s.size (λx d=>by cases d;exact hB),QB ah.o f.o I,λi J=>by
       rcases Nat.lt_or_ge i k with h|h
       ·exact O.o i h
       ·rw[show i=k by omega];exact P.o⟩
      case measure=>simp[intOf];omega
     ·have bc:(er==0)=false:=by simpa using V
      go_wp2_with (first
       |(go_at_call 72;refine(Sv F _).mono ?_;rintro e wa ⟨rfl,rfl⟩)
       |(go_at_call 71;refine(T.o _ f.o).mono ?_;rintro e wb ⟨rfl,an,I⟩))
      go_ret3
      exact⟨.inr (.inr (.inl ⟨A.o,G.o,k,D,O.o,by rw[P.o];exact V,Aai rfl P.o.symm⟩)),s.grown I s.size (λx d=>by cases d;exact hB)⟩
    ·have a5:k=n:=ϟ;have y:ϝ (F6 (atK (Bi v) l k)):=Wj HG.o M H.o k (by rw[p.o];exact hk);obtain⟨out,aa,ab⟩:=XZ y.o.key;have ai:=hV0 aa;have af:ϝ (F6 (Bi out)):=by show F6 (Bi out);rw[aa];exact y.o
     have ae:=Ya af.o ab;have bg:=ae.1.1;have KV:=Aad B (m+k) out wr (by rw[ai.o];exact f.o) af.o.up ab ϟ;have ak:=hV0 ae;clear ae aa ab;obtain⟨ol,aq⟩:∃x,out.length=x:=⟨_,rfl⟩;rw[aq]at KV;have a0:=hV0 aq;go_wp2_with (go_at_call 73;refine KV.mono ?_;rintro e w9 ⟨⟨oa,oc,rfl,ba⟩,a1⟩)
     go_ret3
     exact⟨.inr (.inr (.inr ⟨A.o,G.o,λi J=>O.o i (by rw[p.o]at J;omega),out,oa,oc,by rw[ai.o,a5,p.o],ak.o.1,ak.o.2,AbG a0.o.symm,ba⟩)),bT s a1⟩
  ·have a2:(Bq l==0)=false:=by simpa using q
   have G:=hV0 q;clear q;obtain⟨x,d⟩:∃x,Bq l=x:=⟨_,rfl⟩;have S:=hV0 d;rw[d]at a2⊢;clear d;go_wp2
   go_ret3
   exact⟨.inr (.inl ⟨A.o,G.o,Aai rfl S.o.symm⟩),au⟩
 ·have bb:(BE v==0)=false:=by simpa using t
  have A:=hV0 t;clear t;obtain⟨x,d⟩:∃x,BE v=x:=⟨_,rfl⟩;have S:=hV0 d;rw[d]at bb⊢;clear d;go_wp2
  go_ret3
  exact⟨.inl ⟨A.o,Aai rfl S.o.symm⟩,W⟩
instance:DecidableEq Cnt:=λa b=>if h:a.r=b.r/\a.n=b.n then isTrue (by cases a;cases b;simp at h;simp[h])else isFalse (λe=>h (by rw[e];exact⟨rfl,rfl⟩))
instance:DecidableEq Chg:=λa b=>if h:a.k=b.k/\a.r=b.r then isTrue (by cases a;cases b;simp at h;simp[h])else isFalse (λe=>h (by rw[e];exact⟨rfl,rfl⟩))
theorem Sz{c d:List Chg}{k:Nat}(h1:k<c.length)(e:k<d.length)(h:c.take k=d.take k)(f:c.getD k ϰ=d.getD k ϰ):c.take (k+1)=d.take (k+1):=by
 rw[takeC c k h1,takeC d k e,h,f]
theorem Ade{c d:List Chg}{k:Nat}(f:c.getD k ϰ≠d.getD k ϰ):decide (c=d)=false:=decide_eq_false (λe=>f (by rw[e]))
theorem Fh(base:Nat)(t j e:TypeId)(i:TypeInfo)(size c:Nat)(ht:Tryz.prog.underlying t=some (.slice e))(d:Tryz.prog.info? e=some i)
 (v:Value) (n:Nat) (l:List Value) (h:w.ownsRow base e size v n l):(Builtin.append_ #[t,t] j #[v,vS none 0 c]).run Tryz.prog w= .ok v w:=by
 rcases h.2 with⟨rfl,rfl⟩|⟨g,cap,m,rfl,_,_,f,_⟩
 ·simp[Builtin.append_,run_underlying ht,sizeOf,typeInfo,d,Builtin.lenOf,Builtin.firstCells]
 ·simp[Builtin.append_,run_underlying ht,sizeOf,typeInfo,d,Builtin.lenOf,Builtin.firstCells,f,storeCells]
theorem Du(g:o.guard=none)(s x:Operand)(t:TypeId)
 (l:o.op= .call {callee:=.builtin .append,args:=#[s,x],argTypes:=#[t,t]}) (base:Nat) (e:TypeId) (i:TypeInfo) (size c:Nat) (ht:Tryz.prog.underlying t=some (.slice e)) (j:Tryz.prog.info? e=some i)
 (v:Value) (n:Nat) (d:List Value) (q:a.eval s=v) (m:w.ownsRow base e size v n d) (u:a.eval x=vS none 0 c)
 (h:wpList Tryz.prog ops Q rest (a.put o.dst v) w):wpList Tryz.prog ops Q (o::rest) a w:=by
 refine wpList_plain g λK f=>?_;have p:=Fh (w:=w) base t o.type e i size c ht j v n d m;unfold Oper.wp;simp[execOp,l,resolve,invoke,builtin,q,u,p,Result.andThen];exact f _ _ h
theorem Ch(b c j:Nat):(⟨b,c,none⟩:Addr).add j=⟨b,c+j,none⟩:=by unfold Addr.add;split<;>simp_all
theorem DL{f:Nat}(h:vl.rowAt w (some ⟨b,f,none⟩) r):∀j u,(celCells r)[j]? =some u->w.cell? ((⟨b,f,none⟩:Addr).add j)=some u:=by
 intro j u c;have l:j<(celCells r).length:=by
  rcases Nat.lt_or_ge j (celCells r).length with h|h
  ·exact h
  ·rw[getElem?_eq_none h]at c;cases c
 rw[Db]at l;have d:j/3<r.length:=ϟ;obtain⟨y,z,e,m,p,q⟩:=h (j/3) d
 cases e
 obtain⟨s,t,x⟩:=Iz r (j/3) d;rw[Ch];have g:j=j/3 * 3\/j=j/3 * 3+1\/j=j/3 * 3+1+1:=ϟ;rcases g with e|e|e
 ·rw[e]at c⊢;rw[s]at c;rw[<-c];exact m
 ·rw[e]at c⊢;rw[t]at c;rw[<-c];exact p
 ·rw[e]at c⊢;rw[x]at c;rw[<-c];exact q
theorem Dw(r:List Cel):∀u∈celCells r,u.oneCell'=true:=by
 intro u e;unfold celCells at e;obtain⟨c,_,d⟩:=mem_flatMap.1 e;simp at d;rcases d with rfl|rfl|rfl<;>rfl
theorem Aak(a:Ϝ)(cap:Nat)(r:List Cel)(w:ϛ)(g:vl.rowAt w a r)(A:r.length<=1000000):
 η 86 #[vS a r.length cap] w λe w'=>(∃ad c,e= .returned (vS ad r.length c)/\A4 w' w (vS ad r.length c) r)/\Ϟ w w':=by
 obtain⟨d,z,C,D,E⟩:=info_parts Tryz.infoV;have f:ϝ (Tryz.prog.info? 103=some d/\d.zero=some (.agg #[ω,ω,ϊ])/\d.size=3/\d.bytes=32):=⟨z,C,D,E⟩;clear z C D E;have p:ϝ ((w.alloc (.cells #[] 103)).ownsRow w 103 3 (vS (τ w) 0 0) 0 []):=World.ownsRow_made w #[] 0 nR (Nat.zero_le _) rfl;have t:Ϟ w (ξ w #[] 103):=Ϫ;obtain⟨n,l⟩:∃n,r.length=n:=⟨_,rfl⟩;have m:=hV0 l
 cases a with
 |none=>
  have H:r=[]:=by
   cases r with
   |nil=>rfl
   |cons c r=>
    obtain⟨_,_,e,_⟩:=g 0 ϡ
    cases e
  subst H;simp only[length_nil];clear g A l m;go_enter func86,ntmps86;go_wp2_with (at_builtin;refine Du rfl (.tmp 3) (.tmp 4) 41 rfl w.heap.size 103 d 3 cap underlying41 f.o.1 _ _ _ rfl p.o rfl ?_);go_ret;exact⟨⟨_,_,rfl,p.o⟩,t⟩
 |some x=>
  have y:∀j u,(celCells r)[j]? =some u->(w.alloc (.cells #[] 103)).cell? (x.add j)=some u:=by
   intro j u s;have K:0<r.length:=by
    rcases Nat.eq_zero_or_pos r.length with h|h
    ·rw[length_eq_zero_iff.1 h]at s;cases s
    ·exact h
   obtain⟨b,o,e,_⟩:=g 0 K
   cases e
   exact cLz Ϫ (DL g j u s)
  have F:=hV0 y;rw[l]at A⊢;clear y g l;go_enter func86,ntmps86;go_wp2_with (at_builtin;refine wpList_append_own _ rfl (.tmp 3) (.tmp 4) 41 rfl w.heap.size 103 d (.agg #[ω,ω,ϊ]) 3 32 underlying41 f.o.1 f.o.2.1 f.o.2.2.1 f.o.2.2.2 rfl Ϡ _ _ _ rfl p.o x n cap (celCells r) rfl (by rw[Db,m.o]) F.o (Dw r) ϩ ϟ ϡ ?_;intro O M q J N);rw[Nat.zero_add,nil_append]at q;obtain⟨ad,G,L,_⟩:=Iv q;subst L;go_ret;exact⟨⟨ad,G,rfl,by show M.ownsRow _ _ _ _ r.length _;rw[m.o];exact q⟩,t.grown J ϡ (λb I=>by cases I;exact Nat.le_refl _)⟩
theorem S0:(Tryz.prog.info? 55).map (λi=>(i.zero,i.size,i.bytes))=some (some (.agg #[ω,ψ]),2,32):=Ϣ
def Ba(l:List (Int×Value)):List Value:=l.flatMap λp=>[vI p.1,p.2]
theorem Ye(l:List (Int×Value)):(Ba l).length=l.length * 2:=by
 induction l with
 |nil=>rfl
 |cons c r ih=>show([_,_]++Ba r).length=_;rw[lAp,ih,length_cons];simp;omega
theorem NI(l:List (Int×Value))(n:Int)(x:Value):Ba (l++[(n,x)])=Ba l++[vI n,x]:=by
 unfold Ba;rw[flatMap_append];simp
theorem S2(l:List (Int×Value))(i:Nat)(c:i<l.length):(Ba l)[i * 2]? =some (vI (l.getD i (0,.bool false)).1)/\(Ba l)[i * 2+1]? =some (l.getD i (0,.bool false)).2:=by
 induction l generalizing i with
 |nil=>exact absurd c (Nat.not_lt_zero i)
 |cons p r ih=>
  have e:Ba (p::r)=vI p.1::p.2::Ba r:=rfl;rw[e]
  cases i with
  |zero=>exact⟨rfl,rfl⟩
  |succ i=>
   have:=ih i (by simpa using c);rw[show(i+1) * 2=i * 2+1+1 by omega];simpa using this
end ch
namespace ch
open vl
theorem Lz(p q:List (Int×Value)):Ba (p++q)=Ba p++Ba q:=by unfold Ba;rw[flatMap_append]
theorem Yf{p:List (Int×Value)}(h:∀x∈p,x.2.oneCell'=true):∀u∈Ba p,u.oneCell'=true:=by
 intro u c;unfold Ba at c;obtain⟨x,d,c⟩:=mem_flatMap.1 c;simp at c;rcases c with rfl|rfl
 ·rfl
 ·exact h x d
end ch
namespace ch
open vl
end ch
namespace bt
open vl pl
theorem Km(a b:List Cel):celCells (a++b)=celCells a++celCells b:=by unfold celCells;rw[flatMap_append]
theorem Iu(v:Value)(h:v.cells.size=3)(n:Nat):(Builtin.zeroCells v.cells n).size=n * 3:=by
 simp[Builtin.zeroCells,h]
theorem Yg(n:Nat)(w:ϛ)(C:n<=1000):
 η 277 #[ψ,vI n] w λe w'=>(∃v,e= .returned v/\A4 w' w v [])/\Ϟ w w':=by
 obtain⟨u,q,t,A,g⟩:=info_parts Tryz.infoV;by_cases y:n=0
 ·subst y;go_enter func277,ntmps277;go_wp2;go_ret;exact⟨⟨_,rfl,World.ownsRow_nil _ _ _ _⟩,bR⟩
 ·have f:∀j,(Builtin.append_ #[41,3] j #[ψ,vI (n:Int)]).run Tryz.prog w=
   .ok (vS (τ w) n (grownCap w n 0 103)) (w.drew.alloc (.cells (Builtin.zeroCells (Value.agg #[ω,ω,ϊ]).cells n++Builtin.zeroCells (Value.agg #[ω,ω,ϊ]).cells (grownCap w n 0 103 - n)) 103)):=λj=>by
   have h:=Lib.run_append_grow_zeros w 41 3 j 103 u (.agg #[ω,ω,ϊ]) .i64 .i64 underlying41 underlying3 q t none 0 0 [] (run_firstCells_none w.drew u.size 0 0 0) n ϟ ϟ ϟ ϟ (by rw[g];omega) (growslice_fits ϟ (by rw[g];omega));simpa using h
  have z:n<=grownCap w n 0 103:=grownCap_ge w _ _ _;have d:grownCap w n 0 103<=maxLen:=grownCap_le_maxLen w n 0 103 ϩ;obtain⟨G,m⟩:∃G,G=grownCap w n 0 103:=⟨_,rfl⟩;rw[<-m]at f z d;have s:(Builtin.zeroCells (Value.agg #[ω,ω,ϊ]).cells n++Builtin.zeroCells (Value.agg #[ω,ω,ϊ]).cells (G - n)).size=G * 3:=by
   rw[Array.size_append,Iu _ rfl,Iu _ rfl];omega
  obtain⟨l,p⟩:∃c,Builtin.zeroCells (Value.agg #[ω,ω,ϊ]).cells n++Builtin.zeroCells (Value.agg #[ω,ω,ϊ]).cells (G - n)=c:=⟨_,rfl⟩;rw[p]at f s;have x:ϝ (A4 (w.drew.alloc (.cells l 103)) w.heap.size (vS (τ w) 0 G) []):=World.ownsRow_made (base:=w.heap.size) (e:=103) (size:=3) w.drew l G nR d s;have D:0<(n:Int):=ϟ;unfold maxLen at d;clear p m q t A g;go_enter func277,ntmps277;go_wp2_with (at_builtin;refine Lib.wpList_append_run _ rfl _ _ _ _ rfl _ _ rfl rfl _ _ (f _) ?_);go_ret;exact⟨⟨_,rfl,x.o⟩,(bR.drew).alloc nR _⟩
theorem LR(g:Nat)(U V:Ϝ)(Y Z:Nat)(c d:List Cel)(w:ϛ)(n1:0<c.length)(n2:0<d.length)(m1:c.length<=400)(m2:d.length<=400)(h1:vl.rowAt w U c)(f:vl.rowAt w V d)
 (N:Δ w g 0 (vS U c.length Y)) (O:Δ w g 1 (vS V d.length Z)):
 η 274 #[vS (τ g) 2 2] w λe w'=>(∃ad cap,e= .returned (vS ad (c++d).length cap)/\A4 w' w (vS ad (c++d).length cap) (c++d))/\Ϟ w w':=by
 obtain⟨z,hi,af,ag,ah⟩:=info_parts Tryz.infoV;have m:ϝ (Tryz.prog.info? 103=some z/\z.zero=some (.agg #[ω,ω,ϊ])/\z.size=3/\z.bytes=32):=⟨hi,af,ag,ah⟩;clear hi af ag ah;obtain⟨W,o1,rfl,_⟩:=h1 0 n1;obtain⟨X,o2,rfl,_⟩:=f 0 n2;have ai:ϝ (∀w',Ϟ w w'->∀j u,(celCells c)[j]? =some u->w'.cell? ((⟨W,o1,none⟩:Addr).add j)=some u):=λw' q=>ch.DL (Ac h1 q);have aj:ϝ (∀w',Ϟ w w'->∀j u,(celCells d)[j]? =some u->w'.cell? ((⟨X,o2,none⟩:Addr).add j)=some u):=λw' q=>ch.DL (Ac f q);have ac:ϝ ((celCells c).length=c.length * 3):=Db c;have ae:ϝ ((celCells d).length=d.length * 3):=Db d;clear h1 f;obtain⟨A,I⟩:∃n,c.length=n:=⟨_,rfl⟩;obtain⟨E,J⟩:∃n,d.length=n:=⟨_,rfl⟩;have G:=hV0 I;have S:=hV0 J;rw[I]at n1 m1 N ac;rw[J]at n2 m2 O ae;rw[lAp,I,J];clear I J;have HG:ϝ (∀C,CT 277 #[ψ,vI ((A:Int)+E)] C λe w'=>(∃v,e= .returned v/\A4 w' C v [])/\Ϟ C w'):=λC=>by
  have h:=Yg (A+E) C ϟ;rwa[Int.natCast_add]at h
 go_enter func274,ntmps274;go_wp2
 go_loop [3,11] (λs i=>(i=vI 0/\s=vI 0)\/(i=vI 1/\s=vI A)\/(i=vI 2/\s=vI ((A:Int)+E))) (λ_ i=>2 - (intOf i).toNat)
 case atStart=>exact .inl ⟨rfl,rfl⟩
 case round=>
  rcases hrel with⟨rfl,rfl⟩|⟨rfl,rfl⟩|⟨rfl,rfl⟩
  ·go_wp2
   go_round
   case rel=>exact .inr (.inl ⟨rfl,rfl⟩)
   case measure=>simp[intOf]
  ·go_wp2
   go_round
   case rel=>exact .inr (.inr ⟨rfl,rfl⟩)
   case measure=>simp[intOf]
  ·go_wp2_with fail;refine(HG.o _).mono ?_;rintro e C ⟨⟨v,rfl,ab⟩,H⟩;have f1:=cLz H N;have f2:=cLz H O;have T:=hV0 ab;clear ab;go_wp2
   go_loopw [6,27] (λx i wr=> ∃l:List Cel,((i=vI 0/\l=[])\/(i=vI 1/\l=c)\/(i=vI 2/\l=c++d))/\A4 wr w x l/\Ϟ w wr) (λ_ i _=>2 - (intOf i).toNat)
   case atStart=>exact⟨[],.inl ⟨rfl,rfl⟩,T.o,H⟩
   case round=>
    obtain⟨l,hl,aa,p⟩:=hrel;have g1:=cLz p N;have g2:=cLz p O;have t:=hV0 aa;have K:=p.size;clear aa f1 f2 H T;have ak:(u27=vI 0/\[]=l)\/(u27=vI 1/\c=l)\/(u27=vI 2/\c++d=l):=by
     rcases hl with⟨h1,f⟩|⟨h1,f⟩|⟨h1,f⟩
     ·exact .inl ⟨h1,f.symm⟩
     ·exact .inr (.inl ⟨h1,f.symm⟩)
     ·exact .inr (.inr ⟨h1,f.symm⟩)
    clear hl;rcases ak with⟨rfl,rfl⟩|⟨rfl,rfl⟩|⟨rfl,rfl⟩
    ·go_wp2_with (at_builtin;refine wpList_append_own _ rfl (.tmp 31) (.tmp 32) 41 rfl w.heap.size 103 z (.agg #[ω,ω,ϊ]) 3 32 underlying41 m.o.1 m.o.2.1 m.o.2.2.1 m.o.2.2.2 rfl Ϡ _ _ _ rfl t.o ⟨W,o1,none⟩ A Y (celCells c) rfl (by rw[ac.o]) (ai.o _ p) (ch.Dw c) (by unfold maxLen;(simp only[length_nil];omega)) (by(simp only[length_nil];omega)) K ?_;intro R F D P am);have L:ϝ (A4 F w R (c)):=by
      show F.ownsRow _ _ _ _ (c).length (celCells c);simpa[G.o,celCells]using D
     obtain⟨ad,M,y,hg⟩:=C0 D;subst y;go_roundw
     case rel=>exact⟨c,.inr (.inl ⟨rfl,rfl⟩),L.o,p.grown P K (λb q=>(World.ownsRow.lt t.o b q).1)⟩
     case measure=>simp[intOf]
    ·go_wp2_with (at_builtin;refine wpList_append_own _ rfl (.tmp 31) (.tmp 32) 41 rfl w.heap.size 103 z (.agg #[ω,ω,ϊ]) 3 32 underlying41 m.o.1 m.o.2.1 m.o.2.2.1 m.o.2.2.2 rfl Ϡ _ _ _ rfl t.o ⟨X,o2,none⟩ E Z (celCells d) rfl (by rw[ae.o]) (aj.o _ p) (ch.Dw d) (by unfold maxLen;(rw[G.o];omega)) (by(rw[G.o];omega)) K ?_;intro R F D P am);have L:ϝ (A4 F w R (c++d)):=by
      show F.ownsRow _ _ _ _ (c++d).length (celCells (c++d));rw[lAp,Km,S.o];exact D
     obtain⟨ad,M,y,hg⟩:=C0 D;subst y;go_roundw
     case rel=>exact⟨c++d,.inr (.inr ⟨rfl,rfl⟩),L.o,p.grown P K (λb q=>(World.ownsRow.lt t.o b q).1)⟩
     case measure=>simp[intOf]
    ·obtain⟨ad,M,y,hg⟩:=C0 t.o;have al:(c++d).length=A+E:=by rw[lAp,G.o,S.o]
     rw[al]at y;subst y;go_wp2;go_ret;exact⟨⟨ad,M,rfl,t.o⟩,p⟩
end bt
end Go.Proofs.YtdohnkkbkfhphaaGreat
