import Derived.Test.YtdohnkkbkfhphaaGreatPw3
import Derived.Lib.AppendZerosOnto
set_option linter.all false
set_option maxHeartbeats 4000000
set_option maxRecDepth 100000
open Go.ChangeShapes Go.WideShapes Go.ChangeAt Go.RowKit List
namespace Go.Proofs.YtdohnkkbkfhphaaGreat
open Go.Proofs.Tryz
namespace pl
open vl
variable {base i n : Nat} {P : Nat -> Bool} {w : ϛ} {l : List Int}
def A8(n a b:Int):Bool:=decide (a<=n/\n<=b)
theorem Bh(n a b:Int):A8 n a b=true↔(a<=n/\n<=b):=by simp[A8]
theorem CP(n a b:Int):A8 n a b=false↔ ¬(a<=n/\n<=b):=by unfold A8;exact decide_eq_false_iff_not
theorem C9(n a b:Int)(w:ϛ):
 η 117 #[vI n,vI a,vI b] w λe f=>e= .returned (.bool (A8 n a b))/\f=w:=by
 by_cases c:a<=n
 ·by_cases d:n<=b
  ·rw[(Bh n a b).2 ⟨c,d⟩];go_enter func117,ntmps117;go_wp2;go_ret;exact⟨rfl,rfl⟩
  ·rw[(CP n a b).2 ϟ];go_enter func117,ntmps117;go_wp2;go_ret;exact⟨rfl,rfl⟩
 ·rw[(CP n a b).2 ϟ];go_enter func117,ntmps117;go_wp2;go_ret;exact⟨rfl,rfl⟩
theorem Ar(n a b:Int)(w:ϛ):
 η 29 #[vI n,vI a,vI b] w λe f=>e= .returned (.bool (A8 n a b))/\f=w:=by
 by_cases c:a<=n
 ·by_cases d:n<=b
  ·rw[(Bh n a b).2 ⟨c,d⟩];go_enter func29,ntmps29;go_wp2;go_ret;exact⟨rfl,rfl⟩
  ·rw[(CP n a b).2 ϟ];go_enter func29,ntmps29;go_wp2;go_ret;exact⟨rfl,rfl⟩
 ·rw[(CP n a b).2 ϟ];go_enter func29,ntmps29;go_wp2;go_ret;exact⟨rfl,rfl⟩
def allB(n:Nat)(P:Nat->Bool):Bool:=(List.range n).all P
theorem Bb:allB n P=true↔ ∀i,i<n->P i=true:=by simp[allB]
theorem Eh(b:i<n)(h:P i=false):allB n P=false:=by
 rcases Bool.eq_false_or_eq_true (allB n P)with a|a
 ·have:=Bb.1 a i b;rw[h]at this;cases this
 ·exact a
theorem Ho(d:FuncId)(F:∀v w,(callFunc d v).run Tryz.prog w= .ok (.enter d v) w)(j:Array Value)(P:Nat->Bool)(a:Ϝ)(cap:Nat)(l:List Int)(w:ϛ)(D:l.length<=χ)(ha:AA w a l)
 (H:∀i c,i<l.length->Ϟ w c->Calls Tryz.prog d (#[vI (i:Nat),vI (l.getD i 0)]++j) c (θ c (.bool (P i)))):
 η 123 #[vS a l.length cap,.func (.func d) #[] j] w (θ w (.bool (allB l.length P))):=by
 have C:ϝ (∀i c,i<l.length->Ϟ w c->CT d (#[vI (i:Nat),vI (l.getD i 0)]++j) c (θ c (.bool (P i)))):=H;clear H;obtain⟨n,s⟩:∃n,l.length=n:=⟨_,rfl⟩;have u:ϝ (l.length=n):=s;rw[s]at D⊢;clear s;go_enter func123,ntmps123;go_wp2
 go_loopw [9] (λi wr=> ∃k:Nat,k<=n/\i=vI k/\Ϟ w wr/\∀i,i<k->P i=true) (λi _=>n - (intOf i).toNat)
 case atStart=>exact⟨0,Nat.zero_le _,rfl,bR,λi m=>absurd m (Nat.not_lt_zero i)⟩
 case round=>
  obtain⟨k,G,rfl,f,x⟩:=hrel;have t:ϝ (∀i,i<k->P i=true):=x;clear x;by_cases r:k<n
  ·obtain⟨b,o,e,B⟩:=ha k (by rw[u.o];exact r);subst e;have E:=cLz f B;clear B ha;have I:(0:Int)<=(k:Int):=ϟ;have J:(k:Int)<(n:Int):=ϟ;have g:ϝ (CT d (#[vI (k:Nat),vI (l.getD k 0)]++j) wr (θ wr (.bool (P k)))):=C.o k wr (by rw[u.o];exact r) f;obtain⟨z,A⟩:=nM (l.getD k 0);rw[A]at E g;clear A;have y:=f.size
   cases hp:P k with
   |true=>
    rw[hp]at g;go_wp2_with (go_at_fn d;refine g.o.mono ?_;rintro e c ⟨rfl,q⟩);go_roundw
    case rel=>exact⟨k+1,ϟ,by go_num,f.trans (q.mono y),λi m=>by
     rcases Nat.lt_succ_iff_lt_or_eq.1 m with h|h
     ·exact t.o i h
     ·rw[h];exact hp⟩
    case measure=>simp[intOf];omega
   |false=>
    have p:ϝ (allB n P=false):=Eh r hp;rw[hp]at g;go_wp2_with (go_at_fn d;refine g.o.mono ?_;rintro e c ⟨rfl,q⟩);go_ret;exact⟨Ab p.o.symm,f.trans (q.mono y)⟩
  ·have p:ϝ (allB n P=true):=Bb.2 (λi m=>t.o i ϟ);go_wp2;go_ret;exact⟨Ab p.o.symm,f⟩
def Adu(w:World)(a:Option Addr)(l:List (Option Addr×Nat×Nat)):Prop:=
 ∀i,i<l.length->∃b off,a=some ⟨b,off,none⟩/\Δ w b (off+i) (vS (l.getD i (none,0,0)).1 (l.getD i (none,0,0)).2.1 (l.getD i (none,0,0)).2.2)
theorem Ld(d:FuncId)(K:∀x w,(callFunc d x).run Tryz.prog w= .ok (.enter d x) w)(j:Array Value)(P:Nat->Bool)(a:Ϝ)(cap:Nat)(l:List (Int×Int))(w:ϛ)(J:l.length<=χ)(ha:EL w a l)
 (H:∀i c,i<l.length->Ϟ w c->Calls Tryz.prog d (#[vI (i:Nat),.agg #[vI (l.getD i (0,0)).1,vI (l.getD i (0,0)).2]]++j) c (θ c (.bool (P i)))):
 η 167 #[vS a l.length cap,.func (.func d) #[] j] w (θ w (.bool (allB l.length P))):=by
 have G:ϝ (∀i c,i<l.length->Ϟ w c->CT d (#[vI (i:Nat),.agg #[vI (l.getD i (0,0)).1,vI (l.getD i (0,0)).2]]++j) c (θ c (.bool (P i)))):=H;clear H;obtain⟨n,t⟩:∃n,l.length=n:=⟨_,rfl⟩;have v:ϝ (l.length=n):=t;rw[t]at J⊢;clear t;go_enter func167,ntmps167;go_wp2
 go_loopw [9] (λi wr=> ∃k:Nat,k<=n/\i=vI k/\Ϟ w wr/\∀i,i<k->P i=true) (λi _=>n - (intOf i).toNat)
 case atStart=>exact⟨0,Nat.zero_le _,rfl,bR,λi m=>absurd m (Nat.not_lt_zero i)⟩
 case round=>
  obtain⟨k,L,rfl,f,y⟩:=hrel;have u:ϝ (∀i,i<k->P i=true):=y;clear y;by_cases s:k<n
  ·obtain⟨b,o,e,E,F⟩:=ha k (by rw[v.o];exact s);subst e;have C:=cLz f E;have D:=cLz f F;clear E F ha;have M:(0:Int)<=(k:Int):=ϟ;have N:(k:Int)<(n:Int):=ϟ;have g:ϝ (∀c,Ϟ wr c->CT d (#[vI (k:Nat),.agg #[vI (l.getD k (0,0)).1,vI (l.getD k (0,0)).2]]++j) c (θ c (.bool (P k)))):=λc I=>G.o k c (by rw[v.o];exact s) (bT f I);obtain⟨⟨O,Q⟩,B⟩:∃z,l.getD k (0,0)=z:=⟨_,rfl⟩;rw[B]at C D g;dsimp only at C D g;clear B;have A:=f.size
   cases hp:P k with
   |true=>
    rw[hp]at g;go_wp2_with (go_at_fn d;refine(g.o _ Ϫ).mono ?_;rintro e c ⟨rfl,q⟩;have r:=(f.alloc A _).trans (q.mono Ϥ));go_roundw
    case rel=>exact⟨k+1,ϟ,by go_num,r,λi m=>by
     rcases Nat.lt_succ_iff_lt_or_eq.1 m with h|h
     ·exact u.o i h
     ·rw[h];exact hp⟩
    case measure=>simp[intOf];omega
   |false=>
    have p:ϝ (allB n P=false):=Eh s hp;rw[hp]at g;go_wp2_with (go_at_fn d;refine(g.o _ Ϫ).mono ?_;rintro e c ⟨rfl,q⟩;have r:=(f.alloc A _).trans (q.mono Ϥ));go_ret;exact⟨Ab p.o.symm,r⟩
  ·have p:ϝ (allB n P=true):=Bb.2 (λi m=>u.o i ϟ);go_wp2;go_ret;exact⟨Ab p.o.symm,f⟩
theorem QV(d:FuncId)(F:∀v w,(callFunc d v).run Tryz.prog w= .ok (.enter d v) w)(j:Array Value)(P:Nat->Bool)(a:Ϝ)(cap:Nat)(l:List (Option Addr×Nat×Nat))(w:ϛ)(E:l.length<=χ)(ha:Adu w a l)
 (H:∀i c,i<l.length->Ϟ w c->Calls Tryz.prog d (#[vI (i:Nat),vS (l.getD i (none,0,0)).1 (l.getD i (none,0,0)).2.1 (l.getD i (none,0,0)).2.2]++j) c (θ c (.bool (P i)))):
 η 121 #[vS a l.length cap,.func (.func d) #[] j] w (θ w (.bool (allB l.length P))):=by
 have D:ϝ (∀i c,i<l.length->Ϟ w c->CT d (#[vI (i:Nat),vS (l.getD i (none,0,0)).1 (l.getD i (none,0,0)).2.1 (l.getD i (none,0,0)).2.2]++j) c (θ c (.bool (P i)))):=H;clear H;obtain⟨n,s⟩:∃n,l.length=n:=⟨_,rfl⟩;have u:ϝ (l.length=n):=s;rw[s]at E⊢;clear s;go_enter func121,ntmps121;go_wp2
 go_loopw [9] (λi wr=> ∃k:Nat,k<=n/\i=vI k/\Ϟ w wr/\∀i,i<k->P i=true) (λi _=>n - (intOf i).toNat)
 case atStart=>exact⟨0,Nat.zero_le _,rfl,bR,λi m=>absurd m (Nat.not_lt_zero i)⟩
 case round=>
  obtain⟨k,G,rfl,g,x⟩:=hrel;have t:ϝ (∀i,i<k->P i=true):=x;clear x;by_cases r:k<n
  ·obtain⟨b,o,e,C⟩:=ha k (by rw[u.o];exact r);subst e;have B:=cLz g C;clear C ha;have I:(0:Int)<=(k:Int):=ϟ;have J:(k:Int)<(n:Int):=ϟ;have f:ϝ (CT d (#[vI (k:Nat),vS (l.getD k (none,0,0)).1 (l.getD k (none,0,0)).2.1 (l.getD k (none,0,0)).2.2]++j) wr (θ wr (.bool (P k)))):=D.o k wr (by rw[u.o];exact r) g;obtain⟨⟨K,L,M⟩,A⟩:∃z,l.getD k (none,0,0)=z:=⟨_,rfl⟩;rw[A]at B f;dsimp only at B f;clear A;have y:=g.size
   cases hp:P k with
   |true=>
    rw[hp]at f;go_wp2_with (go_at_fn d;refine f.o.mono ?_;rintro e c ⟨rfl,q⟩);go_roundw
    case rel=>exact⟨k+1,ϟ,by go_num,g.trans (q.mono y),λi m=>by
     rcases Nat.lt_succ_iff_lt_or_eq.1 m with h|h
     ·exact t.o i h
     ·rw[h];exact hp⟩
    case measure=>simp[intOf];omega
   |false=>
    have p:ϝ (allB n P=false):=Eh r hp;rw[hp]at f;go_wp2_with (go_at_fn d;refine f.o.mono ?_;rintro e c ⟨rfl,q⟩);go_ret;exact⟨Ab p.o.symm,g.trans (q.mono y)⟩
  ·have p:ϝ (allB n P=true):=Bb.2 (λi m=>t.o i ϟ);go_wp2;go_ret;exact⟨Ab p.o.symm,g⟩
theorem QW(f:FuncId)(M:∀x w,(callFunc f x).run Tryz.prog w= .ok (.enter f x) w)(j:Array Value)(P:Nat->Bool)(a:Ϝ)(cap:Nat)(l:List Cel)(w:ϛ)(L:l.length<=χ)(ha:vl.rowAt w a l)
 (H:∀i c,i<l.length->Ϟ w c->Calls Tryz.prog f (#[vI (i:Nat),(l.getD i default).val]++j) c (θ c (.bool (P i)))):
 η 191 #[vS a l.length cap,.func (.func f) #[] j] w (θ w (.bool (allB l.length P))):=by
 have J:ϝ (∀i c,i<l.length->Ϟ w c->CT f (#[vI (i:Nat),(l.getD i default).val]++j) c (θ c (.bool (P i)))):=H;clear H;obtain⟨n,t⟩:∃n,l.length=n:=⟨_,rfl⟩;have v:ϝ (l.length=n):=t;rw[t]at L⊢;clear t;go_enter func191,ntmps191;go_wp2
 go_loopw [9] (λi wr=> ∃k:Nat,k<=n/\i=vI k/\Ϟ w wr/\∀i,i<k->P i=true) (λi _=>n - (intOf i).toNat)
 case atStart=>exact⟨0,Nat.zero_le _,rfl,bR,λi m=>absurd m (Nat.not_lt_zero i)⟩
 case round=>
  obtain⟨k,N,rfl,g,y⟩:=hrel;have u:ϝ (∀i,i<k->P i=true):=y;clear y;by_cases s:k<n
  ·obtain⟨b,o,e,F,G,I⟩:=ha k (by rw[v.o];exact s);subst e;have C:=cLz g F;have D:=cLz g G;have E:=cLz g I;clear F G I ha;have O:(0:Int)<=(k:Int):=ϟ;have Q:(k:Int)<(n:Int):=ϟ;have d:ϝ (∀c,Ϟ wr c->CT f (#[vI (k:Nat),(l.getD k default).val]++j) c (θ c (.bool (P k)))):=λc K=>J.o k c (by rw[v.o];exact s) (bT g K);obtain⟨⟨R,S,T⟩,B⟩:∃z,l.getD k default=z:=⟨_,rfl⟩;rw[B]at C D E d;dsimp only at C D E d;clear B;unfold Cel.val at d;dsimp only at d;have A:=g.size
   cases hp:P k with
   |true=>
    rw[hp]at d;go_wp2_with (go_at_fn f;refine(d.o _ Ϫ).mono ?_;rintro e c ⟨rfl,q⟩;have r:=(g.alloc A _).trans (q.mono Ϥ));go_roundw
    case rel=>exact⟨k+1,ϟ,by go_num,r,λi m=>by
     rcases Nat.lt_succ_iff_lt_or_eq.1 m with h|h
     ·exact u.o i h
     ·rw[h];exact hp⟩
    case measure=>simp[intOf];omega
   |false=>
    have p:ϝ (allB n P=false):=Eh s hp;rw[hp]at d;go_wp2_with (go_at_fn f;refine(d.o _ Ϫ).mono ?_;rintro e c ⟨rfl,q⟩;have r:=(g.alloc A _).trans (q.mono Ϥ));go_ret;exact⟨Ab p.o.symm,r⟩
  ·have p:ϝ (allB n P=true):=Bb.2 (λi m=>u.o i ϟ);go_wp2;go_ret;exact⟨Ab p.o.symm,g⟩
theorem Ee{a:Bool}{q:Prop} [Decidable q](h:a=true↔q):a=decide q:=by
 by_cases b:q
 ·rw[decide_eq_true b];exact h.2 b
 ·rw[decide_eq_false b]
  cases a with
  |false=>rfl
  |true=>exact absurd (h.1 rfl) b
theorem D3{W a:ϛ}(c:Ϟ W a):(∀b o,b<W.heap.size->a.cell? ⟨b,o,none⟩=W.cell? ⟨b,o,none⟩)/\(∀b o,b<W.heap.size->a.frozen? ⟨b,o,none⟩=W.frozen? ⟨b,o,none⟩):=
 ⟨λb o h=>c.cell (p:=⟨b,o,none⟩) h,λb o h=>c.frozen (p:=⟨b,o,none⟩) h⟩
def Je(l:List (Int×Int)):Bool:=allB l.length (λi=>A8 (l.getD i (0,0)).1 1 4)
theorem D4{α:Type}{l:List α}{d:α}(h:i<l.length):l.getD i d∈l:=by simp[gDe,h]
theorem E8{α:Type}{l:List α}{d:α}{Q:α->Prop}:(∀i,i<l.length->Q (l.getD i d))↔ ∀x∈l,Q x:=by
 constructor
 ·intro h x b;obtain⟨i,a,rfl⟩:=getElem_of_mem b;have:=h i a;simpa[gDe,a]using this
 ·intro h i a;exact h _ (D4 a)
theorem Tp(l:List (Int×Int)):Je l=true↔ ∀a∈l,1<=a.1/\a.1<=4:=by
 unfold Je;rw[Bb];simp only[Bh];exact E8 (Q:=λa:Int×Int=>1<=a.1/\a.1<=4)
theorem AaJ(i:Int)(f c:Int)(w:ϛ):
 η 168 #[vI i,.agg #[vI f,vI c]] w (θ w (.bool (A8 f 1 4))):=by
 go_enter func168,ntmps168;go_wp2_with (go_at_call 117;refine(C9 _ _ _ _).mono ?_;rintro e b ⟨rfl,a⟩;subst a);go_ret;exact⟨rfl,Ϫ⟩
theorem Tq(a:Ϝ)(cap:Nat)(l:List (Int×Int))(w:ϛ)(g:l.length<=χ)(ha:EL w a l):
 η 118 #[vS a l.length cap] w (θ w (.bool (Je l))):=by
 have H:=Ld 168 (enters_of func168 Ϣ rfl) #[] (λi=>A8 (l.getD i (0,0)).1 1 4) a cap l w g ha (λi c _ _=>AaJ i _ _ c);obtain⟨n,b⟩:∃n,l.length=n:=⟨_,rfl⟩;have d:ϝ (Je l=allB n (λi=>A8 (l.getD i (0,0)).1 1 4)):=by show Je l=_;unfold Je;rw[b]
 rw[b]at H⊢;clear b;go_enter func118,ntmps118;go_wp2_with (go_at_call 167;refine H.mono ?_;rintro e c ⟨rfl,f⟩);go_ret;exact⟨Ab d.o.symm,f⟩
theorem Oj(p:Pln)(x:PA)(w:ϛ)(F:planAt w p x)(c:wfPlan p):
 η 60 #[Ak p x] w (θ w (.bool (decide (Bw p)))):=by
 have d:=hIz (λ(m:ϛ) (f:Ϟ w m)=>Tq x.a x.ac p.aggs m c.a (DW F.a f));have b:ϝ (decide (Bw p)=(A8 p.kind 1 3&&A8 p.mode 1 (if p.kind=3 then 2 else 4)&&(!p.grouped||Je p.aggs))):=by
  refine(Ee ?_).symm;simp only[Bool.and_eq_true,Bool.or_eq_true,Bh,Tp,Bw,Bool.not_eq_true',and_assoc]
  cases p.grouped<;>simp
 obtain⟨u,k,K,I,L,J,left,right,G,H,h,y,o⟩:=p;obtain⟨l,S,r,rc,T,U,rk,aa,g,Q,a,N⟩:=x;unfold Ak;dsimp only at d b⊢;clear F c;obtain⟨X,A⟩:∃n,left.length=n:=⟨_,rfl⟩;obtain⟨Y,B⟩:∃n,right.length=n:=⟨_,rfl⟩;obtain⟨Z,C⟩:∃n,G.length=n:=⟨_,rfl⟩;obtain⟨n9,D⟩:∃n,H.length=n:=⟨_,rfl⟩;obtain⟨V,z⟩:∃n,y.length=n:=⟨_,rfl⟩;obtain⟨W,s⟩:∃n,o.length=n:=⟨_,rfl⟩;rw[s]at d;rw[A,B,C,D,z,s];clear A B C D z s;obtain⟨q,E⟩:=nM (Je o);rw[E]at d b;clear E;by_cases j:u=3
 ·subst j;have v:ϝ (decide (Bw ⟨3,k,K,I,L,J,left,right,G,H,h,y,o⟩)=(true&&A8 k 1 2&&(!h||q))):=b.o;clear b;have O:A8 3 1 3=true:=Ϡ
  cases f:A8 k 1 2<;>rw[f]at v<;>cases h<;>cases q
  all_goals
   go_enter func60,ntmps60;go_wp2_with (first
    |(go_at_call 117;refine(C9 _ _ _ _).mono ?_;rintro e M ⟨rfl,c⟩;subst c)
    |(go_at_call 118;refine(d.o _ Ϫ).mono ?_;rintro e m ⟨rfl,t⟩))
   go_ret;refine⟨Ab v.o.symm,?_⟩
   first
    |exact Ϫ.trans (t.mono ϡ)
    |exact Ϫ
 ·have R:(u==3)=false:=by simpa using j
  rw[if_neg j]at b;clear j
  cases h0:A8 u 1 3<;>rw[h0]at b<;>cases f:A8 k 1 4<;>rw[f]at b<;>cases h<;>cases q
  all_goals
   go_enter func60,ntmps60;go_wp2_with (first
    |(go_at_call 117;refine(C9 _ _ _ _).mono ?_;rintro e M ⟨rfl,c⟩;subst c)
    |(go_at_call 118;refine(d.o _ Ϫ).mono ?_;rintro e m ⟨rfl,t⟩))
   go_ret;refine⟨Ab b.o.symm,?_⟩
   first
    |exact Ϫ.trans (t.mono ϡ)
    |exact Ϫ
def LZ(p:Pln):Bool:=if p.kind=1 then tm.Bc p.low&&tm.Bc p.high else decide (p.low=0)&&decide (p.high=0)
def Ma(p:Pln):Bool:=if p.kind=2 then A8 p.size 1 1099511627776 else decide (p.size=0)
theorem Ol(p:Pln):decide (BH p)=(LZ p&&Ma p&&A8 p.limit 1 64):=by
 refine(Ee ?_).symm;unfold BH LZ Ma;simp only[Bool.and_eq_true,Bh,and_assoc];refine and_congr ?_ (and_congr ?_ Iff.rfl)
 ·split
  ·simp only[Bool.and_eq_true,tm.Dv,fit]
  ·simp
 ·split
  ·simp only[Bh]
  ·simp
theorem O8(p:Pln)(x:PA)(w:ϛ):
 η 119 #[Ak p x] w (θ w (.bool (LZ p))):=by
 have b:ϝ (LZ p=if p.kind=1 then tm.Bc p.low&&tm.Bc p.high else decide (p.low=0)&&decide (p.high=0)):=rfl;obtain⟨h,D,f,u,I,z,left,right,C,H,s,q,m⟩:=p;obtain⟨l,y,r,E,A,B,F,G,g,o,a,k⟩:=x;unfold Ak;dsimp only at b⊢;by_cases d:h=1
 ·subst d;rw[if_pos rfl]at b
  cases c:tm.Bc f<;>rw[c]at b
  all_goals
   go_enter func119,ntmps119;go_wp2_with (go_at_call 88;refine(tm.Dj _ _).mono ?_;rintro e J ⟨rfl,j⟩;subst j);go_ret;exact⟨Ab (by rw[b.o];rfl),Ϫ⟩
 ·have v:(h==1)=false:=by simpa using d
  rw[if_neg d]at b;clear d;by_cases c:f=0
  ·subst c;go_enter func119,ntmps119;go_wp2;go_ret;exact⟨Ab (by rw[b.o];exact Bool.eq_iff_iff.2 ϡ),Ϫ⟩
  ·have t:(f==0)=false:=by simpa using c
   rw[decide_eq_false c]at b;clear c;go_enter func119,ntmps119;go_wp2;go_ret;exact⟨Ab (by rw[b.o];rfl),Ϫ⟩
theorem O9(p:Pln)(x:PA)(w:ϛ):
 η 120 #[Ak p x] w (θ w (.bool (Ma p))):=by
 have b:ϝ (Ma p=if p.kind=2 then A8 p.size 1 1099511627776 else decide (p.size=0)):=rfl;obtain⟨d,B,A,q,G,u,left,right,z,F,o,m,j⟩:=p;obtain⟨l,t,r,C,v,y,D,E,g,k,a,h⟩:=x;unfold Ak;dsimp only at b⊢;by_cases c:d=2
 ·subst c;rw[if_pos rfl]at b;go_enter func120,ntmps120;go_wp2_with (go_at_call 117;refine(C9 _ _ _ _).mono ?_;rintro e H ⟨rfl,f⟩;subst f);go_ret;exact⟨Ab b.o.symm,Ϫ⟩
 ·have s:(d==2)=false:=by simpa using c
  rw[if_neg c]at b;clear c;go_enter func120,ntmps120;go_wp2;go_ret;exact⟨Ab (by rw[b.o];exact Bool.eq_iff_iff.2 ϡ),Ϫ⟩
theorem Ff(p:Pln)(x:PA)(w:ϛ):
 η 61 #[Ak p x] w (θ w (.bool (decide (BH p)))):=by
 have d:=hIz (λ(b:ϛ)=>O8 p x b);have f:=hIz (λ(b:ϛ)=>O9 p x b);have c:ϝ (decide (BH p)=(LZ p&&Ma p&&A8 p.limit 1 64)):=Ol p;obtain⟨q,j⟩:=nM (LZ p);obtain⟨s,k⟩:=nM (Ma p);rw[j]at d c;rw[k]at f c;clear j k;obtain⟨I,Q,O,G,V,K,left,right,N,U,B,A,y⟩:=p;obtain⟨l,J,r,R,L,M,S,T,g,z,a,v⟩:=x;unfold Ak at d f⊢;dsimp only at d f c⊢
 cases q<;>cases s
 all_goals
  go_enter func61,ntmps61;go_wp2_with (first
   |(go_at_call 119;refine(d.o _).mono ?_;rintro e b ⟨rfl,h⟩;have o:=Ϫ.trans (h.mono ϡ);obtain⟨C,E⟩:=D3 h)
   |(go_at_call 120;refine(f.o _).mono ?_;rintro e X ⟨rfl,m⟩;have t:=bT o m;obtain⟨D,F⟩:=D3 m;have H:w.heap.size<b.heap.size:=by have:=h.size;simp at this;omega)
   |(go_at_call 117;refine(C9 _ _ _ _).mono ?_;rintro e W ⟨rfl,u⟩;subst u))
  go_ret;refine⟨Ab (by rw[c.o];simp),?_⟩
  first
   |exact t
   |exact o
theorem AaK(i:Int)(a:Ϝ)(n c:Nat)(w:ϛ):
 η 122 #[vI i,vS a n c] w (θ w (.bool (A8 n 1 4))):=by
 go_enter func122,ntmps122;go_wp2_with (go_at_call 117;refine(C9 _ _ _ _).mono ?_;rintro e d ⟨rfl,b⟩;subst b);go_ret;exact⟨rfl,bR⟩
def JB(a b c d:Nat):Bool:=A8 a 1 4&&(A8 b 1 4&&(A8 c 1 4&&A8 d 1 4))
theorem Adv(g:Nat)(h0 h1 a b:Option Addr×Nat×Nat)(w:ϛ)
 (c:Δ w g 0 (vS h0.1 h0.2.1 h0.2.2)) (d:Δ w g 1 (vS h1.1 h1.2.1 h1.2.2)) (f:Δ w g 2 (vS a.1 a.2.1 a.2.2)) (h:Δ w g 3 (vS b.1 b.2.1 b.2.2)):
 η 121 #[vS (τ g) 4 4,.func (.func 122) #[] #[]] w (θ w (.bool (JB h0.2.1 h1.2.1 a.2.1 b.2.1))):=by
 have H:=QV 122 (enters_of func122 Ϣ rfl) #[] (λi=>A8 (([h0,h1,a,b]:List (Option Addr×Nat×Nat)).getD i (none,0,0)).2.1 1 4) (τ g) 4 [h0,h1,a,b] w ϡ
  (λi m=>by
   match i,m with
   |0,_=>exact⟨g,0,rfl,c⟩
   |1,_=>exact⟨g,0,rfl,d⟩
   |2,_=>exact⟨g,0,rfl,f⟩
   |3,_=>exact⟨g,0,rfl,h⟩) (λi o _ _=>AaK i _ _ _ o)
 refine H.mono λe p ⟨k,j⟩=>⟨k.trans (Ab ?_),j⟩;simp[allB,List.range,List.range.loop,JB]
def LD(p:Pln):Bool:=if p.grouped=true then A8 p.aggs.length 1 4&&decide ((p.group.length:Int)<=8 - p.aggs.length)else decide (p.group.length=0)&&decide (p.aggs.length=0)
theorem Tr(p:Pln):decide (Cy p)=(JB p.left.length p.right.length p.lkeys.length p.rkeys.length&&LD p):=by
 refine(Ee ?_).symm;unfold Cy JB LD K9;simp only[Bool.and_eq_true,Bh];refine and_congr ?_ ?_
 ·omega
 ·split
  ·simp only[Bool.and_eq_true,Bh,decide_eq_true_eq];omega
  ·simp
theorem Fi(p:Pln)(x:PA)(w:ϛ)(j:wfPlan p):
 η 62 #[Ak p x] w (θ w (.bool (decide (Cy p)))):=by
 have c:ϝ (decide (Cy p)=(JB p.left.length p.right.length p.lkeys.length p.rkeys.length&&LD p)):=Tr p;have E:ϝ (LD p=if p.grouped=true then A8 p.aggs.length 1 4&&decide ((p.group.length:Int)<=8 - p.aggs.length)else decide (p.group.length=0)&&decide (p.aggs.length=0)):=rfl;have I:=j.g;have J:=j.a;rw[E.o]at c;obtain⟨ah,ak,aj,af,al,ai,left,right,aa,ae,F,Y,T⟩:=p;obtain⟨l,K,r,O,L,M,Q,R,g,gc,a,ac⟩:=x;unfold Ak;dsimp only at c I J⊢;clear E j;obtain⟨u,A⟩:∃n,left.length=n:=⟨_,rfl⟩;obtain⟨v,B⟩:∃n,right.length=n:=⟨_,rfl⟩;obtain⟨y,C⟩:∃n,aa.length=n:=⟨_,rfl⟩;obtain⟨z,D⟩:∃n,ae.length=n:=⟨_,rfl⟩;obtain⟨N,o⟩:∃n,Y.length=n:=⟨_,rfl⟩;obtain⟨ad,q⟩:∃n,T.length=n:=⟨_,rfl⟩;rw[o]at I;rw[q]at J;rw[A,B,C,D,o,q]at c;rw[A,B,C,D,o,q];clear A B C D o q;have k:ϝ (∀(h:Nat) (d:ϛ),Δ d h 0 (vS l u K)->Δ d h 1 (vS r v O)->Δ d h 2 (vS L y M)->Δ d h 3 (vS Q z R)->
  η 121 #[vS (τ h) 4 4,.func (.func 122) #[] #[]] d (θ d (.bool (JB u v y z)))):=
  λh d U V W X=>Adv h (l,u,K) (r,v,O) (L,y,M) (Q,z,R) d U V W X
 obtain⟨sb,H⟩:=nM (JB u v y z);rw[H]at k c;clear H
 cases sb
 ·cases F
  all_goals
   go_enter func62,ntmps62;go_wp2_with (first
    |(go_at_call 121;refine(k.o _ _ ϣ ϣ ϣ ϣ).mono ?_;rintro e d ⟨rfl,b⟩;have f:=(Ϫ.alloc ϡ _).trans (b.mono Ϥ);obtain⟨s,t⟩:=D3 b))
   go_ret;exact⟨Ab (by rw[c.o];simp),f⟩
 ·cases F
  ·rw[if_neg Ϡ]at c;by_cases m:N=0
   ·subst m;go_enter func62,ntmps62;go_wp2_with (first
     |(go_at_call 121;refine(k.o _ _ ϣ ϣ ϣ ϣ).mono ?_;rintro e d ⟨rfl,b⟩;have f:=(Ϫ.alloc ϡ _).trans (b.mono Ϥ);obtain⟨s,t⟩:=D3 b))
    go_ret;exact⟨Ab (by rw[c.o];exact Bool.eq_iff_iff.2 ϡ),f⟩
   ·have ag:((N:Int)==0)=false:=by simpa using m
    rw[decide_eq_false m]at c;clear m;go_enter func62,ntmps62;go_wp2_with (first
     |(go_at_call 121;refine(k.o _ _ ϣ ϣ ϣ ϣ).mono ?_;rintro e d ⟨rfl,b⟩;have f:=(Ϫ.alloc ϡ _).trans (b.mono Ϥ);obtain⟨s,t⟩:=D3 b))
    go_ret;exact⟨Ab (by rw[c.o];rfl),f⟩
  ·rw[if_pos rfl]at c;obtain⟨S,G⟩:=nM (A8 ad 1 4);rw[G]at c
   cases S
   ·go_enter func62,ntmps62;go_wp2_with (first
     |(go_at_call 121;refine(k.o _ _ ϣ ϣ ϣ ϣ).mono ?_;rintro e d ⟨rfl,b⟩;have f:=(Ϫ.alloc ϡ _).trans (b.mono Ϥ);obtain⟨s,t⟩:=D3 b)
     |(go_at_call 117;refine(C9 _ _ _ _).mono ?_;rintro e w' ⟨rfl,j⟩;subst j))
    go_ret;exact⟨Ab (by rw[c.o];rfl),f⟩
   ·have Z:=(Bh _ _ _).1 G;obtain⟨u1,u2⟩:=Z;go_enter func62,ntmps62;go_wp2_with (first
     |(go_at_call 121;refine(k.o _ _ ϣ ϣ ϣ ϣ).mono ?_;rintro e d ⟨rfl,b⟩;have f:=(Ϫ.alloc ϡ _).trans (b.mono Ϥ);obtain⟨s,t⟩:=D3 b)
     |(go_at_call 117;refine(C9 _ _ _ _).mono ?_;rintro e w' ⟨rfl,j⟩;subst j))
    go_ret;exact⟨Ab (by rw[c.o];simp),f⟩
theorem Tryz.info3:(Tryz.prog.info? 3).map (λi=>(i.zero,i.size,i.bytes))=some (some (vI 0),1,8):=Ϣ
def FY(n:Int):Value:=vI n
def Dm(w:World)(base:Nat)(v:Value)(l:List Int):Prop:=w.ownsRow base 3 1 v l.length (l.map FY)
theorem Wv(b a j:Nat):(⟨b,a,none⟩:Addr).add j=⟨b,a+j,none⟩:=by unfold Addr.add;split<;>simp_all
theorem C0{e:TypeId}{size:Nat}{v:Value}{d:List Value}(h:w.ownsRow base e size v n d):∃a b,v=vS a n b/\(0<n->∃g,a=some ⟨g,0,none⟩):=by
 rcases h.2 with⟨rfl,c⟩|⟨g,b,f,rfl,_⟩
 ·exact⟨none,0,by rw[c],λh=>absurd c ϟ⟩
 ·exact⟨_,_,rfl,λ_=>⟨g,rfl⟩⟩
theorem Le{ad:Ϝ}{cap:Nat}(h:Dm w base (vS ad n cap) l):AA w ad l/\n=l.length:=by
 obtain⟨f,j,e,b⟩:=C0 h;injection e with ha d a
 subst ha a;refine⟨λi c=>?_,d⟩;obtain⟨g,rfl⟩:=b ϟ;have a:=World.ownsRow.cells h (g:=g) rfl i (FY (l.getD i 0)) (by simp[getElem?_map,gDe,c]);rw[Wv]at a;exact⟨g,0,rfl,a⟩
theorem Jq(v:Value)(h:v.cells.size=1)(n:Nat):(Builtin.zeroCells v.cells n).size=n:=by
 simp[Builtin.zeroCells,h]
theorem AaL(n:Nat)(w:ϛ)(y:n<=1000):
 η 207 #[ψ,vI n] w λe r=>(∃v,e= .returned v/\Dm r w.heap.size v [])/\Ϟ w r:=by
 obtain⟨q,m,p,x,d⟩:=info_parts Tryz.info3;by_cases t:n=0
 ·subst t;go_enter func207,ntmps207;go_wp2;go_ret;exact⟨⟨_,rfl,World.ownsRow_nil _ _ _ _⟩,bR⟩
 ·have b:∀f,(Builtin.append_ #[22,3] f #[ψ,vI (n:Int)]).run Tryz.prog w=
   .ok (vS (τ w) n (grownCap w n 0 3)) (w.drew.alloc (.cells (Builtin.zeroCells (Value.int .i64 0).cells n++Builtin.zeroCells (Value.int .i64 0).cells (grownCap w n 0 3 - n)) 3)):=λf=>by
   have h:=Lib.run_append_grow_zeros w 22 3 f 3 q (vI 0) .i64 .i64 underlying22 underlying3 m p none 0 0 [] (run_firstCells_none w.drew q.size 0 0 0) n ϟ ϟ ϟ ϟ (by rw[d];omega) (growslice_fits ϟ (by rw[d];omega));simpa using h
  have u:n<=grownCap w n 0 3:=grownCap_ge w _ _ _;have a:grownCap w n 0 3<=maxLen:=grownCap_le_maxLen w n 0 3 ϩ;obtain⟨G,j⟩:∃G,G=grownCap w n 0 3:=⟨_,rfl⟩;rw[<-j]at b u a;have o:(Builtin.zeroCells (Value.int .i64 0).cells n++Builtin.zeroCells (Value.int .i64 0).cells (G - n)).size=G * 1:=by
   rw[Array.size_append,Jq _ rfl,Jq _ rfl];omega
  obtain⟨g,k⟩:∃c,Builtin.zeroCells (Value.int .i64 0).cells n++Builtin.zeroCells (Value.int .i64 0).cells (G - n)=c:=⟨_,rfl⟩;rw[k]at b o;have s:ϝ (Dm (w.drew.alloc (.cells g 3)) w.heap.size (vS (τ w) 0 G) []):=World.ownsRow_made (base:=w.heap.size) (e:=3) (size:=1) w.drew g G nR a o;have z:0<(n:Int):=ϟ;unfold maxLen at a;clear k j m p x d;go_enter func207,ntmps207;go_wp2_with (at_builtin;refine Lib.wpList_append_run _ rfl _ _ _ _ rfl _ _ rfl rfl _ _ (b _) ?_);go_ret;exact⟨⟨_,rfl,s.o⟩,(bR.drew).alloc nR _⟩
theorem Lf(l:List Int):∀u∈l.map FY,u.oneCell'=true:=by
 intro u a;obtain⟨n,_,rfl⟩:=mem_map.1 a;rfl
theorem Hp{b d:Nat}(h:AA w (some ⟨b,d,none⟩) l):∀j u,(l.map FY)[j]? =some u->w.cell? ((⟨b,d,none⟩:Addr).add j)=some u:=by
 intro j u c;rw[getElem?_map]at c;obtain⟨n,a,rfl⟩:=Option.map_eq_some_iff.1 c;obtain⟨f,k⟩:=List.getElem?_eq_some_iff.1 a;obtain⟨g,m,e,x⟩:=h j f
 cases e
 rw[Wv,x];simp[gDe,a,FY]
theorem Vj(g:Nat)(R S:Ϝ)(V W:Nat)(a c:List Int)(w:ϛ)(n1:0<a.length)(n2:0<c.length)(m1:a.length<=400)(m2:c.length<=400)(h1:AA w R a)(f:AA w S c)
 (K:Δ w g 0 (vS R a.length V)) (L:Δ w g 1 (vS S c.length W)):
 η 169 #[vS (τ g) 2 2] w λe d=>(∃t X,e= .returned (vS t (a++c).length X)/\Dm d w.heap.size (vS t (a++c).length X) (a++c))/\Ϟ w d:=by
 obtain⟨z,Z,af,ag,ah⟩:=info_parts Tryz.info3;have k:ϝ (Tryz.prog.info? 3=some z/\z.zero=some (vI 0)/\z.size=1/\z.bytes=8):=⟨Z,af,ag,ah⟩;clear Z af ag ah;obtain⟨T,o1,rfl,_⟩:=h1 0 n1;obtain⟨U,o2,rfl,_⟩:=f 0 n2;have ai:ϝ (∀d,Ϟ w d->∀j u,(a.map FY)[j]? =some u->d.cell? ((⟨T,o1,none⟩:Addr).add j)=some u):=λd o=>Hp (Au h1 o);have aj:ϝ (∀d,Ϟ w d->∀j u,(c.map FY)[j]? =some u->d.cell? ((⟨U,o2,none⟩:Addr).add j)=some u):=λd o=>Hp (Au f o);have ac:ϝ ((a.map FY).length=a.length):=lMp ..;have ae:ϝ ((c.map FY).length=c.length):=lMp ..;clear h1 f;obtain⟨p,F⟩:∃n,a.length=n:=⟨_,rfl⟩;obtain⟨A,G⟩:∃n,c.length=n:=⟨_,rfl⟩;have D:ϝ (a.length=p):=F;have O:ϝ (c.length=A):=G;rw[F]at n1 m1 K ac;rw[G]at n2 m2 L ae;rw[lAp,F,G];clear F G;have HG:ϝ (∀q,CT 207 #[ψ,vI ((p:Int)+A)] q λe d=>(∃v,e= .returned v/\Dm d q.heap.size v [])/\Ϟ q d):=λq=>by
  have h:=AaL (p+A) q ϟ;rwa[Int.natCast_add]at h
 go_enter func169,ntmps169;go_wp2
 go_loop [3,11] (λs i=>(i=vI 0/\s=vI 0)\/(i=vI 1/\s=vI p)\/(i=vI 2/\s=vI ((p:Int)+A))) (λ_ i=>2 - (intOf i).toNat)
 case atStart=>exact .inl ⟨rfl,rfl⟩
 case round=>
  rcases hrel with⟨rfl,rfl⟩|⟨rfl,rfl⟩|⟨rfl,rfl⟩
  ·go_wp2
   go_round
   case rel=>exact .inr (.inl ⟨rfl,rfl⟩)
   case measure=>simp[intOf]
  ·go_wp2
   go_round
   case rel=>exact .inr (.inr ⟨rfl,rfl⟩)
   case measure=>simp[intOf]
  ·go_wp2_with fail;refine(HG.o _).mono ?_;rintro e q ⟨⟨v,rfl,ab⟩,E⟩;have f1:=cLz E K;have f2:=cLz E L;have Q:ϝ (Dm q w.heap.size v []):=ab;clear ab;go_wp2
   go_loopw [6,27] (λx i wr=> ∃l:List Int,((i=vI 0/\l=[])\/(i=vI 1/\l=a)\/(i=vI 2/\l=a++c))/\Dm wr w.heap.size x l/\Ϟ w wr) (λ_ i _=>2 - (intOf i).toNat)
   case atStart=>exact⟨[],.inl ⟨rfl,rfl⟩,Q.o,E⟩
   case round=>
    obtain⟨l,hl,aa,m⟩:=hrel;have g1:=cLz m K;have g2:=cLz m L;have r:ϝ (Dm wr w.heap.size u6 l):=aa;have H:=m.size;clear aa f1 f2 E Q;have ak:(u27=vI 0/\[]=l)\/(u27=vI 1/\a=l)\/(u27=vI 2/\a++c=l):=by
     rcases hl with⟨h1,f⟩|⟨h1,f⟩|⟨h1,f⟩
     ·exact .inl ⟨h1,f.symm⟩
     ·exact .inr (.inl ⟨h1,f.symm⟩)
     ·exact .inr (.inr ⟨h1,f.symm⟩)
    clear hl;rcases ak with⟨rfl,rfl⟩|⟨rfl,rfl⟩|⟨rfl,rfl⟩
    ·go_wp2_with (at_builtin;refine wpList_append_own _ rfl (.tmp 31) (.tmp 32) 22 rfl w.heap.size 3 z (vI 0) 1 8 underlying22 k.o.1 k.o.2.1 k.o.2.2.1 k.o.2.2.2 rfl Ϡ _ _ _ rfl r.o ⟨T,o1,none⟩ p V (a.map FY) rfl (by rw[ac.o,Nat.mul_one]) (ai.o _ m) (Lf a) (by unfold maxLen;(simp only[length_nil];omega)) (by(simp only[length_nil];omega)) H ?_;intro N C B M am);have I:ϝ (Dm C w.heap.size N (a)):=by
      show C.ownsRow _ _ _ _ (a).length ((a).map FY);simpa[D.o]using B
     obtain⟨t,J,y,Y⟩:=C0 B;subst y;go_roundw
     case rel=>exact⟨a,.inr (.inl ⟨rfl,rfl⟩),I.o,m.grown M H (λb o=>(World.ownsRow.lt r.o b o).1)⟩
     case measure=>simp[intOf]
    ·go_wp2_with (at_builtin;refine wpList_append_own _ rfl (.tmp 31) (.tmp 32) 22 rfl w.heap.size 3 z (vI 0) 1 8 underlying22 k.o.1 k.o.2.1 k.o.2.2.1 k.o.2.2.2 rfl Ϡ _ _ _ rfl r.o ⟨U,o2,none⟩ A W (c.map FY) rfl (by rw[ae.o,Nat.mul_one]) (aj.o _ m) (Lf c) (by unfold maxLen;(rw[D.o];omega)) (by(rw[D.o];omega)) H ?_;intro N C B M am);have I:ϝ (Dm C w.heap.size N (a++c)):=by
      show C.ownsRow _ _ _ _ (a++c).length ((a++c).map FY);rw[lAp,map_append,O.o];exact B
     obtain⟨t,J,y,Y⟩:=C0 B;subst y;go_roundw
     case rel=>exact⟨a++c,.inr (.inr ⟨rfl,rfl⟩),I.o,m.grown M H (λb o=>(World.ownsRow.lt r.o b o).1)⟩
     case measure=>simp[intOf]
    ·obtain⟨t,J,y,Y⟩:=C0 r.o;have al:(a++c).length=p+A:=by rw[lAp,D.o,O.o]
     rw[al]at y;subst y;go_wp2;go_ret;exact⟨⟨t,J,rfl,r.o⟩,m⟩
theorem DK(p:Pln)(x:PA)(w:ϛ)(m:planAt w p x)(y:0<p.left.length)(z:0<p.right.length)(u:p.left.length<=400)(v:p.right.length<=400):
 η 124 #[Ak p x] w λe h=>(∃d f,e= .returned (vS d (BJ p).length f)/\Dm h w.heap.size (vS d (BJ p).length f) (BJ p))/\Ϟ w h:=by
 have K:ϝ (∀g b,Ϟ w b->Δ b g 0 (vS x.l p.left.length x.lc)->Δ b g 1 (vS x.r p.right.length x.rc)->
  η 169 #[vS (τ g) 2 2] b λe h=>(∃d f,e= .returned (vS d (BJ p).length f)/\Dm h b.heap.size (vS d (BJ p).length f) (BJ p))/\Ϟ b h):=
  λg b o B C=>Vj g x.l x.r x.lc x.rc p.left p.right b y z u v (Au m.l o) (Au m.r o) B C
 obtain⟨J,q⟩:=nM ((BJ p).length);rw[q]at K⊢;clear q;obtain⟨L,s⟩:=nM (BJ p);rw[s]at K⊢;clear s m y z u v;obtain⟨R,Y,X,Q,ae,T,left,right,W,ab,O,N,I⟩:=p;obtain⟨l,S,r,rc,U,V,rk,aa,g,M,a,H⟩:=x;unfold Ak;dsimp only at K⊢;obtain⟨Z,j⟩:∃n,left.length=n:=⟨_,rfl⟩;obtain⟨n7,k⟩:∃n,right.length=n:=⟨_,rfl⟩;rw[j,k]at K;rw[j,k];clear j k;go_enter func124,ntmps124;go_wp2_with (go_at_call 169;refine(K.o _ _ (Ϫ.alloc ϡ _) ϣ ϣ).mono ?_;rintro e b ⟨⟨d,f,rfl,t⟩,G⟩);go_ret;exact⟨⟨d,f,rfl,⟨t.1,t.2.imp id (λ⟨g,c,A,D,E,F⟩=>⟨g,c,A,D,by simp at E;omega,F⟩)⟩⟩,(Ϫ.alloc ϡ _).trans (G.mono Ϥ)⟩
theorem AaM(i c:Int)(w:ϛ):
 η 125 #[vI i,vI c] w (θ w (.bool (A8 c 1 3))):=by
 go_enter func125,ntmps125;go_wp2_with (go_at_call 117;refine(C9 _ _ _ _).mono ?_;rintro e b ⟨rfl,a⟩;subst a);go_ret;exact⟨rfl,bR⟩
theorem LF(p:Pln):decide (CR p)=allB (BJ p).length (λi=>A8 ((BJ p).getD i 0) 1 3):=by
 refine(Ee ?_).symm;unfold CR;rw[Bb];simp only[Bh];exact E8 (Q:=λc:Int=>1<=c/\c<=3)
theorem Om(p:Pln)(x:PA)(w:ϛ)(k:planAt w p x)(s:0<p.left.length)(t:0<p.right.length)(o:p.left.length<=400)(q:p.right.length<=400):
 η 63 #[Ak p x] w (θ w (.bool (decide (CR p)))):=by
 have K:ϝ (∀b,Ϟ w b->CT 124 #[Ak p x] b λe u=>(∃c d,e= .returned (vS c (BJ p).length d)/\Dm u b.heap.size (vS c (BJ p).length d) (BJ p))/\Ϟ b u):=
  λb y=>DK p x b (Aj k y) s t o q
 have C:(BJ p).length<=800:=by unfold BJ;rw[lAp];omega
 have f:ϝ (∀c d b,AA b c (BJ p)->CT 123 #[vS c (BJ p).length d,.func (.func 125) #[] #[]] b (θ b (.bool (decide (CR p))))):=by
  intro c d b D;rw[LF];exact Ho 125 (enters_of func125 Ϣ rfl) #[] (λi=>A8 ((BJ p).getD i 0) 1 3) c d (BJ p) b ϟ D (λi v _ _=>AaM i _ v)
 obtain⟨tb,m⟩:=nM (decide (CR p));rw[m]at f⊢;obtain⟨H,h⟩:=nM ((BJ p).length);rw[h]at K f;obtain⟨I,j⟩:=nM (BJ p);rw[j]at K f;clear j C h m k s t o q;obtain⟨O,W,V,N,ab,R,left,right,U,aa,M,L,G⟩:=p;obtain⟨l,Q,r,X,S,T,Y,Z,g,J,a,F⟩:=x;unfold Ak at K⊢;dsimp only at K⊢;go_enter func63,ntmps63;go_wp2_with (first
  |(go_at_call 124;refine(K.o _ Ϫ).mono ?_;rintro e b ⟨⟨c,d,rfl,E⟩,z⟩;have B:=Ϫ.trans (z.mono ϡ))
  |(go_at_call 123;refine(f.o _ _ _ (Le E).1).mono ?_;rintro e v ⟨rfl,A⟩))
 go_ret;exact⟨rfl,bT B A⟩
def Ww(g:Bool)(l:List (Int×Int))(k:Nat):Prop:=g=true->∀i,i<k->A8 (l.getD i (0,0)).1 1 4=true
theorem Jb(p:Pln):decide (Bw p)=(A8 p.kind 1 3&&A8 p.mode 1 (if p.kind=3 then 2 else 4)&&(!p.grouped||Je p.aggs)):=by
 refine(Ee ?_).symm;simp only[Bool.and_eq_true,Bool.or_eq_true,Bh,Tp,Bw,Bool.not_eq_true',and_assoc]
 cases p.grouped<;>simp
theorem Wx{l:List (Int×Int)}(a:i<l.length)(h:A8 (l.getD i (0,0)).1 1 4=false):Je l=false:=Eh a h
theorem Ts{l:List (Int×Int)}(h:∀i,i<l.length->A8 (l.getD i (0,0)).1 1 4=true):Je l=true:=Bb.2 h
theorem Aco{a:Int}(h:A8 a 1 4=true):A8 a 1 2=decide (¬2<a):=by
 have:=(Bh _ _ _).1 h;unfold A8;by_cases b:2<a
 ·rw[decide_eq_false ϟ,decide_eq_false ϟ]
 ·rw[decide_eq_true ϟ,decide_eq_true ϟ]
theorem Gu(p:Pln)(x:PA)(w:ϛ)(N:EL w x.a p.aggs)(V:p.aggs.length<=χ):
 η 30 #[Ak p x] w (θ w (.bool (!decide (Bw p)))):=by
 have q:ϝ ((!decide (Bw p))= !(A8 p.kind 1 3&&A8 p.mode 1 (if p.kind=3 then 2 else 4)&&(!p.grouped||Je p.aggs))):=by show(!decide (Bw p))=_;rw[Jb]
 obtain⟨f,W⟩:=nM (!decide (Bw p));rw[W]at q⊢;clear W;have J:ϝ (∀i,i<p.aggs.length->A8 (p.aggs.getD i (0,0)).1 1 4=false->Je p.aggs=false):=λi j h=>Wx j h;have L:ϝ ((∀i,i<p.aggs.length->A8 (p.aggs.getD i (0,0)).1 1 4=true)->Je p.aggs=true):=Ts;obtain⟨A,C,ah,ab,ak,ae,left,right,ag,aj,s,aa,d⟩:=p;obtain⟨l,lc,r,rc,lk,af,rk,ai,g,gc,a,ac⟩:=x;unfold Ak;dsimp only at q J L N V⊢;obtain⟨t,M⟩:∃n,d.length=n:=⟨_,rfl⟩;have Q:ϝ (d.length=t):=M;rw[M]at J L V⊢;clear M;have R:ϝ (EL w a d):=N;clear N
 cases h0:A8 A 1 3 with
 |false=>
  rw[h0]at q;go_enter func30,ntmps30;go_wp2_with
   (go_at_call 29;refine(Ar _ _ _ _).mono ?_;rintro e u ⟨rfl,c⟩;subst c)
  go_ret;exact⟨Ab (by rw[q.o];rfl),Ϫ⟩
 |true=>
  rw[h0]at q
  cases h1:A8 C 1 4 with
  |false=>
   have B:ϝ (f=true):=by
    show f=true;rw[q.o];by_cases m:A=3
    ·rw[if_pos m];have:A8 C 1 2=false:=(CP _ _ _).2 (by have:=(CP _ _ _).1 h1;omega);rw[this];rfl
    ·rw[if_neg m,h1];rfl
   go_enter func30,ntmps30;go_wp2_with
    (go_at_call 29;refine(Ar _ _ _ _).mono ?_;rintro e u ⟨rfl,c⟩;subst c)
   go_ret;exact⟨Ab B.o.symm,Ϫ⟩
  |true=>
   have K:=Aco h1;by_cases S:A=3/\2<C
   ·obtain⟨rfl,hm⟩:=S;rw[if_pos rfl,K,decide_eq_false ϟ]at q;clear K;go_enter func30,ntmps30;go_wp2_with
     (go_at_call 29;refine(Ar _ _ _ _).mono ?_;rintro e u ⟨rfl,c⟩;subst c)
    go_ret;exact⟨Ab (by rw[q.o];rfl),Ϫ⟩
   ·have B:ϝ (f= !(!s||Je d)):=by
     show f=_;rw[q.o];by_cases m:A=3
     ·rw[if_pos m,K,decide_eq_true ϟ];rfl
     ·rw[if_neg m,h1];rfl
    clear q K;have U:A≠3\/C<=2:=ϟ;clear S;rcases U with m|m
    ·have T:(A==3)=false:=by simpa using m
     clear m;go_enter func30,ntmps30;go_wp2_with
      (go_at_call 29;refine(Ar _ _ _ _).mono ?_;rintro e u ⟨rfl,c⟩;subst c)
     go_loop [3] (λi=> ∃k:Nat,k<=t/\i=vI k/\(s=true->∀i,i<k->A8 (d.getD i (0,0)).1 1 4=true)) (λi=>t - (intOf i).toNat)
     case atStart=>exact⟨0,Nat.zero_le _,rfl,λ_ i j=>absurd j (Nat.not_lt_zero i)⟩
     case round=>
      obtain⟨k,m,rfl,F⟩:=hrel;have D:Ww s d k:=F;clear F;by_cases H:k<t
      ·obtain⟨b,o,e,I,O⟩:=R.o k (by rw[Q.o];exact H);subst e;have G:=bLt _ _ I;have X:b<w.heap.size:=G;have Y:(0:Int)<=(k:Int):=ϟ;have Z:(k:Int)<(t:Int):=ϟ;obtain⟨z,y⟩:=nM ((d.getD k (0,0)).1);have E:ϝ ((d.getD k (0,0)).1=z):=y;rw[y]at I;clear O G y
       cases s with
       |false=>
        go_wp2
        go_round
        case rel=>exact⟨k+1,ϟ,by go_num,λh=>absurd h Ϡ⟩
        case measure=>simp[intOf];omega
       |true=>
        cases hf:A8 z 1 4 with
        |true=>
         go_wp2_with
          (go_at_call 29;refine(Ar _ _ _ _).mono ?_;rintro e u ⟨rfl,c⟩;subst c)
         go_round
         case rel=>exact⟨k+1,ϟ,by go_num,λ_ i j=>by
          rcases Nat.lt_succ_iff_lt_or_eq.1 j with h|h
          ·exact D rfl i h
          ·rw[h,E.o];exact hf⟩
         case measure=>simp[intOf];omega
        |false=>
         have v:ϝ (f=true):=by
          show f=true;rw[B.o,J.o k H (by rw[E.o];exact hf)];rfl
         go_wp2_with
          (go_at_call 29;refine(Ar _ _ _ _).mono ?_;rintro e u ⟨rfl,c⟩;subst c)
         go_ret;exact⟨Ab v.o.symm,Ϫ⟩
      ·have v:ϝ (f=false):=by
        show f=false;rw[B.o]
        cases hg:s with
        |false=>rfl
        |true=>rw[L.o (λi j=>D hg i ϟ)];rfl
       go_wp2;go_ret;exact⟨Ab v.o.symm,Ϫ⟩
    ·have T:¬2<C:=ϟ;have ad:decide (2<C)=false:=decide_eq_false T
     cases U:(A==3)
     all_goals
      go_enter func30,ntmps30;go_wp2_with
       (go_at_call 29;refine(Ar _ _ _ _).mono ?_;rintro e u ⟨rfl,c⟩;subst c)
      go_loop [3] (λi=> ∃k:Nat,k<=t/\i=vI k/\(s=true->∀i,i<k->A8 (d.getD i (0,0)).1 1 4=true)) (λi=>t - (intOf i).toNat)
      case atStart=>exact⟨0,Nat.zero_le _,rfl,λ_ i j=>absurd j (Nat.not_lt_zero i)⟩
      case round=>
       obtain⟨k,m,rfl,F⟩:=hrel;have D:Ww s d k:=F;clear F;by_cases H:k<t
       ·obtain⟨b,o,e,I,O⟩:=R.o k (by rw[Q.o];exact H);subst e;have G:=bLt _ _ I;have X:b<w.heap.size:=G;have Y:(0:Int)<=(k:Int):=ϟ;have Z:(k:Int)<(t:Int):=ϟ;obtain⟨z,y⟩:=nM ((d.getD k (0,0)).1);have E:ϝ ((d.getD k (0,0)).1=z):=y;rw[y]at I;clear O G y
        cases s with
        |false=>
         go_wp2
         go_round
         case rel=>exact⟨k+1,ϟ,by go_num,λh=>absurd h Ϡ⟩
         case measure=>simp[intOf];omega
        |true=>
         cases hf:A8 z 1 4 with
         |true=>
          go_wp2_with
           (go_at_call 29;refine(Ar _ _ _ _).mono ?_;rintro e u ⟨rfl,c⟩;subst c)
          go_round
          case rel=>exact⟨k+1,ϟ,by go_num,λ_ i j=>by
           rcases Nat.lt_succ_iff_lt_or_eq.1 j with h|h
           ·exact D rfl i h
           ·rw[h,E.o];exact hf⟩
          case measure=>simp[intOf];omega
         |false=>
          have v:ϝ (f=true):=by
           show f=true;rw[B.o,J.o k H (by rw[E.o];exact hf)];rfl
          go_wp2_with
           (go_at_call 29;refine(Ar _ _ _ _).mono ?_;rintro e u ⟨rfl,c⟩;subst c)
          go_ret;exact⟨Ab v.o.symm,Ϫ⟩
       ·have v:ϝ (f=false):=by
         show f=false;rw[B.o]
         cases hg:s with
         |false=>rfl
         |true=>rw[L.o (λi j=>D hg i ϟ)];rfl
        go_wp2;go_ret;exact⟨Ab v.o.symm,Ϫ⟩
end pl
end Go.Proofs.YtdohnkkbkfhphaaGreat
