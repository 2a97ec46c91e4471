import Derived.Test.YtfkihidbnfkbaaaGreatDoorPv4
import Derived.Lib.AppendZerosOnto
set_option linter.all false
set_option maxHeartbeats 4000000
set_option maxRecDepth 100000
open Go.ChangeShapes Go.WideShapes Go.ChangeAt Go.RowKit List
namespace Go.Proofs.YtfkihidbnfkbaaaGreatDoor
open Go.Proofs.Tryz
namespace tm
def Zr(a b:Int):Bool:=Bm a&&Bm b
theorem Tt(b:Nat)(x y:Int)(w:Ϙ)
 (c:Δ w b 0 (vI x)) (d:Δ w b 1 (vI y)):
 η 366 #[vS (τ b) 2 2] w λe w'=>e= .returned (.bool (Zr x y))/\w'=w:=by
 have h:=RH b [x,y] w Ϟ (λi g=>by
  match i,g with
  |0,_=>exact c
  |1,_=>exact d)
 refine h.mono λe w' ⟨f,j⟩=>⟨?_,j⟩;rw[f];simp[Zr]
def start(t s:Int):Int:=t - t % s
theorem X0(t s:Int)(c:t<0)(b:0<s):t.tmod s= -((-t) % s):=by
 have:=Int.neg_tmod (-t) s;rw[Int.neg_neg]at this;rw[this,Int.tmod_eq_emod_of_nonneg Ϝ]
theorem Zs(t s:Int)(b:0<s):(-t % s=0/\t % s=0)\/(0< -t % s/\t % s=s - -t % s):=by
 have p:=Int.emod_nonneg t (show s≠0 by omega);have q:=Int.emod_lt_of_pos t b;have r:=Int.emod_nonneg (-t) (show s≠0 by omega);have u:=Int.emod_lt_of_pos (-t) b;have g:=Int.mul_ediv_add_emod t s;have j:=Int.mul_ediv_add_emod (-t) s;have c:s * (t/s+ -t/s)= -(t % s+ -t % s):=by rw[Int.mul_add];omega
 obtain⟨k,d⟩:∃k,t/s+ -t/s=k:=⟨_,rfl⟩;rw[d]at c;have m:k<=0:=by
  rcases Int.lt_or_le 0 k with h|h
  ·have:=Int.mul_pos b h;omega
  ·exact h
 have o: -2<k:=by
  rcases Int.lt_or_le (-2) k with h|h
  ·exact h
  ·have:=Int.mul_le_mul_of_nonneg_left h (Int.le_of_lt b);omega
 have f:k=0\/k= -1:=Ϝ;rcases f with rfl|rfl<;>omega
theorem tup3{a b c d f g:Int}(h:a=d)(j:b=f)(k:c=g):
 Ending.returned (.tuple #[vI a,vI b,vI c])= .returned (.tuple #[vI d,vI f,vI g]):=by rw[h,j,k]
theorem X3(t s:Int)(b:0<s):start t s<=t/\t<start t s+s:=by
 unfold start;have:=Int.emod_nonneg t (show s≠0 by omega);have:=Int.emod_lt_of_pos t b;omega
theorem Mw(t s:Int)(w:Ϙ)(h:Bm t=true)(m:1<=s)(o:s<=1099511627776):
 η 367 #[vI t,vI s] w λe w'=>e= .returned (.tuple #[vI (start t s),vI (start t s+s),ω])/\w'=w:=by
 have g:=(Lf t).1 h;obtain⟨j,k⟩:=g;have q:¬s<1:=Ϝ;have r:¬1099511627776<s:=Ϝ;have y:(s==0)=false:=ϡ;by_cases u:0<=t
 ·have d:=Int.emod_nonneg t (show s≠0 by omega);have f:=Int.emod_lt_of_pos t (show 0<s by omega);go_enter func367,ntmps367;go_wp2_with (go_at_call 197;refine(Cz _ _).mono ?_;rintro e w' ⟨rfl,b⟩;subst b)
  go_ret3
  exact⟨rfl,rfl⟩
 ·have e0:=X0 t s Ϝ Ϝ;have d:=Int.emod_nonneg (-t) (show s≠0 by omega);have f:=Int.emod_lt_of_pos (-t) (show 0<s by omega);have c:Ϛ ((-t % s=0/\t % s=0)\/(0< -t % s/\t % s=s - -t % s)):=Zs t s Ϝ;go_enter func367,ntmps367;go_wp2_with (go_at_call 197;refine(Cz _ _).mono ?_;rintro e w' ⟨rfl,b⟩;subst b)
  all_goals
   have p:=c.o
   go_ret3
   exact⟨tup3 (by unfold start;omega) (by unfold start;omega) rfl,rfl⟩
end tm
namespace pl
open vl
variable {w w' : Ϙ} {a : ϙ} {l : List Int} {base i n size : Nat} {P : Nat -> Bool} {e : TypeId} {v : Value} {xs : List Value} {x : Int}
def A8(w:World)(a:Option Addr)(l:List Int):Prop:=
 ∀i,i<l.length->∃b off,a=some ⟨b,off,none⟩/\Δ w b (off+i) (vI (l.getD i 0))
def Ge(w:World)(a:Option Addr)(l:List (Int×Int)):Prop:=
 ∀i,i<l.length->∃b off,a=some ⟨b,off,none⟩/\Δ w b (off+i * 2) (vI (l.getD i (0,0)).1)/\Δ w b (off+i * 2+1) (vI (l.getD i (0,0)).2)
theorem Av(h:A8 w a l)(c:ϛ w w'):A8 w' a l:=by
 intro i d;obtain⟨b,o,e,x⟩:=h i d;exact⟨b,o,e,cLz c x⟩
theorem E6{l:List (Int×Int)}(h:Ge w a l)(c:ϛ w w'):Ge w' a l:=by
 intro i d;obtain⟨b,o,e,x,y⟩:=h i d;exact⟨b,o,e,cLz c x,cLz c y⟩
structure Pln where
 kind:Int
 mode:Int
 low:Int
 high:Int
 size:Int
 limit:Int
 left:List Int
 right:List Int
 lkeys:List Int
 rkeys:List Int
 grouped:Bool
 group:List Int
 aggs:List (Int×Int)
structure PA where
 l:Option Addr
 lc:Nat
 r:Option Addr
 rc:Nat
 lk:Option Addr
 lkc:Nat
 rk:Option Addr
 rkc:Nat
 g:Option Addr
 gc:Nat
 a:Option Addr
 ac:Nat
def Aq(p:Pln)(x:PA):Value:=
 .agg #[vI p.kind,vI p.mode,vI p.low,vI p.high,vI p.size,vI p.limit,
  vS x.l p.left.length x.lc,vS x.r p.right.length x.rc,vS x.lk p.lkeys.length x.lkc,vS x.rk p.rkeys.length x.rkc,.bool p.grouped,vS x.g p.group.length x.gc,vS x.a p.aggs.length x.ac]
structure planAt(w:World)(p:Pln)(x:PA):Prop where
 l:A8 w x.l p.left
 r:A8 w x.r p.right
 lk:A8 w x.lk p.lkeys
 rk:A8 w x.rk p.rkeys
 g:A8 w x.g p.group
 a:Ge w x.a p.aggs
theorem Ag{p:Pln}{x:PA}(h:planAt w p x)(b:ϛ w w'):planAt w' p x:=
 ⟨Av h.l b,Av h.r b,Av h.lk b,Av h.rk b,Av h.g b,E6 h.a b⟩
def i64(n:Int):Prop:= -9223372036854775808<=n/\n<=9223372036854775807
structure wfPlan(p:Pln):Prop where
 low:i64 p.low
 high:i64 p.high
 l:p.left.length<=χ
 r:p.right.length<=χ
 lk:p.lkeys.length<=χ
 rk:p.rkeys.length<=χ
 g:p.group.length<=χ
 a:p.aggs.length<=χ
def fit(t:Int):Prop:= -1099511627776<=t/\t<=1099511627776
instance(t:Int):Decidable (fit t):=by unfold fit;infer_instance
def Dk(p:Pln):Prop:=(1<=p.kind/\p.kind<=3)/\(1<=p.mode/\p.mode<=(if p.kind=3 then 2 else 4))/\(p.grouped=true->∀a∈p.aggs,1<=a.1/\a.1<=4)
def CI(p:Pln):Prop:=(if p.kind=1 then fit p.low/\fit p.high else p.low=0/\p.high=0)/\(if p.kind=2 then 1<=p.size/\p.size<=1099511627776 else p.size=0)/\(1<=p.limit/\p.limit<=64)
def Jz(n:Nat):Prop:=1<=n/\n<=4
instance(n:Nat):Decidable (Jz n):=by unfold Jz;infer_instance
def Dp(p:Pln):Prop:=(Jz p.left.length/\Jz p.right.length/\Jz p.lkeys.length/\Jz p.rkeys.length)/\(if p.grouped=true then Jz p.aggs.length/\p.group.length+p.aggs.length<=8 else p.group.length=0/\p.aggs.length=0)
def BG(p:Pln):List Int:=p.left++p.right
def CS(p:Pln):Prop:=∀c∈BG p,1<=c/\c<=3
def AU(l:List Int)(n:Nat):Prop:=(∀x∈l,0<=x/\x<(n:Int))/\l.Pairwise (· ≠ ·)
def Fl(p:Pln):Prop:=∀i,i<p.lkeys.length->p.left.getD (p.lkeys.getD i 0).toNat 0=p.right.getD (p.rkeys.getD i 0).toNat 0
def Gl(c:List Int)(a:Int×Int):Prop:=if a.1=1 then a.2=0 else(0<=a.2/\a.2<(c.length:Int))/\(a.1=2->c.getD a.2.toNat 0=2)
def GU(p:Pln):Prop:=p.lkeys.length=p.rkeys.length/\AU p.lkeys p.left.length/\AU p.rkeys p.right.length/\Fl p
def Cs(p:Pln):Prop:=p.low<=p.high/\GU p/\AU p.group (BG p).length/\(∀a∈p.aggs,Gl (BG p) a)
instance(p:Pln):Decidable (Dk p):=by unfold Dk;infer_instance
instance(p:Pln):Decidable (CI p):=by unfold CI;infer_instance
instance(p:Pln):Decidable (Dp p):=by unfold Dp;infer_instance
instance(p:Pln):Decidable (CS p):=by unfold CS;infer_instance
instance(l:List Int)(n:Nat):Decidable (AU l n):=by unfold AU;infer_instance
instance(p:Pln):Decidable (Fl p):=by unfold Fl;infer_instance
instance(c:List Int)(a:Int×Int):Decidable (Gl c a):=by unfold Gl;infer_instance
instance(p:Pln):Decidable (GU p):=by unfold GU;infer_instance
instance(p:Pln):Decidable (Cs p):=by unfold Cs;infer_instance
def An(p:Pln):Int:=
 if¬Dk p then 4 else if¬CI p then 3 else if¬Dp p then 2 else if¬CS p then 5 else if¬Cs p then 1 else 0
theorem BI{p:Pln}(h:An p=0):Dk p/\CI p/\Dp p/\CS p/\Cs p:=by
 unfold An at h;by_cases b:Dk p
 ·by_cases c:CI p
  ·by_cases d:Dp p
   ·by_cases f:CS p
    ·by_cases g:Cs p
     ·exact⟨b,c,d,f,g⟩
     ·rw[if_neg (by simp[b]),if_neg (by simp[c]),if_neg (by simp[d]),if_neg (by simp[f]),if_pos g]at h;cases h
    ·rw[if_neg (by simp[b]),if_neg (by simp[c]),if_neg (by simp[d]),if_pos f]at h;cases h
   ·rw[if_neg (by simp[b]),if_neg (by simp[c]),if_pos d]at h;cases h
  ·rw[if_neg (by simp[b]),if_pos c]at h;cases h
 ·rw[if_pos b]at h;cases h
def B9(n a b:Int):Bool:=decide (a<=n/\n<=b)
theorem BE(n a b:Int):B9 n a b=true↔(a<=n/\n<=b):=by simp[B9]
theorem EW(n a b:Int):B9 n a b=false↔ ¬(a<=n/\n<=b):=by unfold B9;exact decide_eq_false_iff_not
theorem BL(n a b:Int)(w:Ϙ):
 η 126 #[vI n,vI a,vI b] w λe w'=>e= .returned (.bool (B9 n a b))/\w'=w:=by
 by_cases c:a<=n
 ·by_cases d:n<=b
  ·rw[(BE n a b).2 ⟨c,d⟩];go_enter func126,ntmps126;go_wp2;go_ret;exact⟨rfl,rfl⟩
  ·rw[(EW n a b).2 Ϝ];go_enter func126,ntmps126;go_wp2;go_ret;exact⟨rfl,rfl⟩
 ·rw[(EW n a b).2 Ϝ];go_enter func126,ntmps126;go_wp2;go_ret;exact⟨rfl,rfl⟩
def allB(n:Nat)(P:Nat->Bool):Bool:=(List.range n).all P
theorem AQ:allB n P=true↔ ∀i,i<n->P i=true:=by simp[allB]
theorem Ez(c:i<n)(h:P i=false):allB n P=false:=by
 rcases Bool.eq_false_or_eq_true (allB n P)with b|b
 ·have:=AQ.1 b i c;rw[h]at this;cases this
 ·exact b
theorem Gf(d:FuncId)(I:∀y w,(callFunc d y).run Tryz.prog w= .ok (.enter d y) w)(j:Array Value)(P:Nat->Bool)(a:ϙ)(cap:Nat)(l:List Int)(w:Ϙ)(F:l.length<=χ)(ha:A8 w a l)
 (H:∀i c,i<l.length->ϛ w c->Calls Tryz.prog d (#[vI (i:Nat),vI (l.getD i 0)]++j) c (θ c (.bool (P i)))):
 η 132 #[vS a l.length cap,.func (.func d) #[] j] w (θ w (.bool (allB l.length P))):=by
 have E:Ϛ (∀i c,i<l.length->ϛ w c->CT d (#[vI (i:Nat),vI (l.getD i 0)]++j) c (θ c (.bool (P i)))):=H;clear H;obtain⟨n,s⟩:∃n,l.length=n:=⟨_,rfl⟩;have u:Ϛ (l.length=n):=s;rw[s]at F⊢;clear s;go_enter func132,ntmps132;go_wp2
 go_loopw [9] (λi wr=> ∃k:Nat,k<=n/\i=vI k/\ϛ w wr/\∀i,i<k->P i=true) (λi _=>n - (intOf i).toNat)
 case atStart=>exact⟨0,Nat.zero_le _,rfl,bR,λi m=>absurd m (Nat.not_lt_zero i)⟩
 case round=>
  obtain⟨k,J,rfl,f,A⟩:=hrel;have t:Ϛ (∀i,i<k->P i=true):=A;clear A;by_cases r:k<n
  ·obtain⟨b,o,e,D⟩:=ha k (by rw[u.o];exact r);subst e;have G:=cLz f D;clear D ha;have K:(0:Int)<=(k:Int):=Ϝ;have L:(k:Int)<(n:Int):=Ϝ;have g:Ϛ (CT d (#[vI (k:Nat),vI (l.getD k 0)]++j) wr (θ wr (.bool (P k)))):=E.o k wr (by rw[u.o];exact r) f;obtain⟨z,C⟩:=nM (l.getD k 0);rw[C]at G g;clear C;have B:=f.size
   cases hp:P k with
   |true=>
    rw[hp]at g;go_wp2_with (go_at_fn d;refine g.o.mono ?_;rintro e c ⟨rfl,q⟩);go_roundw
    case rel=>exact⟨k+1,Ϝ,by go_num,f.trans (q.mono B),λi m=>by
     rcases Nat.lt_succ_iff_lt_or_eq.1 m with h|h
     ·exact t.o i h
     ·rw[h];exact hp⟩
    case measure=>simp[intOf];omega
   |false=>
    have p:Ϛ (allB n P=false):=Ez r hp;rw[hp]at g;go_wp2_with (go_at_fn d;refine g.o.mono ?_;rintro e c ⟨rfl,q⟩);go_ret;exact⟨Aa p.o.symm,f.trans (q.mono B)⟩
  ·have p:Ϛ (allB n P=true):=AQ.2 (λi m=>t.o i Ϝ);go_wp2;go_ret;exact⟨Aa p.o.symm,f⟩
def Aa7(w:World)(a:Option Addr)(l:List (Option Addr×Nat×Nat)):Prop:=
 ∀i,i<l.length->∃b off,a=some ⟨b,off,none⟩/\Δ w b (off+i) (vS (l.getD i (none,0,0)).1 (l.getD i (none,0,0)).2.1 (l.getD i (none,0,0)).2.2)
theorem J0(d:FuncId)(M:∀A w,(callFunc d A).run Tryz.prog w= .ok (.enter d A) w)(j:Array Value)(P:Nat->Bool)(a:ϙ)(cap:Nat)(l:List (Int×Int))(w:Ϙ)(L:l.length<=χ)(ha:Ge w a l)
 (H:∀i c,i<l.length->ϛ w c->Calls Tryz.prog d (#[vI (i:Nat),.agg #[vI (l.getD i (0,0)).1,vI (l.getD i (0,0)).2]]++j) c (θ c (.bool (P i)))):
 η 195 #[vS a l.length cap,.func (.func d) #[] j] w (θ w (.bool (allB l.length P))):=by
 have J:Ϛ (∀i c,i<l.length->ϛ w c->CT d (#[vI (i:Nat),.agg #[vI (l.getD i (0,0)).1,vI (l.getD i (0,0)).2]]++j) c (θ c (.bool (P i)))):=H;clear H;obtain⟨n,t⟩:∃n,l.length=n:=⟨_,rfl⟩;have y:Ϛ (l.length=n):=t;rw[t]at L⊢;clear t;go_enter func195,ntmps195;go_wp2
 go_loopw [9] (λi wr=> ∃k:Nat,k<=n/\i=vI k/\ϛ w wr/\∀i,i<k->P i=true) (λi _=>n - (intOf i).toNat)
 case atStart=>exact⟨0,Nat.zero_le _,rfl,bR,λi m=>absurd m (Nat.not_lt_zero i)⟩
 case round=>
  obtain⟨k,N,rfl,f,B⟩:=hrel;have u:Ϛ (∀i,i<k->P i=true):=B;clear B;by_cases s:k<n
  ·obtain⟨b,o,e,G,I⟩:=ha k (by rw[y.o];exact s);subst e;have E:=cLz f G;have F:=cLz f I;clear G I ha;have O:(0:Int)<=(k:Int):=Ϝ;have Q:(k:Int)<(n:Int):=Ϝ;have g:Ϛ (∀c,ϛ wr c->CT d (#[vI (k:Nat),.agg #[vI (l.getD k (0,0)).1,vI (l.getD k (0,0)).2]]++j) c (θ c (.bool (P k)))):=λc K=>J.o k c (by rw[y.o];exact s) (bT f K);obtain⟨⟨R,S⟩,D⟩:∃z,l.getD k (0,0)=z:=⟨_,rfl⟩;rw[D]at E F g;dsimp only at E F g;clear D;have C:=f.size
   cases hp:P k with
   |true=>
    rw[hp]at g;go_wp2_with (go_at_fn d;refine(g.o _ ϧ).mono ?_;rintro e c ⟨rfl,q⟩;have r:=(f.alloc C _).trans (q.mono ϡ));go_roundw
    case rel=>exact⟨k+1,Ϝ,by go_num,r,λi m=>by
     rcases Nat.lt_succ_iff_lt_or_eq.1 m with h|h
     ·exact u.o i h
     ·rw[h];exact hp⟩
    case measure=>simp[intOf];omega
   |false=>
    have p:Ϛ (allB n P=false):=Ez s hp;rw[hp]at g;go_wp2_with (go_at_fn d;refine(g.o _ ϧ).mono ?_;rintro e c ⟨rfl,q⟩;have r:=(f.alloc C _).trans (q.mono ϡ));go_ret;exact⟨Aa p.o.symm,r⟩
  ·have p:Ϛ (allB n P=true):=AQ.2 (λi m=>u.o i Ϝ);go_wp2;go_ret;exact⟨Aa p.o.symm,f⟩
theorem OG(d:FuncId)(I:∀y w,(callFunc d y).run Tryz.prog w= .ok (.enter d y) w)(j:Array Value)(P:Nat->Bool)(a:ϙ)(cap:Nat)(l:List (Option Addr×Nat×Nat))(w:Ϙ)(G:l.length<=χ)(ha:Aa7 w a l)
 (H:∀i c,i<l.length->ϛ w c->Calls Tryz.prog d (#[vI (i:Nat),vS (l.getD i (none,0,0)).1 (l.getD i (none,0,0)).2.1 (l.getD i (none,0,0)).2.2]++j) c (θ c (.bool (P i)))):
 η 130 #[vS a l.length cap,.func (.func d) #[] j] w (θ w (.bool (allB l.length P))):=by
 have F:Ϛ (∀i c,i<l.length->ϛ w c->CT d (#[vI (i:Nat),vS (l.getD i (none,0,0)).1 (l.getD i (none,0,0)).2.1 (l.getD i (none,0,0)).2.2]++j) c (θ c (.bool (P i)))):=H;clear H;obtain⟨n,s⟩:∃n,l.length=n:=⟨_,rfl⟩;have u:Ϛ (l.length=n):=s;rw[s]at G⊢;clear s;go_enter func130,ntmps130;go_wp2
 go_loopw [9] (λi wr=> ∃k:Nat,k<=n/\i=vI k/\ϛ w wr/\∀i,i<k->P i=true) (λi _=>n - (intOf i).toNat)
 case atStart=>exact⟨0,Nat.zero_le _,rfl,bR,λi m=>absurd m (Nat.not_lt_zero i)⟩
 case round=>
  obtain⟨k,J,rfl,g,A⟩:=hrel;have t:Ϛ (∀i,i<k->P i=true):=A;clear A;by_cases r:k<n
  ·obtain⟨b,o,e,E⟩:=ha k (by rw[u.o];exact r);subst e;have D:=cLz g E;clear E ha;have K:(0:Int)<=(k:Int):=Ϝ;have L:(k:Int)<(n:Int):=Ϝ;have f:Ϛ (CT d (#[vI (k:Nat),vS (l.getD k (none,0,0)).1 (l.getD k (none,0,0)).2.1 (l.getD k (none,0,0)).2.2]++j) wr (θ wr (.bool (P k)))):=F.o k wr (by rw[u.o];exact r) g;obtain⟨⟨M,N,O⟩,C⟩:∃z,l.getD k (none,0,0)=z:=⟨_,rfl⟩;rw[C]at D f;dsimp only at D f;clear C;have B:=g.size
   cases hp:P k with
   |true=>
    rw[hp]at f;go_wp2_with (go_at_fn d;refine f.o.mono ?_;rintro e c ⟨rfl,q⟩);go_roundw
    case rel=>exact⟨k+1,Ϝ,by go_num,g.trans (q.mono B),λi m=>by
     rcases Nat.lt_succ_iff_lt_or_eq.1 m with h|h
     ·exact t.o i h
     ·rw[h];exact hp⟩
    case measure=>simp[intOf];omega
   |false=>
    have p:Ϛ (allB n P=false):=Ez r hp;rw[hp]at f;go_wp2_with (go_at_fn d;refine f.o.mono ?_;rintro e c ⟨rfl,q⟩);go_ret;exact⟨Aa p.o.symm,g.trans (q.mono B)⟩
  ·have p:Ϛ (allB n P=true):=AQ.2 (λi m=>t.o i Ϝ);go_wp2;go_ret;exact⟨Aa p.o.symm,g⟩
theorem OH(f:FuncId)(O:∀A w,(callFunc f A).run Tryz.prog w= .ok (.enter f A) w)(j:Array Value)(P:Nat->Bool)(a:ϙ)(cap:Nat)(l:List Cel)(w:Ϙ)(N:l.length<=χ)(ha:vl.rowAt w a l)
 (H:∀i c,i<l.length->ϛ w c->Calls Tryz.prog f (#[vI (i:Nat),(l.getD i default).val]++j) c (θ c (.bool (P i)))):
 η 241 #[vS a l.length cap,.func (.func f) #[] j] w (θ w (.bool (allB l.length P))):=by
 have L:Ϛ (∀i c,i<l.length->ϛ w c->CT f (#[vI (i:Nat),(l.getD i default).val]++j) c (θ c (.bool (P i)))):=H;clear H;obtain⟨n,t⟩:∃n,l.length=n:=⟨_,rfl⟩;have y:Ϛ (l.length=n):=t;rw[t]at N⊢;clear t;go_enter func241,ntmps241;go_wp2
 go_loopw [9] (λi wr=> ∃k:Nat,k<=n/\i=vI k/\ϛ w wr/\∀i,i<k->P i=true) (λi _=>n - (intOf i).toNat)
 case atStart=>exact⟨0,Nat.zero_le _,rfl,bR,λi m=>absurd m (Nat.not_lt_zero i)⟩
 case round=>
  obtain⟨k,Q,rfl,g,B⟩:=hrel;have u:Ϛ (∀i,i<k->P i=true):=B;clear B;by_cases s:k<n
  ·obtain⟨b,o,e,I,J,K⟩:=ha k (by rw[y.o];exact s);subst e;have E:=cLz g I;have F:=cLz g J;have G:=cLz g K;clear I J K ha;have R:(0:Int)<=(k:Int):=Ϝ;have S:(k:Int)<(n:Int):=Ϝ;have d:Ϛ (∀c,ϛ wr c->CT f (#[vI (k:Nat),(l.getD k default).val]++j) c (θ c (.bool (P k)))):=λc M=>L.o k c (by rw[y.o];exact s) (bT g M);obtain⟨⟨T,U,V⟩,D⟩:∃z,l.getD k default=z:=⟨_,rfl⟩;rw[D]at E F G d;dsimp only at E F G d;clear D;unfold Cel.val at d;dsimp only at d;have C:=g.size
   cases hp:P k with
   |true=>
    rw[hp]at d;go_wp2_with (go_at_fn f;refine(d.o _ ϧ).mono ?_;rintro e c ⟨rfl,q⟩;have r:=(g.alloc C _).trans (q.mono ϡ));go_roundw
    case rel=>exact⟨k+1,Ϝ,by go_num,r,λi m=>by
     rcases Nat.lt_succ_iff_lt_or_eq.1 m with h|h
     ·exact u.o i h
     ·rw[h];exact hp⟩
    case measure=>simp[intOf];omega
   |false=>
    have p:Ϛ (allB n P=false):=Ez s hp;rw[hp]at d;go_wp2_with (go_at_fn f;refine(d.o _ ϧ).mono ?_;rintro e c ⟨rfl,q⟩;have r:=(g.alloc C _).trans (q.mono ϡ));go_ret;exact⟨Aa p.o.symm,r⟩
  ·have p:Ϛ (allB n P=true):=AQ.2 (λi m=>u.o i Ϝ);go_wp2;go_ret;exact⟨Aa p.o.symm,g⟩
theorem DG{a:Bool}{q:Prop} [Decidable q](h:a=true↔q):a=decide q:=by
 by_cases b:q
 ·rw[decide_eq_true b];exact h.2 b
 ·rw[decide_eq_false b]
  cases a with
  |false=>rfl
  |true=>exact absurd (h.1 rfl) b
theorem Dx{W c:Ϙ}(d:ϛ W c):(∀b o,b<W.heap.size->c.cell? ⟨b,o,none⟩=W.cell? ⟨b,o,none⟩)/\(∀b o,b<W.heap.size->c.frozen? ⟨b,o,none⟩=W.frozen? ⟨b,o,none⟩):=
 ⟨λb o h=>d.cell (p:=⟨b,o,none⟩) h,λb o h=>d.frozen (p:=⟨b,o,none⟩) h⟩
def Qy(l:List (Int×Int)):Bool:=allB l.length (λi=>B9 (l.getD i (0,0)).1 1 4)
theorem Dj{α:Type}{l:List α}{d:α}(h:i<l.length):l.getD i d∈l:=by simp[gDe,h]
theorem GV{α:Type}{l:List α}{d:α}{Q:α->Prop}:(∀i,i<l.length->Q (l.getD i d))↔ ∀x∈l,Q x:=by
 constructor
 ·intro h x c;obtain⟨i,b,rfl⟩:=getElem_of_mem c;have:=h i b;simpa[gDe,b]using this
 ·intro h i b;exact h _ (Dj b)
theorem X4(l:List (Int×Int)):Qy l=true↔ ∀a∈l,1<=a.1/\a.1<=4:=by
 unfold Qy;rw[AQ];simp only[BE];exact GV (Q:=λa:Int×Int=>1<=a.1/\a.1<=4)
theorem X5(i:Int)(f c:Int)(w:Ϙ):
 η 196 #[vI i,.agg #[vI f,vI c]] w (θ w (.bool (B9 f 1 4))):=by
 go_enter func196,ntmps196;go_wp2_with (go_at_call 126;refine(BL _ _ _ _).mono ?_;rintro e w' ⟨rfl,b⟩;subst b);go_ret;exact⟨rfl,ϧ⟩
theorem Qz(a:ϙ)(cap:Nat)(l:List (Int×Int))(w:Ϙ)(g:l.length<=χ)(ha:Ge w a l):
 η 127 #[vS a l.length cap] w (θ w (.bool (Qy l))):=by
 have H:=J0 196 (enters_of func196 ϟ rfl) #[] (λi=>B9 (l.getD i (0,0)).1 1 4) a cap l w g ha (λi c _ _=>X5 i _ _ c);obtain⟨n,b⟩:∃n,l.length=n:=⟨_,rfl⟩;have d:Ϛ (Qy l=allB n (λi=>B9 (l.getD i (0,0)).1 1 4)):=by show Qy l=_;unfold Qy;rw[b]
 rw[b]at H⊢;clear b;go_enter func127,ntmps127;go_wp2_with (go_at_call 195;refine H.mono ?_;rintro e c ⟨rfl,f⟩);go_ret;exact⟨Aa d.o.symm,f⟩
theorem Mx(p:Pln)(x:PA)(w:Ϙ)(G:planAt w p x)(c:wfPlan p):
 η 69 #[Aq p x] w (θ w (.bool (decide (Dk p)))):=by
 have d:=hIz (λ(m:Ϙ) (f:ϛ w m)=>Qz x.a x.ac p.aggs m c.a (E6 G.a f));have b:Ϛ (decide (Dk p)=(B9 p.kind 1 3&&B9 p.mode 1 (if p.kind=3 then 2 else 4)&&(!p.grouped||Qy p.aggs))):=by
  refine(DG ?_).symm;simp only[Bool.and_eq_true,Bool.or_eq_true,BE,X4,Dk,Bool.not_eq_true',and_assoc]
  cases p.grouped<;>simp
 obtain⟨u,k,L,J,size,K,left,right,H,I,h,z,o⟩:=p;obtain⟨l,R,r,rc,S,T,rk,aa,g,O,a,M⟩:=x;unfold Aq;dsimp only at d b⊢;clear G c;obtain⟨W,B⟩:∃n,left.length=n:=⟨_,rfl⟩;obtain⟨X,C⟩:∃n,right.length=n:=⟨_,rfl⟩;obtain⟨Y,D⟩:∃n,H.length=n:=⟨_,rfl⟩;obtain⟨Z,E⟩:∃n,I.length=n:=⟨_,rfl⟩;obtain⟨U,A⟩:∃n,z.length=n:=⟨_,rfl⟩;obtain⟨V,s⟩:∃n,o.length=n:=⟨_,rfl⟩;rw[s]at d;rw[B,C,D,E,A,s];clear B C D E A s;obtain⟨q,F⟩:=nM (Qy o);rw[F]at d b;clear F;by_cases j:u=3
 ·subst j;have y:Ϛ (decide (Dk ⟨3,k,L,J,size,K,left,right,H,I,h,z,o⟩)=(true&&B9 k 1 2&&(!h||q))):=b.o;clear b;have N:B9 3 1 3=true:=ϝ
  cases f:B9 k 1 2<;>rw[f]at y<;>cases h<;>cases q
  all_goals
   go_enter func69,ntmps69;go_wp2_with (first
    |(go_at_call 126;refine(BL _ _ _ _).mono ?_;rintro e w' ⟨rfl,c⟩;subst c)
    |(go_at_call 127;refine(d.o _ ϧ).mono ?_;rintro e m ⟨rfl,t⟩))
   go_ret;refine⟨Aa y.o.symm,?_⟩
   first
    |exact ϧ.trans (t.mono Ϟ)
    |exact ϧ
 ·have Q:(u==3)=false:=by simpa using j
  rw[if_neg j]at b;clear j
  cases h0:B9 u 1 3<;>rw[h0]at b<;>cases f:B9 k 1 4<;>rw[f]at b<;>cases h<;>cases q
  all_goals
   go_enter func69,ntmps69;go_wp2_with (first
    |(go_at_call 126;refine(BL _ _ _ _).mono ?_;rintro e w' ⟨rfl,c⟩;subst c)
    |(go_at_call 127;refine(d.o _ ϧ).mono ?_;rintro e m ⟨rfl,t⟩))
   go_ret;refine⟨Aa b.o.symm,?_⟩
   first
    |exact ϧ.trans (t.mono Ϟ)
    |exact ϧ
def NI(p:Pln):Bool:=if p.kind=1 then tm.Bm p.low&&tm.Bm p.high else decide (p.low=0)&&decide (p.high=0)
def NJ(p:Pln):Bool:=if p.kind=2 then B9 p.size 1 1099511627776 else decide (p.size=0)
theorem Sf(p:Pln):decide (CI p)=(NI p&&NJ p&&B9 p.limit 1 64):=by
 refine(DG ?_).symm;unfold CI NI NJ;simp only[Bool.and_eq_true,BE,and_assoc];refine and_congr ?_ (and_congr ?_ Iff.rfl)
 ·split
  ·simp only[Bool.and_eq_true,tm.Lf,fit]
  ·simp
 ·split
  ·simp only[BE]
  ·simp
theorem MZ(p:Pln)(x:PA)(w:Ϙ):
 η 128 #[Aq p x] w (θ w (.bool (NI p))):=by
 have b:Ϛ (NI p=if p.kind=1 then tm.Bm p.low&&tm.Bm p.high else decide (p.low=0)&&decide (p.high=0)):=rfl;obtain⟨h,E,f,u,size,A,left,right,D,I,s,q,m⟩:=p;obtain⟨l,z,r,F,B,C,G,H,g,o,a,k⟩:=x;unfold Aq;dsimp only at b⊢;by_cases d:h=1
 ·subst d;rw[if_pos rfl]at b
  cases c:tm.Bm f<;>rw[c]at b
  all_goals
   go_enter func128,ntmps128;go_wp2_with (go_at_call 197;refine(tm.Cz _ _).mono ?_;rintro e w' ⟨rfl,j⟩;subst j);go_ret;exact⟨Aa (by rw[b.o];rfl),ϧ⟩
 ·have y:(h==1)=false:=by simpa using d
  rw[if_neg d]at b;clear d;by_cases c:f=0
  ·subst c;go_enter func128,ntmps128;go_wp2;go_ret;exact⟨Aa (by rw[b.o];exact Bool.eq_iff_iff.2 Ϟ),ϧ⟩
  ·have t:(f==0)=false:=by simpa using c
   rw[decide_eq_false c]at b;clear c;go_enter func128,ntmps128;go_wp2;go_ret;exact⟨Aa (by rw[b.o];rfl),ϧ⟩
theorem Na(p:Pln)(x:PA)(w:Ϙ):
 η 129 #[Aq p x] w (θ w (.bool (NJ p))):=by
 have b:Ϛ (NJ p=if p.kind=2 then B9 p.size 1 1099511627776 else decide (p.size=0)):=rfl;obtain⟨d,C,B,q,size,u,left,right,A,G,o,m,j⟩:=p;obtain⟨l,t,r,D,y,z,E,F,g,k,a,h⟩:=x;unfold Aq;dsimp only at b⊢;by_cases c:d=2
 ·subst c;rw[if_pos rfl]at b;go_enter func129,ntmps129;go_wp2_with (go_at_call 126;refine(BL _ _ _ _).mono ?_;rintro e w' ⟨rfl,f⟩;subst f);go_ret;exact⟨Aa b.o.symm,ϧ⟩
 ·have s:(d==2)=false:=by simpa using c
  rw[if_neg c]at b;clear c;go_enter func129,ntmps129;go_wp2;go_ret;exact⟨Aa (by rw[b.o];exact Bool.eq_iff_iff.2 Ϟ),ϧ⟩
theorem Et(p:Pln)(x:PA)(w:Ϙ):
 η 70 #[Aq p x] w (θ w (.bool (decide (CI p)))):=by
 have d:=hIz (λ(b:Ϙ)=>MZ p x b);have f:=hIz (λ(b:Ϙ)=>Na p x b);have c:Ϛ (decide (CI p)=(NI p&&NJ p&&B9 p.limit 1 64)):=Sf p;obtain⟨q,j⟩:=nM (NI p);obtain⟨s,k⟩:=nM (NJ p);rw[j]at d c;rw[k]at f c;clear j k;obtain⟨J,R,Q,H,size,L,left,right,O,V,C,B,z⟩:=p;obtain⟨l,K,r,S,M,N,T,U,g,A,a,y⟩:=x;unfold Aq at d f⊢;dsimp only at d f c⊢
 cases q<;>cases s
 all_goals
  go_enter func70,ntmps70;go_wp2_with (first
   |(go_at_call 128;refine(d.o _).mono ?_;rintro e b ⟨rfl,h⟩;have o:=ϧ.trans (h.mono Ϟ);obtain⟨D,F⟩:=Dx h)
   |(go_at_call 129;refine(f.o _).mono ?_;rintro e W ⟨rfl,m⟩;have t:=bT o m;obtain⟨E,G⟩:=Dx m;have I:w.heap.size<b.heap.size:=by have:=h.size;simp at this;omega)
   |(go_at_call 126;refine(BL _ _ _ _).mono ?_;rintro e w' ⟨rfl,u⟩;subst u))
  go_ret;refine⟨Aa (by rw[c.o];simp),?_⟩
  first
   |exact t
   |exact o
theorem X6(i:Int)(a:ϙ)(n c:Nat)(w:Ϙ):
 η 131 #[vI i,vS a n c] w (θ w (.bool (B9 n 1 4))):=by
 go_enter func131,ntmps131;go_wp2_with (go_at_call 126;refine(BL _ _ _ _).mono ?_;rintro e w' ⟨rfl,b⟩;subst b);go_ret;exact⟨rfl,bR⟩
def Iv(a b c d:Nat):Bool:=B9 a 1 4&&(B9 b 1 4&&(B9 c 1 4&&B9 d 1 4))
theorem Aa8(g:Nat)(b c d f:Option Addr×Nat×Nat)(w:Ϙ)
 (e0:Δ w g 0 (vS b.1 b.2.1 b.2.2)) (h:Δ w g 1 (vS c.1 c.2.1 c.2.2)) (j:Δ w g 2 (vS d.1 d.2.1 d.2.2)) (k:Δ w g 3 (vS f.1 f.2.1 f.2.2)):
 η 130 #[vS (τ g) 4 4,.func (.func 131) #[] #[]] w (θ w (.bool (Iv b.2.1 c.2.1 d.2.1 f.2.1))):=by
 have H:=OG 131 (enters_of func131 ϟ rfl) #[] (λi=>B9 (([b,c,d,f]:List (Option Addr×Nat×Nat)).getD i (none,0,0)).2.1 1 4) (τ g) 4 [b,c,d,f] w Ϟ
  (λi p=>by
   match i,p with
   |0,_=>exact⟨g,0,rfl,e0⟩
   |1,_=>exact⟨g,0,rfl,h⟩
   |2,_=>exact⟨g,0,rfl,j⟩
   |3,_=>exact⟨g,0,rfl,k⟩) (λi q _ _=>X6 i _ _ _ q)
 refine H.mono λe w' ⟨o,m⟩=>⟨o.trans (Aa ?_),m⟩;simp[allB,List.range,List.range.loop,Iv]
def OI(p:Pln):Bool:=if p.grouped=true then B9 p.aggs.length 1 4&&decide ((p.group.length:Int)<=8 - p.aggs.length)else decide (p.group.length=0)&&decide (p.aggs.length=0)
theorem X7(p:Pln):decide (Dp p)=(Iv p.left.length p.right.length p.lkeys.length p.rkeys.length&&OI p):=by
 refine(DG ?_).symm;unfold Dp Iv OI Jz;simp only[Bool.and_eq_true,BE];refine and_congr ?_ ?_
 ·omega
 ·split
  ·simp only[Bool.and_eq_true,BE,decide_eq_true_eq];omega
  ·simp
theorem Er(p:Pln)(x:PA)(w:Ϙ)(j:wfPlan p):
 η 71 #[Aq p x] w (θ w (.bool (decide (Dp p)))):=by
 have c:Ϛ (decide (Dp p)=(Iv p.left.length p.right.length p.lkeys.length p.rkeys.length&&OI p)):=X7 p;have F:Ϛ (OI p=if p.grouped=true then B9 p.aggs.length 1 4&&decide ((p.group.length:Int)<=8 - p.aggs.length)else decide (p.group.length=0)&&decide (p.aggs.length=0)):=rfl;have J:=j.g;have K:=j.a;rw[F.o]at c;obtain⟨ah,ak,aj,af,size,ai,left,right,aa,ae,G,Y,U⟩:=p;obtain⟨l,L,r,Q,M,N,R,S,g,gc,a,ac⟩:=x;unfold Aq;dsimp only at c J K⊢;clear F j;obtain⟨u,B⟩:∃n,left.length=n:=⟨_,rfl⟩;obtain⟨y,C⟩:∃n,right.length=n:=⟨_,rfl⟩;obtain⟨z,D⟩:∃n,aa.length=n:=⟨_,rfl⟩;obtain⟨A,E⟩:∃n,ae.length=n:=⟨_,rfl⟩;obtain⟨O,o⟩:∃n,Y.length=n:=⟨_,rfl⟩;obtain⟨ad,q⟩:∃n,U.length=n:=⟨_,rfl⟩;rw[o]at J;rw[q]at K;rw[B,C,D,E,o,q]at c;rw[B,C,D,E,o,q];clear B C D E o q;have k:Ϛ (∀(h:Nat) (d:Ϙ),Δ d h 0 (vS l u L)->Δ d h 1 (vS r y Q)->Δ d h 2 (vS M z N)->Δ d h 3 (vS R A S)->
  η 130 #[vS (τ h) 4 4,.func (.func 131) #[] #[]] d (θ d (.bool (Iv u y z A)))):=
  λh d e0 V W X=>Aa8 h (l,u,L) (r,y,Q) (M,z,N) (R,A,S) d e0 V W X
 obtain⟨sb,I⟩:=nM (Iv u y z A);rw[I]at k c;clear I
 cases sb
 ·cases G
  all_goals
   go_enter func71,ntmps71;go_wp2_with (first
    |(go_at_call 130;refine(k.o _ _ Ϡ Ϡ Ϡ Ϡ).mono ?_;rintro e d ⟨rfl,b⟩;have f:=(ϧ.alloc Ϟ _).trans (b.mono ϡ);obtain⟨s,t⟩:=Dx b))
   go_ret;exact⟨Aa (by rw[c.o];simp),f⟩
 ·cases G
  ·rw[if_neg ϝ]at c;by_cases m:O=0
   ·subst m;go_enter func71,ntmps71;go_wp2_with (first
     |(go_at_call 130;refine(k.o _ _ Ϡ Ϡ Ϡ Ϡ).mono ?_;rintro e d ⟨rfl,b⟩;have f:=(ϧ.alloc Ϟ _).trans (b.mono ϡ);obtain⟨s,t⟩:=Dx b))
    go_ret;exact⟨Aa (by rw[c.o];exact Bool.eq_iff_iff.2 Ϟ),f⟩
   ·have ag:((O:Int)==0)=false:=by simpa using m
    rw[decide_eq_false m]at c;clear m;go_enter func71,ntmps71;go_wp2_with (first
     |(go_at_call 130;refine(k.o _ _ Ϡ Ϡ Ϡ Ϡ).mono ?_;rintro e d ⟨rfl,b⟩;have f:=(ϧ.alloc Ϟ _).trans (b.mono ϡ);obtain⟨s,t⟩:=Dx b))
    go_ret;exact⟨Aa (by rw[c.o];rfl),f⟩
  ·rw[if_pos rfl]at c;obtain⟨T,H⟩:=nM (B9 ad 1 4);rw[H]at c
   cases T
   ·go_enter func71,ntmps71;go_wp2_with (first
     |(go_at_call 130;refine(k.o _ _ Ϡ Ϡ Ϡ Ϡ).mono ?_;rintro e d ⟨rfl,b⟩;have f:=(ϧ.alloc Ϟ _).trans (b.mono ϡ);obtain⟨s,t⟩:=Dx b)
     |(go_at_call 126;refine(BL _ _ _ _).mono ?_;rintro e w' ⟨rfl,j⟩;subst j))
    go_ret;exact⟨Aa (by rw[c.o];rfl),f⟩
   ·have Z:=(BE _ _ _).1 H;obtain⟨u1,u2⟩:=Z;go_enter func71,ntmps71;go_wp2_with (first
     |(go_at_call 130;refine(k.o _ _ Ϡ Ϡ Ϡ Ϡ).mono ?_;rintro e d ⟨rfl,b⟩;have f:=(ϧ.alloc Ϟ _).trans (b.mono ϡ);obtain⟨s,t⟩:=Dx b)
     |(go_at_call 126;refine(BL _ _ _ _).mono ?_;rintro e w' ⟨rfl,j⟩;subst j))
    go_ret;exact⟨Aa (by rw[c.o];simp),f⟩
theorem Tryz.info3:(Tryz.prog.info? 3).map (λi=>(i.zero,i.size,i.bytes))=some (some (vI 0),1,8):=ϟ
def J2(n:Int):Value:=vI n
def Dq(w:World)(base:Nat)(v:Value)(l:List Int):Prop:=w.ownsRow base 3 1 v l.length (l.map J2)
theorem Q0(h:w.ownsRow base e size v n xs)(o:ϛ w w'):w'.ownsRow base e size v n xs:=by
 refine⟨h.1,?_⟩;rcases h.2 with j|⟨g,d,f,q,k,b,m⟩
 ·exact .inl j
 ·have c:g<w.heap.size:=by
   rcases Nat.lt_or_ge g w.heap.size with c|p
   ·exact c
   ·rw[Array.getElem?_eq_none p]at b;cases b
  exact .inr ⟨g,d,f,q,k,by rw[o.block g c];exact b,m⟩
theorem Tu(b c j:Nat):(⟨b,c,none⟩:Addr).add j=⟨b,c+j,none⟩:=by unfold Addr.add;split<;>simp_all
theorem Cl(h:w.ownsRow base e size v n xs):∃b c,v=vS b n c/\(0<n->∃g,b=some ⟨g,0,none⟩):=by
 rcases h.2 with⟨rfl,d⟩|⟨g,c,f,rfl,_⟩
 ·exact⟨none,0,by rw[d],λh=>absurd d Ϝ⟩
 ·exact⟨_,_,rfl,λ_=>⟨g,rfl⟩⟩
theorem Lj{ad:ϙ}{cap:Nat}(h:Dq w base (vS ad n cap) l):A8 w ad l/\n=l.length:=by
 obtain⟨k,m,j,c⟩:=Cl h;injection j with ha f b
 subst ha b;refine⟨λi d=>?_,f⟩;obtain⟨g,rfl⟩:=c Ϝ;have b:=World.ownsRow.cells h (g:=g) rfl i (J2 (l.getD i 0)) (by simp[getElem?_map,gDe,d]);rw[Tu]at b;exact⟨g,0,rfl,b⟩
theorem Ic(v:Value)(h:v.cells.size=1)(n:Nat):(Builtin.zeroCells v.cells n).size=n:=by
 simp[Builtin.zeroCells,h]
theorem X8(n:Nat)(w:Ϙ)(z:n<=1000):
 η 246 #[ψ,vI n] w λe w'=>(∃v,e= .returned v/\Dq w' w.heap.size v [])/\ϛ w w':=by
 obtain⟨r,o,q,y,f⟩:=info_parts Tryz.info3;by_cases t:n=0
 ·subst t;go_enter func246,ntmps246;go_wp2;go_ret;exact⟨⟨_,rfl,World.ownsRow_nil _ _ _ _⟩,bR⟩
 ·have d:∀g,(Builtin.append_ #[29,3] g #[ψ,vI (n:Int)]).run Tryz.prog w=
   .ok (vS (τ w) n (grownCap w n 0 3)) (w.drew.alloc (.cells (Builtin.zeroCells (Value.int .i64 0).cells n++Builtin.zeroCells (Value.int .i64 0).cells (grownCap w n 0 3 - n)) 3)):=λg=>by
   have h:=Lib.run_append_grow_zeros w 29 3 g 3 r (vI 0) .i64 .i64 underlying29 underlying3 o q none 0 0 [] (run_firstCells_none w.drew r.size 0 0 0) n Ϝ Ϝ Ϝ Ϝ (by rw[f];omega) (growslice_fits Ϝ (by rw[f];omega));simpa using h
  have u:n<=grownCap w n 0 3:=grownCap_ge w _ _ _;have b:grownCap w n 0 3<=maxLen:=grownCap_le_maxLen w n 0 3 Ϧ;obtain⟨G,k⟩:∃G,G=grownCap w n 0 3:=⟨_,rfl⟩;rw[<-k]at d u b;have p:(Builtin.zeroCells (Value.int .i64 0).cells n++Builtin.zeroCells (Value.int .i64 0).cells (G - n)).size=G * 1:=by
   rw[Array.size_append,Ic _ rfl,Ic _ rfl];omega
  obtain⟨j,m⟩:∃c,Builtin.zeroCells (Value.int .i64 0).cells n++Builtin.zeroCells (Value.int .i64 0).cells (G - n)=c:=⟨_,rfl⟩;rw[m]at d p;have s:Ϛ (Dq (w.drew.alloc (.cells j 3)) w.heap.size (vS (τ w) 0 G) []):=World.ownsRow_made (base:=w.heap.size) (e:=3) (size:=1) w.drew j G nR b p;have A:0<(n:Int):=Ϝ;unfold maxLen at b;clear m k o q y f;go_enter func246,ntmps246;go_wp2_with (at_builtin;refine Lib.wpList_append_run _ rfl _ _ _ _ rfl _ _ rfl rfl _ _ (d _) ?_);go_ret;exact⟨⟨_,rfl,s.o⟩,(bR.drew).alloc nR _⟩
theorem Q1(l:List Int):∀u∈l.map J2,u.oneCell'=true:=by
 intro u b;obtain⟨n,_,rfl⟩:=mem_map.1 b;rfl
theorem My{b f:Nat}(h:A8 w (some ⟨b,f,none⟩) l):∀j u,(l.map J2)[j]? =some u->w.cell? ((⟨b,f,none⟩:Addr).add j)=some u:=by
 intro j u d;rw[getElem?_map]at d;obtain⟨n,c,rfl⟩:=Option.map_eq_some_iff.1 d;obtain⟨g,m⟩:=List.getElem?_eq_some_iff.1 c;obtain⟨k,o,e,x⟩:=h j g
 cases e
 rw[Tu,x];simp[gDe,c,J2]
theorem Sg(g:Nat)(S T:ϙ)(W X:Nat)(c d:List Int)(w:Ϙ)(n1:0<c.length)(n2:0<d.length)(m1:c.length<=400)(m2:d.length<=400)(f:A8 w S c)(k:A8 w T d)
 (L:Δ w g 0 (vS S c.length W)) (M:Δ w g 1 (vS T d.length X)):
 η 198 #[vS (τ g) 2 2] w λe w'=>(∃y Y,e= .returned (vS y (c++d).length Y)/\Dq w' w.heap.size (vS y (c++d).length Y) (c++d))/\ϛ w w':=by
 obtain⟨A,hi,af,ag,ah⟩:=info_parts Tryz.info3;have m:Ϛ (Tryz.prog.info? 3=some A/\A.zero=some (vI 0)/\A.size=1/\A.bytes=8):=⟨hi,af,ag,ah⟩;clear hi af ag ah;obtain⟨U,o1,rfl,_⟩:=f 0 n1;obtain⟨V,o2,rfl,_⟩:=k 0 n2;have ai:Ϛ (∀w',ϛ w w'->∀j u,(c.map J2)[j]? =some u->w'.cell? ((⟨U,o1,none⟩:Addr).add j)=some u):=λw' p=>My (Av f p);have aj:Ϛ (∀w',ϛ w w'->∀j u,(d.map J2)[j]? =some u->w'.cell? ((⟨V,o2,none⟩:Addr).add j)=some u):=λw' p=>My (Av k p);have ac:Ϛ ((c.map J2).length=c.length):=lMp ..;have ae:Ϛ ((d.map J2).length=d.length):=lMp ..;clear f k;obtain⟨q,G⟩:∃n,c.length=n:=⟨_,rfl⟩;obtain⟨B,H⟩:∃n,d.length=n:=⟨_,rfl⟩;have E:Ϛ (c.length=q):=G;have Q:Ϛ (d.length=B):=H;rw[G]at n1 m1 L ac;rw[H]at n2 m2 M ae;rw[lAp,G,H];clear G H;have HG:Ϛ (∀r,CT 246 #[ψ,vI ((q:Int)+B)] r λe w'=>(∃v,e= .returned v/\Dq w' r.heap.size v [])/\ϛ r w'):=λr=>by
  have h:=X8 (q+B) r Ϝ;rwa[Int.natCast_add]at h
 go_enter func198,ntmps198;go_wp2
 go_loop [3,11] (λs i=>(i=vI 0/\s=vI 0)\/(i=vI 1/\s=vI q)\/(i=vI 2/\s=vI ((q:Int)+B))) (λ_ i=>2 - (intOf i).toNat)
 case atStart=>exact .inl ⟨rfl,rfl⟩
 case round=>
  rcases hrel with⟨rfl,rfl⟩|⟨rfl,rfl⟩|⟨rfl,rfl⟩
  ·go_wp2
   go_round
   case rel=>exact .inr (.inl ⟨rfl,rfl⟩)
   case measure=>simp[intOf]
  ·go_wp2
   go_round
   case rel=>exact .inr (.inr ⟨rfl,rfl⟩)
   case measure=>simp[intOf]
  ·go_wp2_with fail;refine(HG.o _).mono ?_;rintro e r ⟨⟨v,rfl,ab⟩,F⟩;have f1:=cLz F L;have f2:=cLz F M;have R:Ϛ (Dq r w.heap.size v []):=ab;clear ab;go_wp2
   go_loopw [6,27] (λx i wr=> ∃l:List Int,((i=vI 0/\l=[])\/(i=vI 1/\l=c)\/(i=vI 2/\l=c++d))/\Dq wr w.heap.size x l/\ϛ w wr) (λ_ i _=>2 - (intOf i).toNat)
   case atStart=>exact⟨[],.inl ⟨rfl,rfl⟩,R.o,F⟩
   case round=>
    obtain⟨l,hl,aa,o⟩:=hrel;have g1:=cLz o L;have g2:=cLz o M;have t:Ϛ (Dq wr w.heap.size u6 l):=aa;have I:=o.size;clear aa f1 f2 F R;have ak:(u27=vI 0/\[]=l)\/(u27=vI 1/\c=l)\/(u27=vI 2/\c++d=l):=by
     rcases hl with⟨f,k⟩|⟨f,k⟩|⟨f,k⟩
     ·exact .inl ⟨f,k.symm⟩
     ·exact .inr (.inl ⟨f,k.symm⟩)
     ·exact .inr (.inr ⟨f,k.symm⟩)
    clear hl;rcases ak with⟨rfl,rfl⟩|⟨rfl,rfl⟩|⟨rfl,rfl⟩
    ·go_wp2_with (at_builtin;refine wpList_append_own _ rfl (.tmp 31) (.tmp 32) 29 rfl w.heap.size 3 A (vI 0) 1 8 underlying29 m.o.1 m.o.2.1 m.o.2.2.1 m.o.2.2.2 rfl ϝ _ _ _ rfl t.o ⟨U,o1,none⟩ q W (c.map J2) rfl (by rw[ac.o,Nat.mul_one]) (ai.o _ o) (Q1 c) (by unfold maxLen;(simp only[length_nil];omega)) (by(simp only[length_nil];omega)) I ?_;intro O D C N am);have J:Ϛ (Dq D w.heap.size O (c)):=by
      show D.ownsRow _ _ _ _ (c).length ((c).map J2);simpa[E.o]using C
     obtain⟨y,K,z,Z⟩:=Cl C;subst z;go_roundw
     case rel=>exact⟨c,.inr (.inl ⟨rfl,rfl⟩),J.o,o.grown N I (λb p=>(World.ownsRow.lt t.o b p).1)⟩
     case measure=>simp[intOf]
    ·go_wp2_with (at_builtin;refine wpList_append_own _ rfl (.tmp 31) (.tmp 32) 29 rfl w.heap.size 3 A (vI 0) 1 8 underlying29 m.o.1 m.o.2.1 m.o.2.2.1 m.o.2.2.2 rfl ϝ _ _ _ rfl t.o ⟨V,o2,none⟩ B X (d.map J2) rfl (by rw[ae.o,Nat.mul_one]) (aj.o _ o) (Q1 d) (by unfold maxLen;(rw[E.o];omega)) (by(rw[E.o];omega)) I ?_;intro O D C N am);have J:Ϛ (Dq D w.heap.size O (c++d)):=by
      show D.ownsRow _ _ _ _ (c++d).length ((c++d).map J2);rw[lAp,map_append,Q.o];exact C
     obtain⟨y,K,z,Z⟩:=Cl C;subst z;go_roundw
     case rel=>exact⟨c++d,.inr (.inr ⟨rfl,rfl⟩),J.o,o.grown N I (λb p=>(World.ownsRow.lt t.o b p).1)⟩
     case measure=>simp[intOf]
    ·obtain⟨y,K,z,Z⟩:=Cl t.o;have al:(c++d).length=q+B:=by rw[lAp,E.o,Q.o]
     rw[al]at z;subst z;go_wp2;go_ret;exact⟨⟨y,K,rfl,t.o⟩,o⟩
theorem CC(p:Pln)(x:PA)(w:Ϙ)(k:planAt w p x)(y:0<p.left.length)(z:0<p.right.length)(t:p.left.length<=400)(u:p.right.length<=400):
 η 133 #[Aq p x] w λe w'=>(∃d f,e= .returned (vS d (BG p).length f)/\Dq w' w.heap.size (vS d (BG p).length f) (BG p))/\ϛ w w':=by
 have K:Ϛ (∀g b,ϛ w b->Δ b g 0 (vS x.l p.left.length x.lc)->Δ b g 1 (vS x.r p.right.length x.rc)->
  η 198 #[vS (τ g) 2 2] b λe w'=>(∃d f,e= .returned (vS d (BG p).length f)/\Dq w' b.heap.size (vS d (BG p).length f) (BG p))/\ϛ b w'):=
  λg b m B C=>Sg g x.l x.r x.lc x.rc p.left p.right b y z t u (Av k.l m) (Av k.r m) B C
 obtain⟨J,o⟩:=nM ((BG p).length);rw[o]at K⊢;clear o;obtain⟨L,q⟩:=nM (BG p);rw[q]at K⊢;clear q k y z t u;obtain⟨R,Y,X,Q,size,T,left,right,W,ab,O,N,I⟩:=p;obtain⟨l,S,r,rc,U,V,rk,aa,g,M,a,H⟩:=x;unfold Aq;dsimp only at K⊢;obtain⟨Z,h⟩:∃n,left.length=n:=⟨_,rfl⟩;obtain⟨n7,j⟩:∃n,right.length=n:=⟨_,rfl⟩;rw[h,j]at K;rw[h,j];clear h j;go_enter func133,ntmps133;go_wp2_with (go_at_call 198;refine(K.o _ _ (ϧ.alloc Ϟ _) Ϡ Ϡ).mono ?_;rintro e b ⟨⟨d,f,rfl,s⟩,G⟩);go_ret;exact⟨⟨d,f,rfl,⟨s.1,s.2.imp id (λ⟨g,c,A,D,E,F⟩=>⟨g,c,A,D,by simp at E;omega,F⟩)⟩⟩,(ϧ.alloc Ϟ _).trans (G.mono ϡ)⟩
theorem XA(i c:Int)(w:Ϙ):
 η 134 #[vI i,vI c] w (θ w (.bool (B9 c 1 3))):=by
 go_enter func134,ntmps134;go_wp2_with (go_at_call 126;refine(BL _ _ _ _).mono ?_;rintro e w' ⟨rfl,b⟩;subst b);go_ret;exact⟨rfl,bR⟩
theorem UR(p:Pln):decide (CS p)=allB (BG p).length (λi=>B9 ((BG p).getD i 0) 1 3):=by
 refine(DG ?_).symm;unfold CS;rw[AQ];simp only[BE];exact GV (Q:=λc:Int=>1<=c/\c<=3)
theorem Mz(p:Pln)(x:PA)(w:Ϙ)(k:planAt w p x)(s:0<p.left.length)(t:0<p.right.length)(o:p.left.length<=400)(q:p.right.length<=400):
 η 72 #[Aq p x] w (θ w (.bool (decide (CS p)))):=by
 have K:Ϛ (∀b,ϛ w b->CT 133 #[Aq p x] b λe w'=>(∃c d,e= .returned (vS c (BG p).length d)/\Dq w' b.heap.size (vS c (BG p).length d) (BG p))/\ϛ b w'):=
  λb y=>CC p x b (Ag k y) s t o q
 have C:(BG p).length<=800:=by unfold BG;rw[lAp];omega
 have f:Ϛ (∀c d b,A8 b c (BG p)->CT 132 #[vS c (BG p).length d,.func (.func 134) #[] #[]] b (θ b (.bool (decide (CS p))))):=by
  intro c d b D;rw[UR];exact Gf 134 (enters_of func134 ϟ rfl) #[] (λi=>B9 ((BG p).getD i 0) 1 3) c d (BG p) b Ϝ D (λi u _ _=>XA i _ u)
 obtain⟨tb,m⟩:=nM (decide (CS p));rw[m]at f⊢;obtain⟨H,h⟩:=nM ((BG p).length);rw[h]at K f;obtain⟨I,j⟩:=nM (BG p);rw[j]at K f;clear j C h m k s t o q;obtain⟨O,W,V,N,size,R,left,right,U,aa,M,L,G⟩:=p;obtain⟨l,Q,r,X,S,T,Y,Z,g,J,a,F⟩:=x;unfold Aq at K⊢;dsimp only at K⊢;go_enter func72,ntmps72;go_wp2_with (first
  |(go_at_call 133;refine(K.o _ ϧ).mono ?_;rintro e b ⟨⟨c,d,rfl,E⟩,z⟩;have B:=ϧ.trans (z.mono Ϟ))
  |(go_at_call 132;refine(f.o _ _ _ (Lj E).1).mono ?_;rintro e u ⟨rfl,A⟩))
 go_ret;exact⟨rfl,bT B A⟩
def OJ(l:List Int)(x:Int):Int:=if l.findIdx (· ==x)<l.length then((l.findIdx (· ==x):Nat):Int)else -1
theorem XB{k:Nat}(b:k<l.length)(h:l.getD k 0=x)(d:∀i,i<k->l.getD i 0≠x):OJ l x=k:=by
 have e:l.findIdx (· ==x)=k:=by
  rw[findIdx_eq b];refine⟨by simpa[gDe,b]using h,λj c=>?_⟩;have:=d j c;simpa[gDe,show j<l.length by omega]using this
 unfold OJ;rw[e,if_pos b]
theorem XC(d:∀i,i<l.length->l.getD i 0≠x):OJ l x= -1:=by
 unfold OJ;rw[if_neg];intro h;have c:=findIdx_getElem (w:=h);have b:=d _ h;simp only[gDe,gEe h,Option.getD_some]at b;exact b (by simpa using c)
theorem US(a:ϙ)(cap:Nat)(l:List Int)(x:Int)(w:Ϙ)(t:l.length<=χ)(ha:A8 w a l):
 η 202 #[vS a l.length cap,vI x] w λe w'=>e= .returned (vI (OJ l x))/\w'=w:=by
 obtain⟨n,m⟩:∃n,l.length=n:=⟨_,rfl⟩;have j:Ϛ (l.length=n):=m;rw[m]at t⊢;clear m;go_enter func202,ntmps202;go_wp2
 go_loop [8] (λi=> ∃k:Nat,k<=n/\i=vI k/\∀i,i<k->l.getD i 0≠x) (λi=>n - (intOf i).toNat)
 case atStart=>exact⟨0,Nat.zero_le _,rfl,λi d=>absurd d (Nat.not_lt_zero i)⟩
 case round=>
  obtain⟨k,A,rfl,r⟩:=hrel;have g:Ϛ (∀i,i<k->l.getD i 0≠x):=r;clear r;by_cases s:k<n
  ·obtain⟨b,o,e,u⟩:=ha k (by rw[j.o];exact s);subst e;clear ha;have B:(0:Int)<=(k:Int):=Ϝ;have C:(k:Int)<(n:Int):=Ϝ;obtain⟨z,p⟩:=nM (l.getD k 0);have q:Ϛ (l.getD k 0=z):=p;rw[p]at u;clear p;by_cases f:x=z
   ·subst f;have c:Ϛ (OJ l x=k):=XB (by rw[j.o];exact s) q.o g.o;go_wp2;go_ret;exact⟨Am c.o.symm,rfl⟩
   ·have y:(x==z)=false:=by simpa using f
    have c:Ϛ (l.getD k 0≠x):=by show l.getD k 0≠x;rw[q.o];exact λh=>f h.symm
    clear f;go_wp2
    go_round
    case rel=>exact⟨k+1,Ϝ,by go_num,λi d=>by
     rcases Nat.lt_succ_iff_lt_or_eq.1 d with h|h
     ·exact g.o i h
     ·rw[h];exact c.o⟩
    case measure=>simp[intOf];omega
  ·have c:Ϛ (OJ l x= -1):=XC (λi d=>g.o i (by rw[j.o]at d;omega));go_wp2;go_ret;exact⟨Am c.o.symm,rfl⟩
theorem Em(x:Int)(a:ϙ)(n cap:Nat)(w:Ϙ)(c:n<=9223372036854775807):
 η 201 #[vI x,vS a n cap] w λe w'=>e= .returned (.bool (B9 x 0 ((n:Int) - 1)))/\w'=w:=by
 go_enter func201,ntmps201;go_wp2_with (go_at_call 126;refine(BL _ _ _ _).mono ?_;rintro e w' ⟨rfl,b⟩;subst b);go_ret;exact⟨rfl,rfl⟩
def M0(l:List Int)(n:Nat)(i:Nat):Bool:=B9 (l.getD i 0) 0 ((n:Int) - 1)&&decide (OJ l (l.getD i 0)=i)
theorem GW(h:i<l.length):l.getD i 0=l[i]:=by simp[gDe,h]
theorem Si(l:List Int)(n:Nat):decide (AU l n)=allB l.length (M0 l n):=by
 refine(DG ?_).symm;rw[AQ];unfold AU M0;simp only[Bool.and_eq_true,BE,decide_eq_true_eq]
 constructor
 ·intro h;refine⟨(GV (Q:=λx:Int=>0<=x/\x<(n:Int))).1 (λi b=>⟨(h i b).1.1,by have:=(h i b).1.2;omega⟩),?_⟩;rw[pairwise_iff_getElem];intro i j b f m e;have g:=(h i b).2;have c:=(h j f).2;rw[GW b]at g;rw[GW f,<-e]at c;omega
 ·intro ⟨g,c⟩ i b;have k:=g _ (Dj (d:=0) b);refine⟨⟨k.1,Ϝ⟩,XB b rfl (λj f=>?_)⟩;rw[pairwise_iff_getElem]at c;rw[GW b,GW Ϝ];exact c j i Ϝ b f
theorem Zt(i:Nat)(f g:Nat)(b s:ϙ)(j t n:Nat)(l:List Int)(w:Ϙ)(k:l.length<=χ)(y:n<=9223372036854775807)(ha:A8 w b l)
 (A:Δ w g 0 (vS s n t)) (u:Δ w f 0 (vS b l.length j)):
 η 200 #[vI i,vI (l.getD i 0),μ g,μ f] w (θ w (.bool (M0 l n i))):=by
 have K:=hIz (λ(q:Ϙ) x (h:A8 q b l)=>US b j l x q k h);have c:Ϛ (M0 l n i=(B9 (l.getD i 0) 0 ((n:Int) - 1)&&decide (OJ l (l.getD i 0)=i))):=rfl;obtain⟨z,p⟩:=nM (l.getD i 0);rw[p]at c⊢;obtain⟨m,o⟩:=nM l.length;rw[o]at K u;have r:Ϛ (A8 w b l):=ha;clear p o ha k
 cases hb:B9 z 0 ((n:Int) - 1)<;>rw[hb]at c
 all_goals
  go_enter func200,ntmps200;go_wp2_with (first
   |(go_at_call 201;refine(Em _ _ _ _ _ y).mono ?_;rintro e w' ⟨rfl,d⟩;subst d)
   |(go_at_call 202;refine(K.o _ _ r.o).mono ?_;rintro e w' ⟨rfl,d⟩;subst d))
  go_ret;exact⟨Aa (by rw[c.o];exact Bool.eq_iff_iff.2 Ϟ),bR⟩
theorem Eu(b h:ϙ)(g j n:Nat)(l:List Int)(w:Ϙ)(o:l.length<=χ)(r:n<=9223372036854775807)(ha:A8 w b l):
 η 136 #[vS b l.length g,vS h n j] w (θ w (.bool (decide (AU l n)))):=by
 have K:Ϛ (∀d f c,A8 c b l->Δ c f 0 (vS h n j)->Δ c d 0 (vS b l.length g)->
  η 132 #[vS b l.length g,.func (.func 200) #[] #[μ f,μ d]] c (θ c (.bool (decide (AU l n))))):=by
  intro d f c p y u;rw[Si];exact Gf 200 (enters_of func200 ϟ rfl) #[μ f,μ d] (M0 l n) b g l c o p (λi A _ k=>Zt i d f b h g j n l A o r (Av p k) (cLz k y) (cLz k u))
 obtain⟨m,q⟩:=nM l.length;rw[q]at K⊢;obtain⟨B,s⟩:=nM (decide (AU l n));rw[s]at K⊢;have t:Ϛ (A8 w b l):=ha;clear q s ha o r;go_enter func136,ntmps136;go_wp2_with (go_at_call 132;refine(K.o _ _ _ (Av t.o (ϧ.alloc Ϟ _)) Ϡ Ϡ).mono ?_;rintro e c ⟨rfl,z⟩);go_ret;exact⟨rfl,(ϧ.alloc Ϟ _).trans (z.mono ϡ)⟩
def yes(b:Bool)(P:Prop):Prop:=b=true->P
def Q2(p:Pln)(i:Nat):Bool:=decide (p.left.getD (p.lkeys.getD i 0).toNat 0=p.right.getD (p.rkeys.getD i 0).toNat 0)
theorem UT(p:Pln):decide (Fl p)=allB p.lkeys.length (Q2 p):=by
 refine(DG ?_).symm;rw[AQ];unfold Fl Q2;simp only[decide_eq_true_eq]
def Zu(w:World)(B:Nat)(p:Pln)(x:PA):Prop:=
 Δ w B 6 (vS x.l p.left.length x.lc)/\Δ w B 7 (vS x.r p.right.length x.rc)/\Δ w B 9 (vS x.rk p.rkeys.length x.rkc)
theorem Zv(i:Nat)(B:Nat)(p:Pln)(x:PA)(w:Ϙ)(f:wfPlan p)(H:Zu w B p x)(c:planAt w p x)(A:i<p.lkeys.length)(I:p.lkeys.length=p.rkeys.length)(q:AU p.lkeys p.left.length)(r:AU p.rkeys p.right.length):
 η 199 #[vI i,vI (p.lkeys.getD i 0),μ B] w (θ w (.bool (Q2 p i))):=by
 have b:Ϛ (Q2 p i=decide (p.left.getD (p.lkeys.getD i 0).toNat 0=p.right.getD (p.rkeys.getD i 0).toNat 0)):=rfl;obtain⟨k,m,o⟩:=H;have g:=q.1 _ (Dj (d:=0) A);have h:=r.1 _ (Dj (d:=0) (show i<p.rkeys.length by omega));obtain⟨V,ad,j,R⟩:=c.rk i Ϝ;obtain⟨S,y⟩:=nM (p.lkeys.getD i 0);obtain⟨T,z⟩:=nM (p.rkeys.getD i 0);rw[y]at g b⊢;rw[z]at h b R;obtain⟨E,J⟩:=Int.eq_ofNat_of_zero_le g.1;obtain⟨F,K⟩:=Int.eq_ofNat_of_zero_le h.1;subst J K;rw[Int.toNat_natCast,Int.toNat_natCast]at b;obtain⟨bl,ol,el,O⟩:=c.l E Ϝ;obtain⟨U,oq,eq,Q⟩:=c.r F Ϝ;obtain⟨v1,C⟩:=nM (p.left.getD E 0);obtain⟨v2,D⟩:=nM (p.right.getD F 0);rw[C]at O b;rw[D]at Q b;rw[el]at k;rw[eq]at m;rw[j]at o;obtain⟨n6,s⟩:∃n,p.left.length=n:=⟨_,rfl⟩;obtain⟨n7,t⟩:∃n,p.right.length=n:=⟨_,rfl⟩;obtain⟨G,u⟩:∃n,p.rkeys.length=n:=⟨_,rfl⟩;have L:=f.l;have M:=f.r;have N:=f.rk;have W:i<G:=Ϝ;rw[s]at k g L;rw[t]at m h M;rw[u]at o N;obtain⟨Z,aa⟩:=g;obtain⟨ab,ac⟩:=h;have X:(0:Int)<=(i:Int):=Ϝ;have Y:(i:Int)<(G:Int):=Ϝ;clear y z C D s t u f c q r A I el eq j;go_enter func199,ntmps199;go_wp2
 go_region
 all_goals
  go_wp2;go_ret;refine⟨Aa (by rw[b.o];exact Bool.eq_iff_iff.2 Ϟ),?_⟩
  repeat (first|exact bR|apply Below.drew)
theorem Nb(p:Pln)(x:PA)(w:Ϙ)(f:wfPlan p)(u:planAt w p x):
 η 135 #[Aq p x] w (θ w (.bool (decide (GU p)))):=by
 have h:=hIz (λ(b:Ϙ) (m:ϛ w b)=>Eu x.lk x.l x.lkc x.lc p.left.length p.lkeys b f.lk f.l (Av u.lk m));have j:=hIz (λ(b:Ϙ) (m:ϛ w b)=>Eu x.rk x.r x.rkc x.rc p.right.length p.rkeys b f.rk f.r (Av u.rk m));have k:Ϛ (∀B b,ϛ w b->p.lkeys.length=p.rkeys.length->AU p.lkeys p.left.length->AU p.rkeys p.right.length->Δ b B 6 (vS x.l p.left.length x.lc)->Δ b B 7 (vS x.r p.right.length x.rc)->Δ b B 9 (vS x.rk p.rkeys.length x.rkc)->
  η 132 #[vS x.lk p.lkeys.length x.lkc,.func (.func 199) #[] #[μ B]] b (θ b (.bool (decide (Fl p))))):=by
  intro B b m t U V R S T;rw[UT];exact Gf 199 (enters_of func199 ϟ rfl) #[μ B] (Q2 p) x.lk x.lkc p.lkeys b f.lk (Av u.lk m)
   (λi J Y d=>Zv i B p x J f ⟨cLz d R,cLz d S,cLz d T⟩ (Ag (Ag u m) d) Y t U V)
 have c:Ϛ (decide (GU p)=(decide (p.lkeys.length=p.rkeys.length)&&decide (AU p.lkeys p.left.length)&&decide (AU p.rkeys p.right.length)&&decide (Fl p))):=by
  refine(DG ?_).symm;unfold GU;simp only[Bool.and_eq_true,decide_eq_true_eq,and_assoc]
 have A:yes (decide (AU p.lkeys p.left.length)) (AU p.lkeys p.left.length):=of_decide_eq_true;have C:yes (decide (AU p.rkeys p.right.length)) (AU p.rkeys p.right.length):=of_decide_eq_true;obtain⟨q1,M⟩:=nM (decide (AU p.lkeys p.left.length));obtain⟨q2,N⟩:=nM (decide (AU p.rkeys p.right.length));obtain⟨q3,O⟩:=nM (decide (Fl p));rw[M]at h c A;rw[N]at j c C;rw[O]at k c;clear M N O f u;obtain⟨P1,K⟩:=nM (AU p.lkeys p.left.length);obtain⟨P2,L⟩:=nM (AU p.rkeys p.right.length);rw[K]at k A;rw[L]at k C;clear K L;obtain⟨ak,ao,an,ai,size,al,left,right,aa,ab,af,ae,ad⟩:=p;obtain⟨l,lc,r,rc,lk,am,rk,ap,g,gc,a,ac⟩:=x;unfold Aq;dsimp only at h j k c⊢;obtain⟨n6,y⟩:∃n,left.length=n:=⟨_,rfl⟩;obtain⟨n7,z⟩:∃n,right.length=n:=⟨_,rfl⟩;obtain⟨o,q⟩:∃n,aa.length=n:=⟨_,rfl⟩;obtain⟨Q,s⟩:∃n,ab.length=n:=⟨_,rfl⟩;rw[y,q]at h;rw[z,s]at j;rw[y,z,q,s]at k;rw[q,s]at c;rw[y,z,q,s];clear y z q s;by_cases t:o=Q
 ·subst t;have Z:((o:Int)==o)=true:=Ϟ;rw[show decide (o=o)=true by simp]at c
  cases q1<;>cases q2<;>cases q3
  all_goals
   go_enter func135,ntmps135;go_wp2_with (first
    |(go_at_call 136;have tk:=h;refine(h.o _ ϧ).mono ?_;rintro e b ⟨rfl,D⟩;have E:=ϧ.trans (D.mono Ϟ);obtain⟨G,ag⟩:=Dx D;have I:w.heap.size<b.heap.size:=(by have:=D.size;simp at this;omega);clear h)
    |(go_at_call 136;have tk:=j;refine(j.o _ E).mono ?_;rintro e J ⟨rfl,d⟩;have F:=bT E d;obtain⟨H,ah⟩:=Dx d;have aj:w.heap.size<J.heap.size:=(by have:=d.size;omega);clear j)
    |(go_at_call 132;refine(k.o _ _ F Ϥ (A rfl) (C rfl) (by rw[H _ _ I,G _ _ Ϟ];go_simp) (by rw[H _ _ I,G _ _ Ϟ];go_simp) (by rw[H _ _ I,G _ _ Ϟ];go_simp)).mono ?_;rintro e w3 ⟨rfl,W⟩;have X:=bT F W))
   go_ret;refine⟨Aa (by rw[c.o];rfl),?_⟩
   first
    |exact X
    |exact F
    |exact E
 ·have Z:((o:Int)==Q)=false:=ϡ;rw[decide_eq_false t]at c;clear t;go_enter func135,ntmps135;go_wp2;go_ret;exact⟨Aa (by rw[c.o];rfl),ϧ⟩
def M3(c:List Int)(a:Int×Int):Bool:=decide (Gl c a)
theorem Zw(i:Int)(B:Nat)(ad:ϙ)(E:Nat)(c:List Int)(f k:Int)(w:Ϙ)(o:c.length<=χ)(s:A8 w ad c)(r:Δ w B 0 (vS ad c.length E)):
 η 203 #[vI i,.agg #[vI f,vI k],μ B] w (θ w (.bool (M3 c (f,k)))):=by
 have H:=bLt _ _ r;have b:Ϛ (M3 c (f,k)=true↔if f=1 then k=0 else(0<=k/\k<(c.length:Int))/\(f=2->c.getD k.toNat 0=2)):=by show M3 c (f,k)=true↔Gl c (f,k);unfold M3;exact decide_eq_true_iff
 have A:Ϛ (A8 w ad c):=s;obtain⟨n,q⟩:∃n,c.length=n:=⟨_,rfl⟩;have C:Ϛ (c.length=n):=q;rw[q]at o r b;clear q s;have K:B<w.heap.size:=H;by_cases p:f=1
 ·subst p;rw[if_pos rfl]at b;go_enter func203,ntmps203;go_wp2;go_ret;exact⟨Aa (Bool.eq_iff_iff.2 (by rw[b.o];simp)),ϧ⟩
 ·have J:(f==1)=false:=by simpa using p
  rw[if_neg p]at b;clear p
  cases hbt:B9 k 0 ((n:Int) - 1)with
  |false=>
   have t:=(EW _ _ _).1 hbt;have g:Ϛ (M3 c (f,k)=false):=Bool.eq_false_iff.2 (λh=>t ⟨(b.o.1 h).1.1,by have:=(b.o.1 h).1.2;omega⟩);clear t b;by_cases d:f=2
   ·subst d;go_enter func203,ntmps203;go_wp2_with (go_at_call 201;refine(Em _ _ _ _ _ o).mono ?_;rintro e w' ⟨rfl,j⟩;subst j);go_ret;exact⟨Aa g.o.symm,ϧ⟩
   ·have G:(f==2)=false:=by simpa using d
    clear d;go_enter func203,ntmps203;go_wp2_with (go_at_call 201;refine(Em _ _ _ _ _ o).mono ?_;rintro e w' ⟨rfl,j⟩;subst j);go_ret;exact⟨Aa g.o.symm,ϧ⟩
  |true=>
   obtain⟨z,N⟩:=(BE _ _ _).1 hbt;by_cases d:f=2
   ·subst d;obtain⟨m,rfl⟩:=Int.eq_ofNat_of_zero_le z;obtain⟨D,M,F,y⟩:=A.o m (by rw[C.o];omega);have g:Ϛ (M3 c (2,(m:Int))=decide (c.getD m 0=2)):=by
     show M3 c (2,(m:Int))=_;refine Bool.eq_iff_iff.2 ?_;rw[b.o];simp;omega
    subst F;obtain⟨v,u⟩:=nM (c.getD m 0);rw[u]at y g;have I:=bLt _ _ y;have L:D<w.heap.size:=I;clear u b;have O:(m:Int)<(n:Int):=Ϝ;go_enter func203,ntmps203;go_wp2_with (go_at_call 201;refine(Em _ _ _ _ _ o).mono ?_;rintro e w' ⟨rfl,j⟩;subst j);go_ret;exact⟨Aa (by rw[g.o];exact Bool.eq_iff_iff.2 Ϟ),ϧ⟩
   ·have G:(f==2)=false:=by simpa using d
    have g:Ϛ (M3 c (f,k)=true):=b.o.2 ⟨⟨z,Ϝ⟩,λh=>absurd h d⟩;clear d b;go_enter func203,ntmps203;go_wp2_with (go_at_call 201;refine(Em _ _ _ _ _ o).mono ?_;rintro e w' ⟨rfl,j⟩;subst j);go_ret;exact⟨Aa g.o.symm,ϧ⟩
def Gg(c:List Int)(l:List (Int×Int)):Prop:=∀a∈l,Gl c a
instance(c:List Int)(l:List (Int×Int)):Decidable (Gg c l):=by unfold Gg;infer_instance
theorem XD(c:List Int)(l:List (Int×Int)):decide (Gg c l)=allB l.length (λi=>M3 c (l.getD i (0,0))):=by
 refine(DG ?_).symm;rw[AQ];unfold Gg M3;simp only[decide_eq_true_eq];exact GV (Q:=λa:Int×Int=>Gl c a)
theorem Nc(a ad:ϙ)(d f:Nat)(l:List (Int×Int))(c:List Int)(w:Ϙ)(s:l.length<=χ)(r:c.length<=χ)(ha:Ge w a l)(q:A8 w ad c):
 η 137 #[vS a l.length d,vS ad c.length f] w (θ w (.bool (decide (Gg c l)))):=by
 have K:Ϛ (∀B b,ϛ w b->Δ b B 0 (vS ad c.length f)->
  η 195 #[vS a l.length d,.func (.func 203) #[] #[μ B]] b (θ b (.bool (decide (Gg c l))))):=by
  intro B b o e0;rw[XD];exact J0 203 (enters_of func203 ϟ rfl) #[μ B] (λi=>M3 c (l.getD i (0,0))) a d l b s (E6 ha o)
   (λi u y p=>Zw i B ad f c _ _ u r (Av (Av q o) p) (cLz p e0))
 obtain⟨m,h⟩:=nM l.length;obtain⟨k,g⟩:=nM c.length;obtain⟨z,j⟩:=nM (decide (Gg c l));rw[h,g,j]at K;rw[h,g,j];clear h g j ha q s r;go_enter func137,ntmps137;go_wp2_with (go_at_call 195;refine(K.o _ _ ϧ Ϡ).mono ?_;rintro e b ⟨rfl,t⟩);go_ret;exact⟨rfl,ϧ.trans (t.mono Ϟ)⟩
end pl
def Φ(p:pl.Pln)(x:pl.PA):Mmz (#[.int .i64 p.kind,.int .i64 p.mode,.int .i64 p.low,.int .i64 p.high,.int .i64 p.size,.int .i64 p.limit,.slice x.l p.left.length x.lc,.slice x.r p.right.length x.rc,.slice x.lk p.lkeys.length x.lkc,.slice x.rk p.rkeys.length x.rkc,.bool p.grouped,.slice x.g p.group.length x.gc,.slice x.a p.aggs.length x.ac]:Array Value):=⟨⟩
def Λ(p:pl.Pln)(x:pl.PA):Mmz ([.int .i64 p.kind,.int .i64 p.mode,.int .i64 p.low,.int .i64 p.high,.int .i64 p.size,.int .i64 p.limit,.slice x.l p.left.length x.lc,.slice x.r p.right.length x.rc,.slice x.lk p.lkeys.length x.lkc,.slice x.rk p.rkeys.length x.rkc,.bool p.grouped,.slice x.g p.group.length x.gc,.slice x.a p.aggs.length x.ac]:List Value):=⟨⟩
end Go.Proofs.YtfkihidbnfkbaaaGreatDoor
