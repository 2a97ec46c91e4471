import Derived.Test.YtfkihidbnfkbaaaGreatDoorPv5
import Derived.Lib.AppendZerosOnto
set_option linter.all false
set_option maxHeartbeats 4000000
set_option maxRecDepth 100000
open List renaming length->ϲ
namespace Go.Proofs.YtfkihidbnfkbaaaGreatDoor
open ChangeShapes WideShapes ChangeAt RowKit Joins Deep List Proofs.Tryz
namespace tm
def Afe(a b:Int):Bool:=Br a&&Br b
theorem Ys(b:Nat)(x y:Int)(w:ϟ)
 (h0:Δ w b 0 (vI x)) (h1:Δ w b 1 (vI y)):
 χ 366 #[vS (ϋ b) 2 2] w λe w'=>e= .returned (.bool (Afe x y))/\w'=w:=by
 have h:=W6 b [x,y] w ϥ (λi d=>by
  match i,d with
  |0,_=>exact h0
  |1,_=>exact h1)
 refine h.mono λe w' ⟨c,f⟩=>⟨?_,f⟩;rw[c];simp[Afe]
def start(t s:Int):Int:=t - t % s
def AcR(t s:Int)(ht:t<0)(b:0<s):t.tmod s= -((-t) % s):=by
 have:=Int.neg_tmod (-t) s;rw[Int.neg_neg]at this;rw[this,Int.tmod_eq_emod_of_nonneg ϣ]
theorem Aff(t s:Int)(b:0<s):(-t % s=0/\t % s=0)\/(0< -t % s/\t % s=s - -t % s):=by
 have p:=dZ t (show s≠0 by omega);have q:=dn t b;have r:=dZ (-t) (show s≠0 by omega);have u:=dn (-t) b;have g:=Int.mul_ediv_add_emod t s;have j:=Int.mul_ediv_add_emod (-t) s;have c:s * (t/s+ -t/s)= -(t % s+ -t % s):=by rw[Int.mul_add];omega
 obtain⟨k,d⟩:∃k,t/s+ -t/s=k:=⟨_,rfl⟩;rw[d]at c;have m:k<=0:=by
  rcases Int.lt_or_le 0 k with h|h
  ·have:=Int.mul_pos b h;omega
  ·exact h
 have o: -2<k:=by
  rcases Int.lt_or_le (-2) k with h|h
  ·exact h
  ·have:=Int.mul_le_mul_of_nonneg_left h (Int.le_of_lt b);omega
 have f:k=0\/k= -1:=ϣ;rcases f with rfl|rfl<;>omega
def tup3{a b c d f g:Int}(h1:a=d)(h:b=f)(j:c=g):
 Ending.returned (.tuple #[vI a,vI b,vI c])= .returned (.tuple #[vI d,vI f,vI g]):=by rw[h1,h,j]
def AcS(t s:Int)(b:0<s):start t s<=t/\t<start t s+s:=by
 unfold start;have:=dZ t (show s≠0 by omega);have:=dn t b;omega
theorem Xc(t s:Int)(w:ϟ)(h:Br t=true)(h1:1<=s)(m:s<=1099511627776):
 χ 367 #[vI t,vI s] w λe w'=>e= .returned (.tuple #[vI (start t s),vI (start t s+s),Ϗ])/\w'=w:=by
 have g:=(L2 t).1 h;obtain⟨j,k⟩:=g;have p:¬s<1:=ϣ;have q:¬1099511627776<s:=ϣ;have u:(s==0)=false:=Ϩ;by_cases r:0<=t
 ·have d:=dZ t (show s≠0 by omega);have f:=dn t (show 0<s by omega);go_enter func367,ntmps367;go_wp2_with (go_at_call 197;refine(Dn _ _).mono ?_;rintro e w' ⟨rfl,b⟩;subst b)
  go_ret3
  exact⟨rfl,rfl⟩
 ·have e0:=AcR t s ϣ ϣ;have d:=dZ (-t) (show s≠0 by omega);have f:=dn (-t) (show 0<s by omega);have c:ϡ ((-t % s=0/\t % s=0)\/(0< -t % s/\t % s=s - -t % s)):=Aff t s ϣ;go_enter func367,ntmps367;go_wp2_with (go_at_call 197;refine(Dn _ _).mono ?_;rintro e w' ⟨rfl,b⟩;subst b)
  all_goals
   have o:=c.o
   go_ret3
   exact⟨tup3 (by unfold start;omega) (by unfold start;omega) rfl,rfl⟩
end tm
namespace pl
open vl
variable {w w' : ϟ} {a : Ϡ} {l : List Int} {base i n size : Nat} {P : Nat -> Bool} {e : TypeId} {v : Value} {xs : List Value} {x : Int}
def Au(w:World)(a:Option Addr)(l:List Int):Prop:=
 ∀i,i<ϲ l->∃b off,a=some ⟨b,off,none⟩/\Δ w b (off+i) (vI (l.getD i 0))
def DK(w:World)(a:Option Addr)(l:List (Int×Int)):Prop:=
 ∀i,i<ϲ l->∃b off,a=some ⟨b,off,none⟩/\Δ w b (off+i * 2) (vI (l.getD i (0,0)).1)/\Δ w b (off+i * 2+1) (vI (l.getD i (0,0)).2)
def Al(h:Au w a l)(c:Ϣ w w'):Au w' a l:=by
 intro i d;obtain⟨b,o,e,x⟩:=h i d;exact⟨b,o,e,cLz c x⟩
def Cs{l:List (Int×Int)}(h:DK w a l)(c:Ϣ w w'):DK w' a l:=by
 intro i d;obtain⟨b,o,e,x,y⟩:=h i d;exact⟨b,o,e,cLz c x,cLz c y⟩
structure Pln where
 kind:Int
 mode:Int
 low:Int
 high:Int
 size:Int
 limit:Int
 left:List Int
 right:List Int
 lkeys:List Int
 rkeys:List Int
 grouped:Bool
 group:List Int
 aggs:List (Int×Int)
structure PA where
 l:Option Addr
 lc:Nat
 r:Option Addr
 rc:Nat
 lk:Option Addr
 lkc:Nat
 rk:Option Addr
 rkc:Nat
 g:Option Addr
 gc:Nat
 a:Option Addr
 ac:Nat
def Ai(p:Pln)(x:PA):Value:=
 .agg #[vI p.kind,vI p.mode,vI p.low,vI p.high,vI p.size,vI p.limit,
  vS x.l (ϲ p.left) x.lc,vS x.r (ϲ p.right) x.rc,vS x.lk (ϲ p.lkeys) x.lkc,vS x.rk (ϲ p.rkeys) x.rkc,.bool p.grouped,vS x.g (ϲ p.group) x.gc,vS x.a (ϲ p.aggs) x.ac]
structure planAt(w:World)(p:Pln)(x:PA):Prop where
 l:Au w x.l p.left
 r:Au w x.r p.right
 lk:Au w x.lk p.lkeys
 rk:Au w x.rk p.rkeys
 g:Au w x.g p.group
 a:DK w x.a p.aggs
def Ae{p:Pln}{x:PA}(h:planAt w p x)(b:Ϣ w w'):planAt w' p x:=
 ⟨Al h.l b,Al h.r b,Al h.lk b,Al h.rk b,Al h.g b,Cs h.a b⟩
def i64(n:Int):Prop:= -9223372036854775808<=n/\n<=9223372036854775807
structure wfPlan(p:Pln):Prop where
 low:i64 p.low
 high:i64 p.high
 l:ϲ p.left<=ύ
 r:ϲ p.right<=ύ
 lk:ϲ p.lkeys<=ύ
 rk:ϲ p.rkeys<=ύ
 g:ϲ p.group<=ύ
 a:ϲ p.aggs<=ύ
def fit(t:Int):Prop:= -1099511627776<=t/\t<=1099511627776
instance(t:Int):Decidable (fit t):=by unfold fit;infer_instance
def Bs(p:Pln):Prop:=(1<=p.kind/\p.kind<=3)/\(1<=p.mode/\p.mode<=(if p.kind=3 then 2 else 4))/\(p.grouped=true->∀a∈p.aggs,1<=a.1/\a.1<=4)
def B9(p:Pln):Prop:=(if p.kind=1 then fit p.low/\fit p.high else p.low=0/\p.high=0)/\(if p.kind=2 then 1<=p.size/\p.size<=1099511627776 else p.size=0)/\(1<=p.limit/\p.limit<=64)
def LK(n:Nat):Prop:=1<=n/\n<=4
instance(n:Nat):Decidable (LK n):=by unfold LK;infer_instance
def Cl(p:Pln):Prop:=(LK (ϲ p.left)/\LK (ϲ p.right)/\LK (ϲ p.lkeys)/\LK (ϲ p.rkeys))/\(if p.grouped=true then LK (ϲ p.aggs)/\(ϲ p.group)+ϲ p.aggs<=8 else (ϲ p.group)=0/\(ϲ p.aggs)=0)
def A5(p:Pln):List Int:=p.left++p.right
def CE(p:Pln):Prop:=∀c∈A5 p,1<=c/\c<=3
def Bj(l:List Int)(n:Nat):Prop:=(∀x∈l,0<=x/\x<(n:Int))/\l.Pairwise (· ≠ ·)
def Hb(p:Pln):Prop:=∀i,i<ϲ p.lkeys->p.left.getD (p.lkeys.getD i 0).toNat 0=p.right.getD (p.rkeys.getD i 0).toNat 0
def CR(c:List Int)(a:Int×Int):Prop:=if a.1=1 then a.2=0 else(0<=a.2/\a.2<(ϲ c:Int))/\(a.1=2->c.getD a.2.toNat 0=2)
def Jp(p:Pln):Prop:=ϲ p.lkeys=ϲ p.rkeys/\Bj p.lkeys (ϲ p.left)/\Bj p.rkeys (ϲ p.right)/\Hb p
def Be(p:Pln):Prop:=p.low<=p.high/\Jp p/\Bj p.group (ϲ (A5 p))/\(∀a∈p.aggs,CR (A5 p) a)
instance(p:Pln):Decidable (Bs p):=by unfold Bs;infer_instance
instance(p:Pln):Decidable (B9 p):=by unfold B9;infer_instance
instance(p:Pln):Decidable (Cl p):=by unfold Cl;infer_instance
instance(p:Pln):Decidable (CE p):=by unfold CE;infer_instance
instance(l:List Int)(n:Nat):Decidable (Bj l n):=by unfold Bj;infer_instance
instance(p:Pln):Decidable (Hb p):=by unfold Hb;infer_instance
instance(c:List Int)(a:Int×Int):Decidable (CR c a):=by unfold CR;infer_instance
instance(p:Pln):Decidable (Jp p):=by unfold Jp;infer_instance
instance(p:Pln):Decidable (Be p):=by unfold Be;infer_instance
def Ag(p:Pln):Int:=
 if¬Bs p then 4 else if¬B9 p then 3 else if¬Cl p then 2 else if¬CE p then 5 else if¬Be p then 1 else 0
def Bt{p:Pln}(h:Ag p=0):Bs p/\B9 p/\Cl p/\CE p/\Be p:=by
 unfold Ag at h;by_cases b:Bs p
 ·by_cases c:B9 p
  ·by_cases d:Cl p
   ·by_cases f:CE p
    ·by_cases g:Be p
     ·exact⟨b,c,d,f,g⟩
     ·rw[AC (by simp[b]),AC (by simp[c]),AC (by simp[d]),AC (by simp[f]),AE g]at h;cases h
    ·rw[AC (by simp[b]),AC (by simp[c]),AC (by simp[d]),AE f]at h;cases h
   ·rw[AC (by simp[b]),AC (by simp[c]),AE d]at h;cases h
  ·rw[AC (by simp[b]),AE c]at h;cases h
 ·rw[AE b]at h;cases h
def A8(n a b:Int):Bool:=decide (a<=n/\n<=b)
def Bg(n a b:Int):A8 n a b=true↔(a<=n/\n<=b):=by simp[A8]
def CC(n a b:Int):A8 n a b=false↔ ¬(a<=n/\n<=b):=by unfold A8;exact cP
def Cw(n a b:Int)(w:ϟ):
 χ 126 #[vI n,vI a,vI b] w λe w'=>e= .returned (.bool (A8 n a b))/\w'=w:=by
 by_cases c:a<=n
 ·by_cases d:n<=b
  ·rw[(Bg n a b).2 ⟨c,d⟩];go_enter func126,ntmps126;go_wp2;go_ret;exact⟨rfl,rfl⟩
  ·rw[(CC n a b).2 ϣ];go_enter func126,ntmps126;go_wp2;go_ret;exact⟨rfl,rfl⟩
 ·rw[(CC n a b).2 ϣ];go_enter func126,ntmps126;go_wp2;go_ret;exact⟨rfl,rfl⟩
def An(n a b:Int)(w:ϟ):
 χ 83 #[vI n,vI a,vI b] w λe w'=>e= .returned (.bool (A8 n a b))/\w'=w:=by
 by_cases c:a<=n
 ·by_cases d:n<=b
  ·rw[(Bg n a b).2 ⟨c,d⟩];go_enter func83,ntmps83;go_wp2;go_ret;exact⟨rfl,rfl⟩
  ·rw[(CC n a b).2 ϣ];go_enter func83,ntmps83;go_wp2;go_ret;exact⟨rfl,rfl⟩
 ·rw[(CC n a b).2 ϣ];go_enter func83,ntmps83;go_wp2;go_ret;exact⟨rfl,rfl⟩
def allB(n:Nat)(P:Nat->Bool):Bool:=(List.range n).all P
def AA:allB n P=true↔ ∀i,i<n->P i=true:=by simp[allB]
def CK(c:i<n)(h:P i=false):allB n P=false:=by
 rcases eK (allB n P)with b|b
 ·have:=AA.1 b i c;rw[h]at this;cases this
 ·exact b
theorem I3(d:FuncId)(I:∀y w,(callFunc d y).run prog w= .ok (.enter d y) w)(j:Array Value)(P:Nat->Bool)(a:Ϡ)(cap:Nat)(l:List Int)(w:ϟ)(F:ϲ l<=ύ)(ha:Au w a l)
 (H:∀i c,i<ϲ l->Ϣ w c->Calls prog d (#[vI (i:Nat),vI (l.getD i 0)]++j) c (ψ c (.bool (P i)))):
 χ 132 #[vS a (ϲ l) cap,.func (.func d) #[] j] w (ψ w (.bool (allB (ϲ l) P))):=by
 have E:ϡ (∀i c,i<ϲ l->Ϣ w c->CT d (#[vI (i:Nat),vI (l.getD i 0)]++j) c (ψ c (.bool (P i)))):=H;clear H;obtain⟨n,s⟩:∃n,ϲ l=n:=⟨_,rfl⟩;have u:ϡ (ϲ l=n):=s;rw[s]at F⊢;clear s;go_enter func132,ntmps132;go_wp2
 go_loopw [9] (λi wr=> ∃k:Nat,k<=n/\i=vI k/\Ϣ w wr/\∀i,i<k->P i=true) (λi _=>n - (intOf i).toNat)
 case atStart=>exact⟨0,At _,rfl,bR,λi m=>absurd m (CA i)⟩
 case round=>
  obtain⟨k,J,rfl,f,A⟩:=hrel;have t:ϡ (∀i,i<k->P i=true):=A;clear A;by_cases r:k<n
  ·obtain⟨b,o,e,D⟩:=ha k (by rw[u.o];exact r);subst e;have G:=cLz f D;clear D ha;have K:=nn0 k;have L:(k:Int)<(n:Int):=ϣ;have g:ϡ (CT d (#[vI (k:Nat),vI (l.getD k 0)]++j) wr (ψ wr (.bool (P k)))):=E.o k wr (by rw[u.o];exact r) f;obtain⟨z,C⟩:=nM (l.getD k 0);rw[C]at G g;clear C;have B:=f.size
   cases hp:P k with
   |true=>
    rw[hp]at g;go_wp2_with (go_at_fn d;refine g.o.mono ?_;rintro e c ⟨rfl,q⟩);go_roundw;exact⟨k+1,ϣ,by go_num,f.trans (q.mono B),λi m=>by
     rcases Fm.1 m with h|h
     ·exact t.o i h
     ·rw[h];exact hp⟩
    simp[intOf];omega
   |false=>
    have p:ϡ (allB n P=false):=CK r hp;rw[hp]at g;go_wp2_with (go_at_fn d;refine g.o.mono ?_;rintro e c ⟨rfl,q⟩);go_ret;exact⟨Aa p.o.symm,f.trans (q.mono B)⟩
  ·have p:ϡ (allB n P=true):=AA.2 (λi m=>t.o i ϣ);go_wp2;go_ret;exact⟨Aa p.o.symm,f⟩
def M8(w:World)(a:Option Addr)(l:List (Option Addr×Nat×Nat)):Prop:=
 ∀i,i<ϲ l->∃b off,a=some ⟨b,off,none⟩/\Δ w b (off+i) (vS (l.getD i (none,0,0)).1 (l.getD i (none,0,0)).2.1 (l.getD i (none,0,0)).2.2)
theorem LL(d:FuncId)(M:∀A w,(callFunc d A).run prog w= .ok (.enter d A) w)(j:Array Value)(P:Nat->Bool)(a:Ϡ)(cap:Nat)(l:List (Int×Int))(w:ϟ)(L:ϲ l<=ύ)(ha:DK w a l)
 (H:∀i c,i<ϲ l->Ϣ w c->Calls prog d (#[vI (i:Nat),.agg #[vI (l.getD i (0,0)).1,vI (l.getD i (0,0)).2]]++j) c (ψ c (.bool (P i)))):
 χ 195 #[vS a (ϲ l) cap,.func (.func d) #[] j] w (ψ w (.bool (allB (ϲ l) P))):=by
 have J:ϡ (∀i c,i<ϲ l->Ϣ w c->CT d (#[vI (i:Nat),.agg #[vI (l.getD i (0,0)).1,vI (l.getD i (0,0)).2]]++j) c (ψ c (.bool (P i)))):=H;clear H;obtain⟨n,t⟩:∃n,ϲ l=n:=⟨_,rfl⟩;have y:ϡ (ϲ l=n):=t;rw[t]at L⊢;clear t;go_enter func195,ntmps195;go_wp2
 go_loopw [9] (λi wr=> ∃k:Nat,k<=n/\i=vI k/\Ϣ w wr/\∀i,i<k->P i=true) (λi _=>n - (intOf i).toNat)
 case atStart=>exact⟨0,At _,rfl,bR,λi m=>absurd m (CA i)⟩
 case round=>
  obtain⟨k,N,rfl,f,B⟩:=hrel;have u:ϡ (∀i,i<k->P i=true):=B;clear B;by_cases s:k<n
  ·obtain⟨b,o,e,G,I⟩:=ha k (by rw[y.o];exact s);subst e;have E:=cLz f G;have F:=cLz f I;clear G I ha;have O:=nn0 k;have Q:(k:Int)<(n:Int):=ϣ;have g:ϡ (∀c,Ϣ wr c->CT d (#[vI (k:Nat),.agg #[vI (l.getD k (0,0)).1,vI (l.getD k (0,0)).2]]++j) c (ψ c (.bool (P k)))):=λc K=>J.o k c (by rw[y.o];exact s) (bT f K);obtain⟨⟨R,S⟩,D⟩:∃z,l.getD k (0,0)=z:=⟨_,rfl⟩;rw[D]at E F g;dsimp only at E F g;clear D;have C:=f.size
   cases hp:P k with
   |true=>
    rw[hp]at g;go_wp2_with (go_at_fn d;refine(g.o _ Ϯ).mono ?_;rintro e c ⟨rfl,q⟩;have r:=(f.alloc C _).trans (q.mono Ϩ));go_roundw;exact⟨k+1,ϣ,by go_num,r,λi m=>by
     rcases Fm.1 m with h|h
     ·exact u.o i h
     ·rw[h];exact hp⟩
    simp[intOf];omega
   |false=>
    have p:ϡ (allB n P=false):=CK s hp;rw[hp]at g;go_wp2_with (go_at_fn d;refine(g.o _ Ϯ).mono ?_;rintro e c ⟨rfl,q⟩;have r:=(f.alloc C _).trans (q.mono Ϩ));go_ret;exact⟨Aa p.o.symm,r⟩
  ·have p:ϡ (allB n P=true):=AA.2 (λi m=>u.o i ϣ);go_wp2;go_ret;exact⟨Aa p.o.symm,f⟩
theorem Sx(d:FuncId)(I:∀y w,(callFunc d y).run prog w= .ok (.enter d y) w)(j:Array Value)(P:Nat->Bool)(a:Ϡ)(cap:Nat)(l:List (Option Addr×Nat×Nat))(w:ϟ)(G:ϲ l<=ύ)(ha:M8 w a l)
 (H:∀i c,i<ϲ l->Ϣ w c->Calls prog d (#[vI (i:Nat),vS (l.getD i (none,0,0)).1 (l.getD i (none,0,0)).2.1 (l.getD i (none,0,0)).2.2]++j) c (ψ c (.bool (P i)))):
 χ 130 #[vS a (ϲ l) cap,.func (.func d) #[] j] w (ψ w (.bool (allB (ϲ l) P))):=by
 have F:ϡ (∀i c,i<ϲ l->Ϣ w c->CT d (#[vI (i:Nat),vS (l.getD i (none,0,0)).1 (l.getD i (none,0,0)).2.1 (l.getD i (none,0,0)).2.2]++j) c (ψ c (.bool (P i)))):=H;clear H;obtain⟨n,s⟩:∃n,ϲ l=n:=⟨_,rfl⟩;have u:ϡ (ϲ l=n):=s;rw[s]at G⊢;clear s;go_enter func130,ntmps130;go_wp2
 go_loopw [9] (λi wr=> ∃k:Nat,k<=n/\i=vI k/\Ϣ w wr/\∀i,i<k->P i=true) (λi _=>n - (intOf i).toNat)
 case atStart=>exact⟨0,At _,rfl,bR,λi m=>absurd m (CA i)⟩
 case round=>
  obtain⟨k,J,rfl,g,A⟩:=hrel;have t:ϡ (∀i,i<k->P i=true):=A;clear A;by_cases r:k<n
  ·obtain⟨b,o,e,E⟩:=ha k (by rw[u.o];exact r);subst e;have D:=cLz g E;clear E ha;have K:=nn0 k;have L:(k:Int)<(n:Int):=ϣ;have f:ϡ (CT d (#[vI (k:Nat),vS (l.getD k (none,0,0)).1 (l.getD k (none,0,0)).2.1 (l.getD k (none,0,0)).2.2]++j) wr (ψ wr (.bool (P k)))):=F.o k wr (by rw[u.o];exact r) g;obtain⟨⟨M,N,O⟩,C⟩:∃z,l.getD k (none,0,0)=z:=⟨_,rfl⟩;rw[C]at D f;dsimp only at D f;clear C;have B:=g.size
   cases hp:P k with
   |true=>
    rw[hp]at f;go_wp2_with (go_at_fn d;refine f.o.mono ?_;rintro e c ⟨rfl,q⟩);go_roundw;exact⟨k+1,ϣ,by go_num,g.trans (q.mono B),λi m=>by
     rcases Fm.1 m with h|h
     ·exact t.o i h
     ·rw[h];exact hp⟩
    simp[intOf];omega
   |false=>
    have p:ϡ (allB n P=false):=CK r hp;rw[hp]at f;go_wp2_with (go_at_fn d;refine f.o.mono ?_;rintro e c ⟨rfl,q⟩);go_ret;exact⟨Aa p.o.symm,g.trans (q.mono B)⟩
  ·have p:ϡ (allB n P=true):=AA.2 (λi m=>t.o i ϣ);go_wp2;go_ret;exact⟨Aa p.o.symm,g⟩
theorem Sy(f:FuncId)(O:∀A w,(callFunc f A).run prog w= .ok (.enter f A) w)(j:Array Value)(P:Nat->Bool)(a:Ϡ)(cap:Nat)(l:List Cel)(w:ϟ)(N:ϲ l<=ύ)(ha:vl.rowAt w a l)
 (H:∀i c,i<ϲ l->Ϣ w c->Calls prog f (#[vI (i:Nat),(l.getD i default).val]++j) c (ψ c (.bool (P i)))):
 χ 241 #[vS a (ϲ l) cap,.func (.func f) #[] j] w (ψ w (.bool (allB (ϲ l) P))):=by
 have L:ϡ (∀i c,i<ϲ l->Ϣ w c->CT f (#[vI (i:Nat),(l.getD i default).val]++j) c (ψ c (.bool (P i)))):=H;clear H;obtain⟨n,t⟩:∃n,ϲ l=n:=⟨_,rfl⟩;have y:ϡ (ϲ l=n):=t;rw[t]at N⊢;clear t;go_enter func241,ntmps241;go_wp2
 go_loopw [9] (λi wr=> ∃k:Nat,k<=n/\i=vI k/\Ϣ w wr/\∀i,i<k->P i=true) (λi _=>n - (intOf i).toNat)
 case atStart=>exact⟨0,At _,rfl,bR,λi m=>absurd m (CA i)⟩
 case round=>
  obtain⟨k,Q,rfl,g,B⟩:=hrel;have u:ϡ (∀i,i<k->P i=true):=B;clear B;by_cases s:k<n
  ·obtain⟨b,o,e,I,J,K⟩:=ha k (by rw[y.o];exact s);subst e;obtain⟨E,F,G⟩:=lk3 g I J K;clear I J K ha;have R:=nn0 k;have S:(k:Int)<(n:Int):=ϣ;have d:ϡ (∀c,Ϣ wr c->CT f (#[vI (k:Nat),(l.getD k default).val]++j) c (ψ c (.bool (P k)))):=λc M=>L.o k c (by rw[y.o];exact s) (bT g M);obtain⟨⟨T,U,V⟩,D⟩:∃z,l.getD k default=z:=⟨_,rfl⟩;rw[D]at E F G d;dsimp only at E F G d;clear D;unfold Cel.val at d;dsimp only at d;have C:=g.size
   cases hp:P k with
   |true=>
    rw[hp]at d;go_wp2_with (go_at_fn f;refine(d.o _ Ϯ).mono ?_;rintro e c ⟨rfl,q⟩;have r:=(g.alloc C _).trans (q.mono Ϩ));go_roundw;exact⟨k+1,ϣ,by go_num,r,λi m=>by
     rcases Fm.1 m with h|h
     ·exact u.o i h
     ·rw[h];exact hp⟩
    simp[intOf];omega
   |false=>
    have p:ϡ (allB n P=false):=CK s hp;rw[hp]at d;go_wp2_with (go_at_fn f;refine(d.o _ Ϯ).mono ?_;rintro e c ⟨rfl,q⟩;have r:=(g.alloc C _).trans (q.mono Ϩ));go_ret;exact⟨Aa p.o.symm,r⟩
  ·have p:ϡ (allB n P=true):=AA.2 (λi m=>u.o i ϣ);go_wp2;go_ret;exact⟨Aa p.o.symm,g⟩
theorem Ex{a:Bool}{q:Prop} [Decidable q](h:a=true↔q):a=decide q:=by
 by_cases b:q
 ·rw[DB b];exact h.2 b
 ·rw[BP b]
  cases a with
  |false=>rfl
  |true=>exact absurd (h.1 rfl) b
def Cx{W c:ϟ}(d:Ϣ W c):(∀b o,b<W.heap.size->c.cell? ⟨b,o,none⟩=W.cell? ⟨b,o,none⟩)/\(∀b o,b<W.heap.size->c.frozen? ⟨b,o,none⟩=W.frozen? ⟨b,o,none⟩):=
 ⟨λb o h=>d.cell (p:=⟨b,o,none⟩) h,λb o h=>d.frozen (p:=⟨b,o,none⟩) h⟩
def JS(l:List (Int×Int)):Bool:=allB (ϲ l) (λi=>A8 (l.getD i (0,0)).1 1 4)
def CS{α:Type}{l:List α}{d:α}(h:i<ϲ l):l.getD i d∈l:=by simp[gDe,h]
def Fo{α:Type}{l:List α}{d:α}{Q:α->Prop}:(∀i,i<ϲ l->Q (l.getD i d))↔ ∀x∈l,Q x:=by
 constructor
 ·intro h x c;obtain⟨i,b,rfl⟩:=LT c;have:=h i b;simpa[gDe,b]using this
 ·intro h i b;exact h _ (CS b)
def Uz(l:List (Int×Int)):JS l=true↔ ∀a∈l,1<=a.1/\a.1<=4:=by
 unfold JS;rw[AA];simp only[Bg];exact Fo (Q:=λa:Int×Int=>1<=a.1/\a.1<=4)
def AcT(i:Int)(f c:Int)(w:ϟ):
 χ 196 #[vI i,.agg #[vI f,vI c]] w (ψ w (.bool (A8 f 1 4))):=by
 go_enter func196,ntmps196;go_wp2_with (go_at_call 126;refine(Cw _ _ _ _).mono ?_;rintro e w' ⟨rfl,b⟩;subst b);go_ret;exact⟨rfl,Ϯ⟩
def U0(a:Ϡ)(cap:Nat)(l:List (Int×Int))(w:ϟ)(g:ϲ l<=ύ)(ha:DK w a l):
 χ 127 #[vS a (ϲ l) cap] w (ψ w (.bool (JS l))):=by
 have H:=LL 196 (IB func196 Ϧ rfl) #[] (λi=>A8 (l.getD i (0,0)).1 1 4) a cap l w g ha (λi c _ _=>AcT i _ _ c);obtain⟨n,b⟩:∃n,ϲ l=n:=⟨_,rfl⟩;have d:ϡ (JS l=allB n (λi=>A8 (l.getD i (0,0)).1 1 4)):=by show JS l=_;unfold JS;rw[b]
 rw[b]at H⊢;clear b;go_enter func127,ntmps127;go_wp2_with (go_at_call 195;refine H.mono ?_;rintro e c ⟨rfl,f⟩);go_ret;exact⟨Aa d.o.symm,f⟩
theorem Pg(p:Pln)(x:PA)(w:ϟ)(G:planAt w p x)(c:wfPlan p):
 χ 69 #[Ai p x] w (ψ w (.bool (decide (Bs p)))):=by
 have d:=hIz (λ(m:ϟ) (f:Ϣ w m)=>U0 x.a x.ac p.aggs m c.a (Cs G.a f));have b:ϡ (decide (Bs p)=(A8 p.kind 1 3&&A8 p.mode 1 (if p.kind=3 then 2 else 4)&&(!p.grouped||JS p.aggs))):=by
  refine(Ex ?_).symm;simp only[G3,cX,Bg,Uz,Bs,bA,dM]
  cases p.grouped<;>simp
 obtain⟨u,k,M,K,size,L,left,right,I,J,h,z,o⟩:=p;obtain⟨l,S,r,rc,T,U,rk,aa,g,Q,a,N⟩:=x;unfold Ai;dsimp only at d b⊢;clear G c;obtain⟨X,B⟩:∃n,ϲ left=n:=⟨_,rfl⟩;obtain⟨Y,C⟩:∃n,ϲ right=n:=⟨_,rfl⟩;obtain⟨Z,D⟩:∃n,ϲ I=n:=⟨_,rfl⟩;obtain⟨n9,E⟩:∃n,ϲ J=n:=⟨_,rfl⟩;obtain⟨V,A⟩:∃n,ϲ z=n:=⟨_,rfl⟩;obtain⟨W,s⟩:∃n,ϲ o=n:=⟨_,rfl⟩;rw[s]at d;rw[B,C,D,E,A,s];clear B C D E A s;obtain⟨q,F⟩:=nM (JS o);rw[F]at d b;clear F;by_cases j:u=3
 ·subst j;have y:ϡ (decide (Bs ⟨3,k,M,K,size,L,left,right,I,J,h,z,o⟩)=(true&&A8 k 1 2&&(!h||q))):=b.o;clear b;have O:A8 3 1 3=true:=Ϥ
  cases f:A8 k 1 2<;>rw[f]at y<;>cases h<;>cases q
  all_goals
   go_enter func69,ntmps69;go_wp2_with (first
    |(go_at_call 126;refine(Cw _ _ _ _).mono ?_;rintro e w' ⟨rfl,c⟩;subst c)
    |(go_at_call 127;refine(d.o _ Ϯ).mono ?_;rintro e m ⟨rfl,t⟩))
   go_ret;refine⟨Aa y.o.symm,?_⟩
   first
    |exact Ϯ.trans (t.mono ϥ)
    |exact Ϯ
 ·have R:(u==3)=false:=by simpa using j
  rw[AC j]at b;clear j
  cases h0:A8 u 1 3<;>rw[h0]at b<;>cases f:A8 k 1 4<;>rw[f]at b<;>cases h<;>cases q
  all_goals
   go_enter func69,ntmps69;go_wp2_with (first
    |(go_at_call 126;refine(Cw _ _ _ _).mono ?_;rintro e w' ⟨rfl,c⟩;subst c)
    |(go_at_call 127;refine(d.o _ Ϯ).mono ?_;rintro e m ⟨rfl,t⟩))
   go_ret;refine⟨Aa b.o.symm,?_⟩
   first
    |exact Ϯ.trans (t.mono ϥ)
    |exact Ϯ
def Nc(p:Pln):Bool:=if p.kind=1 then tm.Br p.low&&tm.Br p.high else decide (p.low=0)&&decide (p.high=0)
def Nf(p:Pln):Bool:=if p.kind=2 then A8 p.size 1 1099511627776 else decide (p.size=0)
def Ph(p:Pln):decide (B9 p)=(Nc p&&Nf p&&A8 p.limit 1 64):=by
 refine(Ex ?_).symm;unfold B9 Nc Nf;simp only[G3,Bg,dM];refine and_congr ?_ (and_congr ?_ Iff.rfl)
 ·split
  ·simp only[G3,tm.L2,fit]
  ·simp
 ·split
  ·simp only[Bg]
  ·simp
theorem Qa(p:Pln)(x:PA)(w:ϟ):
 χ 128 #[Ai p x] w (ψ w (.bool (Nc p))):=by
 have b:ϡ (Nc p=if p.kind=1 then tm.Br p.low&&tm.Br p.high else decide (p.low=0)&&decide (p.high=0)):=rfl;obtain⟨h,E,f,u,size,A,left,right,D,J,s,q,m⟩:=p;obtain⟨l,z,r,F,B,C,G,I,g,o,a,k⟩:=x;unfold Ai;dsimp only at b⊢;by_cases d:h=1
 ·subst d;rw[AE rfl]at b
  cases c:tm.Br f<;>rw[c]at b
  all_goals
   go_enter func128,ntmps128;go_wp2_with (go_at_call 197;refine(tm.Dn _ _).mono ?_;rintro e w' ⟨rfl,j⟩;subst j);go_ret;exact⟨Aa (by rw[b.o];rfl),Ϯ⟩
 ·have y:(h==1)=false:=by simpa using d
  rw[AC d]at b;clear d;by_cases c:f=0
  ·subst c;go_enter func128,ntmps128;go_wp2;go_ret;exact⟨Aa (by rw[b.o];exact PJ.2 ϥ),Ϯ⟩
  ·have t:(f==0)=false:=by simpa using c
   rw[BP c]at b;clear c;go_enter func128,ntmps128;go_wp2;go_ret;exact⟨Aa (by rw[b.o];rfl),Ϯ⟩
theorem Qb(p:Pln)(x:PA)(w:ϟ):
 χ 129 #[Ai p x] w (ψ w (.bool (Nf p))):=by
 have b:ϡ (Nf p=if p.kind=2 then A8 p.size 1 1099511627776 else decide (p.size=0)):=rfl;obtain⟨d,C,B,q,size,u,left,right,A,G,o,m,j⟩:=p;obtain⟨l,t,r,D,y,z,E,F,g,k,a,h⟩:=x;unfold Ai;dsimp only at b⊢;by_cases c:d=2
 ·subst c;rw[AE rfl]at b;go_enter func129,ntmps129;go_wp2_with (go_at_call 126;refine(Cw _ _ _ _).mono ?_;rintro e w' ⟨rfl,f⟩;subst f);go_ret;exact⟨Aa b.o.symm,Ϯ⟩
 ·have s:(d==2)=false:=by simpa using c
  rw[AC c]at b;clear c;go_enter func129,ntmps129;go_wp2;go_ret;exact⟨Aa (by rw[b.o];exact PJ.2 ϥ),Ϯ⟩
theorem FT(p:Pln)(x:PA)(w:ϟ):
 χ 70 #[Ai p x] w (ψ w (.bool (decide (B9 p)))):=by
 have d:=hIz (λ(b:ϟ)=>Qa p x b);have f:=hIz (λ(b:ϟ)=>Qb p x b);have c:ϡ (decide (B9 p)=(Nc p&&Nf p&&A8 p.limit 1 64)):=Ph p;obtain⟨q,j⟩:=nM (Nc p);obtain⟨s,k⟩:=nM (Nf p);rw[j]at d c;rw[k]at f c;clear j k;obtain⟨K,S,R,I,size,M,left,right,Q,W,C,B,z⟩:=p;obtain⟨l,L,r,T,N,O,U,V,g,A,a,y⟩:=x;unfold Ai at d f⊢;dsimp only at d f c⊢
 cases q<;>cases s
 all_goals
  go_enter func70,ntmps70;go_wp2_with (first
   |(go_at_call 128;refine(d.o _).mono ?_;rintro e b ⟨rfl,h⟩;have o:=Ϯ.trans (h.mono ϥ);obtain⟨D,F⟩:=Cx h)
   |(go_at_call 129;refine(f.o _).mono ?_;rintro e X ⟨rfl,m⟩;have t:=bT o m;obtain⟨E,G⟩:=Cx m;have J:w.heap.size<b.heap.size:=by have:=h.size;simp at this;omega)
   |(go_at_call 126;refine(Cw _ _ _ _).mono ?_;rintro e w' ⟨rfl,u⟩;subst u))
  go_ret;refine⟨Aa (by rw[c.o];simp),?_⟩
  first
   |exact t
   |exact o
def AcU(i:Int)(a:Ϡ)(n c:Nat)(w:ϟ):
 χ 131 #[vI i,vS a n c] w (ψ w (.bool (A8 n 1 4))):=by
 go_enter func131,ntmps131;go_wp2_with (go_at_call 126;refine(Cw _ _ _ _).mono ?_;rintro e w' ⟨rfl,b⟩;subst b);go_ret;exact⟨rfl,bR⟩
def Kz(a b c d:Nat):Bool:=A8 a 1 4&&(A8 b 1 4&&(A8 c 1 4&&A8 d 1 4))
theorem Ag4(g:Nat)(h0 h1 b c:Option Addr×Nat×Nat)(w:ϟ)
 (e0:Δ w g 0 (vS h0.1 h0.2.1 h0.2.2)) (d:Δ w g 1 (vS h1.1 h1.2.1 h1.2.2)) (f:Δ w g 2 (vS b.1 b.2.1 b.2.2)) (h:Δ w g 3 (vS c.1 c.2.1 c.2.2)):
 χ 130 #[vS (ϋ g) 4 4,.func (.func 131) #[] #[]] w (ψ w (.bool (Kz h0.2.1 h1.2.1 b.2.1 c.2.1))):=by
 have H:=Sx 131 (IB func131 Ϧ rfl) #[] (λi=>A8 (([h0,h1,b,c]:List (Option Addr×Nat×Nat)).getD i (none,0,0)).2.1 1 4) (ϋ g) 4 [h0,h1,b,c] w ϥ
  (λi m=>by
   match i,m with
   |0,_=>exact⟨g,0,rfl,e0⟩
   |1,_=>exact⟨g,0,rfl,d⟩
   |2,_=>exact⟨g,0,rfl,f⟩
   |3,_=>exact⟨g,0,rfl,h⟩) (λi o _ _=>AcU i _ _ _ o)
 refine H.mono λe w' ⟨k,j⟩=>⟨k.trans (Aa ?_),j⟩;simp[allB,List.range,List.range.loop,Kz]
def M9(p:Pln):Bool:=if p.grouped=true then A8 (ϲ p.aggs) 1 4&&decide ((ϲ p.group:Int)<=8 - ϲ p.aggs)else decide (ϲ p.group=0)&&decide (ϲ p.aggs=0)
def U1(p:Pln):decide (Cl p)=(Kz (ϲ p.left) (ϲ p.right) (ϲ p.lkeys) (ϲ p.rkeys)&&M9 p):=by
 refine(Ex ?_).symm;unfold Cl Kz M9 LK;simp only[G3,Bg];refine and_congr ?_ ?_
 ·omega
 ·split
  ·simp only[G3,Bg,Sh];omega
  ·simp
theorem FR(p:Pln)(x:PA)(w:ϟ)(j:wfPlan p):
 χ 71 #[Ai p x] w (ψ w (.bool (decide (Cl p)))):=by
 have c:ϡ (decide (Cl p)=(Kz (ϲ p.left) (ϲ p.right) (ϲ p.lkeys) (ϲ p.rkeys)&&M9 p)):=U1 p;have F:ϡ (M9 p=if p.grouped=true then A8 (ϲ p.aggs) 1 4&&decide ((ϲ p.group:Int)<=8 - ϲ p.aggs)else decide (ϲ p.group=0)&&decide (ϲ p.aggs=0)):=rfl;have K:=j.g;have L:=j.a;rw[F.o]at c;obtain⟨ai,al,ak,ag,size,aj,left,right,ad,af,G,Z,V⟩:=p;obtain⟨l,M,r,R,N,O,S,T,g,gc,a,ac⟩:=x;unfold Ai;dsimp only at c K L⊢;clear F j;obtain⟨u,B⟩:∃n,ϲ left=n:=⟨_,rfl⟩;obtain⟨y,C⟩:∃n,ϲ right=n:=⟨_,rfl⟩;obtain⟨z,D⟩:∃n,ϲ ad=n:=⟨_,rfl⟩;obtain⟨A,E⟩:∃n,ϲ af=n:=⟨_,rfl⟩;obtain⟨Q,o⟩:∃n,ϲ Z=n:=⟨_,rfl⟩;obtain⟨ae,q⟩:∃n,ϲ V=n:=⟨_,rfl⟩;rw[o]at K;rw[q]at L;rw[B,C,D,E,o,q]at c;rw[B,C,D,E,o,q];clear B C D E o q;have k:ϡ (∀(h:Nat) (d:ϟ),Δ d h 0 (vS l u M)->Δ d h 1 (vS r y R)->Δ d h 2 (vS N z O)->Δ d h 3 (vS S A T)->
  χ 130 #[vS (ϋ h) 4 4,.func (.func 131) #[] #[]] d (ψ d (.bool (Kz u y z A)))):=
  λh d e0 W X Y=>Ag4 h (l,u,M) (r,y,R) (N,z,O) (S,A,T) d e0 W X Y
 obtain⟨sb,J⟩:=nM (Kz u y z A);rw[J]at k c;clear J
 cases sb
 ·cases G
  all_goals
   go_enter func71,ntmps71;go_wp2_with (first
    |(go_at_call 130;refine(k.o _ _ ϧ ϧ ϧ ϧ).mono ?_;rintro e d ⟨rfl,b⟩;have f:=(Ϯ.alloc ϥ _).trans (b.mono Ϩ);obtain⟨s,t⟩:=Cx b))
   go_ret;exact⟨Aa (by rw[c.o];simp),f⟩
 ·cases G
  ·rw[AC Ϥ]at c;by_cases m:Q=0
   ·subst m;go_enter func71,ntmps71;go_wp2_with (first
     |(go_at_call 130;refine(k.o _ _ ϧ ϧ ϧ ϧ).mono ?_;rintro e d ⟨rfl,b⟩;have f:=(Ϯ.alloc ϥ _).trans (b.mono Ϩ);obtain⟨s,t⟩:=Cx b))
    go_ret;exact⟨Aa (by rw[c.o];exact PJ.2 ϥ),f⟩
   ·have ah:((Q:Int)==0)=false:=by simpa using m
    rw[BP m]at c;clear m;go_enter func71,ntmps71;go_wp2_with (first
     |(go_at_call 130;refine(k.o _ _ ϧ ϧ ϧ ϧ).mono ?_;rintro e d ⟨rfl,b⟩;have f:=(Ϯ.alloc ϥ _).trans (b.mono Ϩ);obtain⟨s,t⟩:=Cx b))
    go_ret;exact⟨Aa (by rw[c.o];rfl),f⟩
  ·rw[AE rfl]at c;obtain⟨U,I⟩:=nM (A8 ae 1 4);rw[I]at c
   cases U
   ·go_enter func71,ntmps71;go_wp2_with (first
     |(go_at_call 130;refine(k.o _ _ ϧ ϧ ϧ ϧ).mono ?_;rintro e d ⟨rfl,b⟩;have f:=(Ϯ.alloc ϥ _).trans (b.mono Ϩ);obtain⟨s,t⟩:=Cx b)
     |(go_at_call 126;refine(Cw _ _ _ _).mono ?_;rintro e w' ⟨rfl,j⟩;subst j))
    go_ret;exact⟨Aa (by rw[c.o];rfl),f⟩
   ·have aa:=(Bg _ _ _).1 I;obtain⟨u1,u2⟩:=aa;go_enter func71,ntmps71;go_wp2_with (first
     |(go_at_call 130;refine(k.o _ _ ϧ ϧ ϧ ϧ).mono ?_;rintro e d ⟨rfl,b⟩;have f:=(Ϯ.alloc ϥ _).trans (b.mono Ϩ);obtain⟨s,t⟩:=Cx b)
     |(go_at_call 126;refine(Cw _ _ _ _).mono ?_;rintro e w' ⟨rfl,j⟩;subst j))
    go_ret;exact⟨Aa (by rw[c.o];simp),f⟩
def Tryz.info3:(prog.info? 3).map (λi=>(i.zero,i.size,i.bytes))=some (some (vI 0),1,8):=Ϧ
def Gz(n:Int):Value:=vI n
def Cm(w:World)(base:Nat)(v:Value)(l:List Int):Prop:=w.ownsRow base 3 1 v (ϲ l) (l.map Gz)
def Pj(h:w.ownsRow base e size v n xs)(o:Ϣ w w'):w'.ownsRow base e size v n xs:=by
 refine⟨h.1,?_⟩;rcases h.2 with j|⟨g,d,f,q,k,b,m⟩
 ·exact .inl j
 ·have c:g<w.heap.size:=by
   rcases RN g w.heap.size with c|p
   ·exact c
   ·rw[bZ p]at b;cases b
  exact .inr ⟨g,d,f,q,k,by rw[o.block g c];exact b,m⟩
def I4(b c j:Nat):(⟨b,c,none⟩:Addr).add j=⟨b,c+j,none⟩:=by unfold Addr.add;split<;>simp_all
def Bo(h:w.ownsRow base e size v n xs):∃b c,v=vS b n c/\(0<n->∃g,b=some ⟨g,0,none⟩):=by
 rcases h.2 with⟨rfl,d⟩|⟨g,c,f,rfl,_⟩
 ·exact⟨none,0,by rw[d],λh=>absurd d ϣ⟩
 ·exact⟨_,_,rfl,λ_=>⟨g,rfl⟩⟩
def Eg{ad:Ϡ}{cap:Nat}(h:Cm w base (vS ad n cap) l):Au w ad l/\n=ϲ l:=by
 obtain⟨k,m,j,c⟩:=Bo h;injection j with ha f b
 subst ha b;refine⟨λi d=>?_,f⟩;obtain⟨g,rfl⟩:=c ϣ;have b:=RT h (g:=g) rfl i (Gz (l.getD i 0)) (by simp[L7,gDe,d]);rw[I4]at b;exact⟨g,0,rfl,b⟩
def Kg(v:Value)(h:v.cells.size=1)(n:Nat):(Builtin.zeroCells v.cells n).size=n:=by
 simp[Builtin.zeroCells,h]
theorem AcV(n:Nat)(w:ϟ)(z:n<=1000):
 χ 246 #[ώ,vI n] w λe w'=>(∃v,e= .returned v/\Cm w' w.heap.size v [])/\Ϣ w w':=by
 obtain⟨r,o,q,y,f⟩:=IR Tryz.info3;by_cases t:n=0
 ·subst t;go_enter func246,ntmps246;go_wp2;go_ret;exact⟨⟨_,rfl,KX _ _ _ _⟩,bR⟩
 ·have d:∀g,(Builtin.append_ #[29,3] g #[ώ,vI (n:Int)]).run prog w=
   .ok (vS (ϋ w) n (grownCap w n 0 3)) (w.drew.alloc (.cells (Builtin.zeroCells (Value.int .i64 0).cells n++Builtin.zeroCells (Value.int .i64 0).cells (grownCap w n 0 3 - n)) 3)):=λg=>by
   have h:=Lib.run_append_grow_zeros w 29 3 g 3 r (vI 0) .i64 .i64 underlying29 underlying3 o q none 0 0 [] (run_firstCells_none w.drew r.size 0 0 0) n ϣ ϣ ϣ ϣ (by rw[f];omega) (growslice_fits ϣ (by rw[f];omega));simpa using h
  have u:n<=grownCap w n 0 3:=grownCap_ge w _ _ _;have b:grownCap w n 0 3<=maxLen:=grownCap_le_maxLen w n 0 3 ϭ;obtain⟨G,k⟩:∃G,G=grownCap w n 0 3:=⟨_,rfl⟩;rw[<-k]at d u b;have p:(Builtin.zeroCells (Value.int .i64 0).cells n++Builtin.zeroCells (Value.int .i64 0).cells (G - n)).size=G * 1:=by
   rw[fW,Kg _ rfl,Kg _ rfl];omega
  obtain⟨j,m⟩:∃c,Builtin.zeroCells (Value.int .i64 0).cells n++Builtin.zeroCells (Value.int .i64 0).cells (G - n)=c:=⟨_,rfl⟩;rw[m]at d p;have s:ϡ (Cm (w.drew.alloc (.cells j 3)) w.heap.size (vS (ϋ w) 0 G) []):=eF (base:=w.heap.size) (e:=3) (size:=1) w.drew j G nR b p;have A:0<(n:Int):=ϣ;unfold maxLen at b;clear m k o q y f;go_enter func246,ntmps246;go_wp2_with (at_builtin;refine Lib.wpList_append_run _ rfl _ _ _ _ rfl _ _ rfl rfl _ _ (d _) ?_);go_ret;exact⟨⟨_,rfl,s.o⟩,(bR.drew).alloc nR _⟩
def LM(l:List Int):∀u∈l.map Gz,u.oneCell'=true:=by
 intro u b;obtain⟨n,_,rfl⟩:=DS.1 b;rfl
def I5{b f:Nat}(h:Au w (some ⟨b,f,none⟩) l):∀j u,(l.map Gz)[j]? =some u->w.cell? ((⟨b,f,none⟩:Addr).add j)=some u:=by
 intro j u d;rw[L7]at d;obtain⟨n,c,rfl⟩:=Option.map_eq_some_iff.1 d;obtain⟨g,m⟩:=JT.1 c;obtain⟨k,o,e,x⟩:=h j g
 cases e
 rw[I4,x];simp[gDe,c,Gz]
theorem Xd(g:Nat)(S T:Ϡ)(W X:Nat)(c d:List Int)(w:ϟ)(n1:0<ϲ c)(n2:0<ϲ d)(m1:ϲ c<=400)(m2:ϲ d<=400)(h1:Au w S c)(f:Au w T d)
 (L:Δ w g 0 (vS S (ϲ c) W)) (M:Δ w g 1 (vS T (ϲ d) X)):
 χ 198 #[vS (ϋ g) 2 2] w λe w'=>(∃t Y,e= .returned (vS t (ϲ (c++d)) Y)/\Cm w' w.heap.size (vS t (ϲ (c++d)) Y) (c++d))/\Ϣ w w':=by
 obtain⟨z,hi,af,ag,ah⟩:=IR Tryz.info3;have k:ϡ (prog.info? 3=some z/\z.zero=some (vI 0)/\z.size=1/\z.bytes=8):=⟨hi,af,ag,ah⟩;clear hi af ag ah;obtain⟨U,o1,rfl,_⟩:=h1 0 n1;obtain⟨V,o2,rfl,_⟩:=f 0 n2;have ai:ϡ (∀w',Ϣ w w'->∀j u,(c.map Gz)[j]? =some u->w'.cell? ((⟨U,o1,none⟩:Addr).add j)=some u):=λw' o=>I5 (Al h1 o);have aj:ϡ (∀w',Ϣ w w'->∀j u,(d.map Gz)[j]? =some u->w'.cell? ((⟨V,o2,none⟩:Addr).add j)=some u):=λw' o=>I5 (Al f o);have ac:ϡ (ϲ (c.map Gz)=ϲ c):=lMp ..;have ae:ϡ (ϲ (d.map Gz)=ϲ d):=lMp ..;clear h1 f;obtain⟨p,F⟩:∃n,ϲ c=n:=⟨_,rfl⟩;obtain⟨A,G⟩:∃n,ϲ d=n:=⟨_,rfl⟩;have D:ϡ (ϲ c=p):=F;have Q:ϡ (ϲ d=A):=G;rw[F]at n1 m1 L ac;rw[G]at n2 m2 M ae;rw[lAp,F,G];clear F G;have HG:ϡ (∀q,CT 246 #[ώ,vI ((p:Int)+A)] q λe w'=>(∃v,e= .returned v/\Cm w' q.heap.size v [])/\Ϣ q w'):=λq=>by
  have h:=AcV (p+A) q ϣ;rwa[dN]at h
 go_enter func198,ntmps198;go_wp2
 go_loop [3,11] (λs i=>(i=vI 0/\s=vI 0)\/(i=vI 1/\s=vI p)\/(i=vI 2/\s=vI ((p:Int)+A))) (λ_ i=>2 - (intOf i).toNat)
 case atStart=>exact .inl ⟨rfl,rfl⟩
 case round=>
  rcases hrel with⟨rfl,rfl⟩|⟨rfl,rfl⟩|⟨rfl,rfl⟩
  ·go_wp2
   go_round
   case rel=>exact .inr (.inl ⟨rfl,rfl⟩)
   case measure=>simp[intOf]
  ·go_wp2
   go_round
   case rel=>exact .inr (.inr ⟨rfl,rfl⟩)
   case measure=>simp[intOf]
  ·go_wp2_with fail;refine(HG.o _).mono ?_;rintro e q ⟨⟨v,rfl,ab⟩,E⟩;have f1:=cLz E L;have f2:=cLz E M;have R:ϡ (Cm q w.heap.size v []):=ab;clear ab;go_wp2
   go_loopw [6,27] (λx i wr=> ∃l:List Int,((i=vI 0/\l=[])\/(i=vI 1/\l=c)\/(i=vI 2/\l=c++d))/\Cm wr w.heap.size x l/\Ϣ w wr) (λ_ i _=>2 - (intOf i).toNat)
   case atStart=>exact⟨[],.inl ⟨rfl,rfl⟩,R.o,E⟩
   case round=>
    obtain⟨l,hl,aa,m⟩:=hrel;have g1:=cLz m L;have g2:=cLz m M;have r:ϡ (Cm wr w.heap.size u6 l):=aa;have I:=m.size;clear aa f1 f2 E R;have ak:(u27=vI 0/\[]=l)\/(u27=vI 1/\c=l)\/(u27=vI 2/\c++d=l):=by
     rcases hl with⟨h1,f⟩|⟨h1,f⟩|⟨h1,f⟩
     ·exact .inl ⟨h1,f.symm⟩
     ·exact .inr (.inl ⟨h1,f.symm⟩)
     ·exact .inr (.inr ⟨h1,f.symm⟩)
    clear hl;rcases ak with⟨rfl,rfl⟩|⟨rfl,rfl⟩|⟨rfl,rfl⟩
    ·go_wp2_with (at_builtin;refine Vc _ rfl (.tmp 31) (.tmp 32) 29 rfl w.heap.size 3 z (vI 0) 1 8 underlying29 k.o.1 k.o.2.1 k.o.2.2.1 k.o.2.2.2 rfl Ϥ _ _ _ rfl r.o ⟨U,o1,none⟩ p W (c.map Gz) rfl (by rw[ac.o,cQ]) (ai.o _ m) (LM c) (by unfold maxLen;(simp only[NS];omega)) (by(simp only[NS];omega)) I ?_;intro O C B N am);have J:ϡ (Cm C w.heap.size O (c)):=by
      show C.ownsRow _ _ _ _ (ϲ (c)) ((c).map Gz);simpa[D.o]using B
     obtain⟨t,K,y,Z⟩:=Bo B;subst y;go_roundw
     case rel=>exact⟨c,.inr (.inl ⟨rfl,rfl⟩),J.o,m.grown N I (λb o=>(aB r.o b o).1)⟩
     case measure=>simp[intOf]
    ·go_wp2_with (at_builtin;refine Vc _ rfl (.tmp 31) (.tmp 32) 29 rfl w.heap.size 3 z (vI 0) 1 8 underlying29 k.o.1 k.o.2.1 k.o.2.2.1 k.o.2.2.2 rfl Ϥ _ _ _ rfl r.o ⟨V,o2,none⟩ A X (d.map Gz) rfl (by rw[ae.o,cQ]) (aj.o _ m) (LM d) (by unfold maxLen;(rw[D.o];omega)) (by(rw[D.o];omega)) I ?_;intro O C B N am);have J:ϡ (Cm C w.heap.size O (c++d)):=by
      show C.ownsRow _ _ _ _ (ϲ (c++d)) ((c++d).map Gz);rw[lAp,DQ,Q.o];exact B
     obtain⟨t,K,y,Z⟩:=Bo B;subst y;go_roundw
     case rel=>exact⟨c++d,.inr (.inr ⟨rfl,rfl⟩),J.o,m.grown N I (λb o=>(aB r.o b o).1)⟩
     case measure=>simp[intOf]
    ·obtain⟨t,K,y,Z⟩:=Bo r.o;have al:ϲ (c++d)=p+A:=by rw[lAp,D.o,Q.o]
     rw[al]at y;subst y;go_wp2;go_ret;exact⟨⟨t,K,rfl,r.o⟩,m⟩
theorem EJ(p:Pln)(x:PA)(w:ϟ)(k:planAt w p x)(y:0<ϲ p.left)(z:0<ϲ p.right)(t:ϲ p.left<=400)(u:ϲ p.right<=400):
 χ 133 #[Ai p x] w λe w'=>(∃d f,e= .returned (vS d (ϲ (A5 p)) f)/\Cm w' w.heap.size (vS d (ϲ (A5 p)) f) (A5 p))/\Ϣ w w':=by
 have K:ϡ (∀g b,Ϣ w b->Δ b g 0 (vS x.l (ϲ p.left) x.lc)->Δ b g 1 (vS x.r (ϲ p.right) x.rc)->
  χ 198 #[vS (ϋ g) 2 2] b λe w'=>(∃d f,e= .returned (vS d (ϲ (A5 p)) f)/\Cm w' b.heap.size (vS d (ϲ (A5 p)) f) (A5 p))/\Ϣ b w'):=
  λg b m B C=>Xd g x.l x.r x.lc x.rc p.left p.right b y z t u (Al k.l m) (Al k.r m) B C
 obtain⟨L,o⟩:=nM (ϲ (A5 p));rw[o]at K⊢;clear o;obtain⟨M,q⟩:=nM (A5 p);rw[q]at K⊢;clear q k y z t u;obtain⟨S,Z,Y,R,size,U,left,right,X,ab,Q,O,J⟩:=p;obtain⟨l,T,r,rc,V,W,rk,aa,g,N,a,I⟩:=x;unfold Ai;dsimp only at K⊢;obtain⟨n6,h⟩:∃n,ϲ left=n:=⟨_,rfl⟩;obtain⟨n7,j⟩:∃n,ϲ right=n:=⟨_,rfl⟩;rw[h,j]at K;rw[h,j];clear h j;go_enter func133,ntmps133;go_wp2_with (go_at_call 198;refine(K.o _ _ (Ϯ.alloc ϥ _) ϧ ϧ).mono ?_;rintro e b ⟨⟨d,f,rfl,s⟩,G⟩);go_ret;exact⟨⟨d,f,rfl,⟨s.1,s.2.imp id (λ⟨g,c,A,D,E,F⟩=>⟨g,c,A,D,by simp at E;omega,F⟩)⟩⟩,(Ϯ.alloc ϥ _).trans (G.mono Ϩ)⟩
def AcW(i c:Int)(w:ϟ):
 χ 134 #[vI i,vI c] w (ψ w (.bool (A8 c 1 3))):=by
 go_enter func134,ntmps134;go_wp2_with (go_at_call 126;refine(Cw _ _ _ _).mono ?_;rintro e w' ⟨rfl,b⟩;subst b);go_ret;exact⟨rfl,bR⟩
def MA(p:Pln):decide (CE p)=allB (ϲ (A5 p)) (λi=>A8 ((A5 p).getD i 0) 1 3):=by
 refine(Ex ?_).symm;unfold CE;rw[AA];simp only[Bg];exact Fo (Q:=λc:Int=>1<=c/\c<=3)
theorem Pk(p:Pln)(x:PA)(w:ϟ)(k:planAt w p x)(s:0<ϲ p.left)(t:0<ϲ p.right)(o:ϲ p.left<=400)(q:ϲ p.right<=400):
 χ 72 #[Ai p x] w (ψ w (.bool (decide (CE p)))):=by
 have K:ϡ (∀b,Ϣ w b->CT 133 #[Ai p x] b λe w'=>(∃c d,e= .returned (vS c (ϲ (A5 p)) d)/\Cm w' b.heap.size (vS c (ϲ (A5 p)) d) (A5 p))/\Ϣ b w'):=
  λb y=>EJ p x b (Ae k y) s t o q
 have C:ϲ (A5 p)<=800:=by unfold A5;rw[lAp];omega
 have f:ϡ (∀c d b,Au b c (A5 p)->CT 132 #[vS c (ϲ (A5 p)) d,.func (.func 134) #[] #[]] b (ψ b (.bool (decide (CE p))))):=by
  intro c d b D;rw[MA];exact I3 134 (IB func134 Ϧ rfl) #[] (λi=>A8 ((A5 p).getD i 0) 1 3) c d (A5 p) b ϣ D (λi u _ _=>AcW i _ u)
 obtain⟨tb,m⟩:=nM (decide (CE p));rw[m]at f⊢;obtain⟨I,h⟩:=nM (ϲ (A5 p));rw[h]at K f;obtain⟨J,j⟩:=nM (A5 p);rw[j]at K f;clear j C h m k s t o q;obtain⟨Q,X,W,O,size,S,left,right,V,ab,N,M,G⟩:=p;obtain⟨l,R,r,Y,T,U,Z,aa,g,L,a,F⟩:=x;unfold Ai at K⊢;dsimp only at K⊢;go_enter func72,ntmps72;go_wp2_with (first
  |(go_at_call 133;refine(K.o _ Ϯ).mono ?_;rintro e b ⟨⟨c,d,rfl,E⟩,z⟩;have B:=Ϯ.trans (z.mono ϥ))
  |(go_at_call 132;refine(f.o _ _ _ (Eg E).1).mono ?_;rintro e u ⟨rfl,A⟩))
 go_ret;exact⟨rfl,bT B A⟩
def Sz(l:List Int)(x:Int):Int:=if l.findIdx (· ==x)<ϲ l then((l.findIdx (· ==x):Nat):Int)else -1
def AcX{k:Nat}(b:k<ϲ l)(h:l.getD k 0=x)(d:∀i,i<k->l.getD i 0≠x):Sz l x=k:=by
 have e:l.findIdx (· ==x)=k:=by
  rw[findIdx_eq b];refine⟨by simpa[gDe,b]using h,λj c=>?_⟩;have:=d j c;simpa[gDe,show j<ϲ l by omega]using this
 unfold Sz;rw[e,AE b]
def AcY(d:∀i,i<ϲ l->l.getD i 0≠x):Sz l x= -1:=by
 unfold Sz;rw[AC];intro h;have c:=findIdx_getElem (w:=h);have b:=d _ h;simp only[gDe,gEe h,bF]at b;exact b (by simpa using c)
theorem Aap(a:Ϡ)(cap:Nat)(l:List Int)(x:Int)(w:ϟ)(t:ϲ l<=ύ)(ha:Au w a l):
 χ 202 #[vS a (ϲ l) cap,vI x] w λe w'=>e= .returned (vI (Sz l x))/\w'=w:=by
 obtain⟨n,m⟩:∃n,ϲ l=n:=⟨_,rfl⟩;have j:ϡ (ϲ l=n):=m;rw[m]at t⊢;clear m;go_enter func202,ntmps202;go_wp2
 go_loop [8] (λi=> ∃k:Nat,k<=n/\i=vI k/\∀i,i<k->l.getD i 0≠x) (λi=>n - (intOf i).toNat)
 case atStart=>exact⟨0,At _,rfl,λi d=>absurd d (CA i)⟩
 case round=>
  obtain⟨k,A,rfl,r⟩:=hrel;have g:ϡ (∀i,i<k->l.getD i 0≠x):=r;clear r;by_cases s:k<n
  ·obtain⟨b,o,e,u⟩:=ha k (by rw[j.o];exact s);subst e;clear ha;have B:=nn0 k;have C:(k:Int)<(n:Int):=ϣ;obtain⟨z,p⟩:=nM (l.getD k 0);have q:ϡ (l.getD k 0=z):=p;rw[p]at u;clear p;by_cases f:x=z
   ·subst f;have c:ϡ (Sz l x=k):=AcX (by rw[j.o];exact s) q.o g.o;go_wp2;go_ret;exact⟨Ad c.o.symm,rfl⟩
   ·have y:(x==z)=false:=by simpa using f
    have c:ϡ (l.getD k 0≠x):=by show l.getD k 0≠x;rw[q.o];exact λh=>f h.symm
    clear f;go_wp2
    go_round
    case rel=>exact⟨k+1,ϣ,by go_num,λi d=>by
     rcases Fm.1 d with h|h
     ·exact g.o i h
     ·rw[h];exact c.o⟩
    case measure=>simp[intOf];omega
  ·have c:ϡ (Sz l x= -1):=AcY (λi d=>g.o i (by rw[j.o]at d;omega));go_wp2;go_ret;exact⟨Ad c.o.symm,rfl⟩
def FM(x:Int)(a:Ϡ)(n cap:Nat)(w:ϟ)(c:n<=9223372036854775807):
 χ 201 #[vI x,vS a n cap] w λe w'=>e= .returned (.bool (A8 x 0 ((n:Int) - 1)))/\w'=w:=by
 go_enter func201,ntmps201;go_wp2_with (go_at_call 126;refine(Cw _ _ _ _).mono ?_;rintro e w' ⟨rfl,b⟩;subst b);go_ret;exact⟨rfl,rfl⟩
def Pm(l:List Int)(n:Nat)(i:Nat):Bool:=A8 (l.getD i 0) 0 ((n:Int) - 1)&&decide (Sz l (l.getD i 0)=i)
def Fp(h:i<ϲ l):l.getD i 0=l[i]:=by simp[gDe,h]
def Xe(l:List Int)(n:Nat):decide (Bj l n)=allB (ϲ l) (Pm l n):=by
 refine(Ex ?_).symm;rw[AA];unfold Bj Pm;simp only[G3,Bg,Sh]
 constructor
 ·intro h;refine⟨(Fo (Q:=λx:Int=>0<=x/\x<(n:Int))).1 (λi b=>⟨(h i b).1.1,by have:=(h i b).1.2;omega⟩),?_⟩;rw[aA];intro i j b f m e;have g:=(h i b).2;have c:=(h j f).2;rw[Fp b]at g;rw[Fp f,<-e]at c;omega
 ·intro ⟨g,c⟩ i b;have k:=g _ (CS (d:=0) b);refine⟨⟨k.1,ϣ⟩,AcX b rfl (λj f=>?_)⟩;rw[aA]at c;rw[Fp b,Fp ϣ];exact c j i ϣ b f
theorem Afg(i:Nat)(f g:Nat)(b s:Ϡ)(j t n:Nat)(l:List Int)(w:ϟ)(k:ϲ l<=ύ)(u:n<=9223372036854775807)(ha:Au w b l)
 (y:Δ w g 0 (vS s n t)) (h1:Δ w f 0 (vS b (ϲ l) j)):
 χ 200 #[vI i,vI (l.getD i 0),ω g,ω f] w (ψ w (.bool (Pm l n i))):=by
 have K:=hIz (λ(q:ϟ) x (h:Au q b l)=>Aap b j l x q k h);have c:ϡ (Pm l n i=(A8 (l.getD i 0) 0 ((n:Int) - 1)&&decide (Sz l (l.getD i 0)=i))):=rfl;obtain⟨z,p⟩:=nM (l.getD i 0);rw[p]at c⊢;obtain⟨m,o⟩:=nM (ϲ l);rw[o]at K h1;have r:ϡ (Au w b l):=ha;clear p o ha k
 cases hb:A8 z 0 ((n:Int) - 1)<;>rw[hb]at c
 all_goals
  go_enter func200,ntmps200;go_wp2_with (first
   |(go_at_call 201;refine(FM _ _ _ _ _ u).mono ?_;rintro e w' ⟨rfl,d⟩;subst d)
   |(go_at_call 202;refine(K.o _ _ r.o).mono ?_;rintro e w' ⟨rfl,d⟩;subst d))
  go_ret;exact⟨Aa (by rw[c.o];exact PJ.2 ϥ),bR⟩
theorem FU(b h:Ϡ)(g j n:Nat)(l:List Int)(w:ϟ)(o:ϲ l<=ύ)(r:n<=9223372036854775807)(ha:Au w b l):
 χ 136 #[vS b (ϲ l) g,vS h n j] w (ψ w (.bool (decide (Bj l n)))):=by
 have K:ϡ (∀d f c,Au c b l->Δ c f 0 (vS h n j)->Δ c d 0 (vS b (ϲ l) g)->
  χ 132 #[vS b (ϲ l) g,.func (.func 200) #[] #[ω f,ω d]] c (ψ c (.bool (decide (Bj l n))))):=by
  intro d f c p y u;rw[Xe];exact I3 200 (IB func200 Ϧ rfl) #[ω f,ω d] (Pm l n) b g l c o p (λi A _ k=>Afg i d f b h g j n l A o r (Al p k) (cLz k y) (cLz k u))
 obtain⟨m,q⟩:=nM (ϲ l);rw[q]at K⊢;obtain⟨B,s⟩:=nM (decide (Bj l n));rw[s]at K⊢;have t:ϡ (Au w b l):=ha;clear q s ha o r;go_enter func136,ntmps136;go_wp2_with (go_at_call 132;refine(K.o _ _ _ (Al t.o (Ϯ.alloc ϥ _)) ϧ ϧ).mono ?_;rintro e c ⟨rfl,z⟩);go_ret;exact⟨rfl,(Ϯ.alloc ϥ _).trans (z.mono Ϩ)⟩
def Yt(g:Bool)(l:List (Int×Int))(k:Nat):Prop:=g=true->∀i,i<k->A8 (l.getD i (0,0)).1 1 4=true
def JF(p:Pln):decide (Bs p)=(A8 p.kind 1 3&&A8 p.mode 1 (if p.kind=3 then 2 else 4)&&(!p.grouped||JS p.aggs)):=by
 refine(Ex ?_).symm;simp only[G3,cX,Bg,Uz,Bs,bA,dM]
 cases p.grouped<;>simp
def Yu{l:List (Int×Int)}(b:i<ϲ l)(h:A8 (l.getD i (0,0)).1 1 4=false):JS l=false:=CK b h
def U2{l:List (Int×Int)}(h:∀i,i<ϲ l->A8 (l.getD i (0,0)).1 1 4=true):JS l=true:=AA.2 h
def Afh{b:Int}(h:A8 b 1 4=true):A8 b 1 2=decide (¬2<b):=by
 have:=(Bg _ _ _).1 h;unfold A8;by_cases c:2<b
 ·rw[BP ϣ,BP ϣ]
 ·rw[DB ϣ,DB ϣ]
theorem Hn(p:Pln)(x:PA)(w:ϟ)(O:DK w x.a p.aggs)(W:ϲ p.aggs<=ύ):
 χ 84 #[Ai p x] w (ψ w (.bool (!decide (Bs p)))):=by
 have q:ϡ ((!decide (Bs p))= !(A8 p.kind 1 3&&A8 p.mode 1 (if p.kind=3 then 2 else 4)&&(!p.grouped||JS p.aggs))):=by show(!decide (Bs p))=_;rw[JF]
 obtain⟨f,X⟩:=nM (!decide (Bs p));rw[X]at q⊢;clear X;have K:ϡ (∀i,i<ϲ p.aggs->A8 (p.aggs.getD i (0,0)).1 1 4=false->JS p.aggs=false):=λi j h=>Yu j h;have M:ϡ ((∀i,i<ϲ p.aggs->A8 (p.aggs.getD i (0,0)).1 1 4=true)->JS p.aggs=true):=U2;obtain⟨A,C,ah,ab,size,ae,left,right,ag,aj,s,aa,d⟩:=p;obtain⟨l,lc,r,rc,lk,af,rk,ai,g,gc,a,ac⟩:=x;unfold Ai;dsimp only at q K M O W⊢;obtain⟨t,N⟩:∃n,ϲ d=n:=⟨_,rfl⟩;have R:ϡ (ϲ d=t):=N;rw[N]at K M W⊢;clear N;have S:ϡ (DK w a d):=O;clear O
 cases h0:A8 A 1 3 with
 |false=>
  rw[h0]at q;go_enter func84,ntmps84;go_wp2_with
   (go_at_call 83;refine(An _ _ _ _).mono ?_;rintro e w' ⟨rfl,c⟩;subst c)
  go_ret;exact⟨Aa (by rw[q.o];rfl),Ϯ⟩
 |true=>
  rw[h0]at q
  cases h1:A8 C 1 4 with
  |false=>
   have B:ϡ (f=true):=by
    show f=true;rw[q.o];by_cases m:A=3
    ·rw[AE m];have:A8 C 1 2=false:=(CC _ _ _).2 (by have:=(CC _ _ _).1 h1;omega);rw[this];rfl
    ·rw[AC m,h1];rfl
   go_enter func84,ntmps84;go_wp2_with
    (go_at_call 83;refine(An _ _ _ _).mono ?_;rintro e w' ⟨rfl,c⟩;subst c)
   go_ret;exact⟨Aa B.o.symm,Ϯ⟩
  |true=>
   have L:=Afh h1;by_cases T:A=3/\2<C
   ·obtain⟨rfl,hm⟩:=T;rw[AE rfl,L,BP ϣ]at q;clear L;go_enter func84,ntmps84;go_wp2_with
     (go_at_call 83;refine(An _ _ _ _).mono ?_;rintro e w' ⟨rfl,c⟩;subst c)
    go_ret;exact⟨Aa (by rw[q.o];rfl),Ϯ⟩
   ·have B:ϡ (f= !(!s||JS d)):=by
     show f=_;rw[q.o];by_cases m:A=3
     ·rw[AE m,L,DB ϣ];rfl
     ·rw[AC m,h1];rfl
    clear q L;have V:A≠3\/C<=2:=ϣ;clear T;rcases V with m|m
    ·have U:(A==3)=false:=by simpa using m
     clear m;go_enter func84,ntmps84;go_wp2_with
      (go_at_call 83;refine(An _ _ _ _).mono ?_;rintro e w' ⟨rfl,c⟩;subst c)
     go_loop [3] (λi=> ∃k:Nat,k<=t/\i=vI k/\(s=true->∀i,i<k->A8 (d.getD i (0,0)).1 1 4=true)) (λi=>t - (intOf i).toNat)
     case atStart=>exact⟨0,At _,rfl,λ_ i j=>absurd j (CA i)⟩
     case round=>
      obtain⟨k,m,rfl,F⟩:=hrel;have D:Yt s d k:=F;clear F;by_cases I:k<t
      ·obtain⟨b,o,e,J,Q⟩:=S.o k (by rw[R.o];exact I);subst e;have G:=bLt _ _ J;have Y:b<w.heap.size:=G;have Z:=nn0 k;have i2:(k:Int)<(t:Int):=ϣ;obtain⟨z,y⟩:=nM ((d.getD k (0,0)).1);have E:ϡ ((d.getD k (0,0)).1=z):=y;rw[y]at J;clear Q G y
       cases s with
       |false=>
        go_wp2
        go_round
        case rel=>exact⟨k+1,ϣ,by go_num,λh=>absurd h Ϥ⟩
        case measure=>simp[intOf];omega
       |true=>
        cases hf:A8 z 1 4 with
        |true=>
         go_wp2_with
          (go_at_call 83;refine(An _ _ _ _).mono ?_;rintro e w' ⟨rfl,c⟩;subst c)
         go_round
         case rel=>exact⟨k+1,ϣ,by go_num,λ_ i j=>by
          rcases Fm.1 j with h|h
          ·exact D rfl i h
          ·rw[h,E.o];exact hf⟩
         case measure=>simp[intOf];omega
        |false=>
         have u:ϡ (f=true):=by
          show f=true;rw[B.o,K.o k I (by rw[E.o];exact hf)];rfl
         go_wp2_with
          (go_at_call 83;refine(An _ _ _ _).mono ?_;rintro e w' ⟨rfl,c⟩;subst c)
         go_ret;exact⟨Aa u.o.symm,Ϯ⟩
      ·have u:ϡ (f=false):=by
        show f=false;rw[B.o]
        cases hg:s with
        |false=>rfl
        |true=>rw[M.o (λi j=>D hg i ϣ)];rfl
       go_wp2;go_ret;exact⟨Aa u.o.symm,Ϯ⟩
    ·have U:¬2<C:=ϣ;have ad:decide (2<C)=false:=BP U
     cases V:(A==3)
     all_goals
      go_enter func84,ntmps84;go_wp2_with
       (go_at_call 83;refine(An _ _ _ _).mono ?_;rintro e w' ⟨rfl,c⟩;subst c)
      go_loop [3] (λi=> ∃k:Nat,k<=t/\i=vI k/\(s=true->∀i,i<k->A8 (d.getD i (0,0)).1 1 4=true)) (λi=>t - (intOf i).toNat)
      case atStart=>exact⟨0,At _,rfl,λ_ i j=>absurd j (CA i)⟩
      case round=>
       obtain⟨k,m,rfl,F⟩:=hrel;have D:Yt s d k:=F;clear F;by_cases I:k<t
       ·obtain⟨b,o,e,J,Q⟩:=S.o k (by rw[R.o];exact I);subst e;have G:=bLt _ _ J;have Y:b<w.heap.size:=G;have Z:=nn0 k;have i2:(k:Int)<(t:Int):=ϣ;obtain⟨z,y⟩:=nM ((d.getD k (0,0)).1);have E:ϡ ((d.getD k (0,0)).1=z):=y;rw[y]at J;clear Q G y
        cases s with
        |false=>
         go_wp2
         go_round
         case rel=>exact⟨k+1,ϣ,by go_num,λh=>absurd h Ϥ⟩
         case measure=>simp[intOf];omega
        |true=>
         cases hf:A8 z 1 4 with
         |true=>
          go_wp2_with
           (go_at_call 83;refine(An _ _ _ _).mono ?_;rintro e w' ⟨rfl,c⟩;subst c)
          go_round
          case rel=>exact⟨k+1,ϣ,by go_num,λ_ i j=>by
           rcases Fm.1 j with h|h
           ·exact D rfl i h
           ·rw[h,E.o];exact hf⟩
          case measure=>simp[intOf];omega
         |false=>
          have u:ϡ (f=true):=by
           show f=true;rw[B.o,K.o k I (by rw[E.o];exact hf)];rfl
          go_wp2_with
           (go_at_call 83;refine(An _ _ _ _).mono ?_;rintro e w' ⟨rfl,c⟩;subst c)
          go_ret;exact⟨Aa u.o.symm,Ϯ⟩
       ·have u:ϡ (f=false):=by
         show f=false;rw[B.o]
         cases hg:s with
         |false=>rfl
         |true=>rw[M.o (λi j=>D hg i ϣ)];rfl
        go_wp2;go_ret;exact⟨Aa u.o.symm,Ϯ⟩
theorem Jq(p:Pln)(x:PA)(w:ϟ):
 χ 85 #[Ai p x] w (ψ w (.bool (!decide (B9 p)))):=by
 have c:ϡ ((!decide (B9 p))= !(Nc p&&Nf p&&A8 p.limit 1 64)):=by show(!decide (B9 p))=_;rw[Ph]
 have s:ϡ (Nc p=if p.kind=1 then tm.Br p.low&&tm.Br p.high else decide (p.low=0)&&decide (p.high=0)):=rfl;have t:ϡ (Nf p=if p.kind=2 then A8 p.size 1 1099511627776 else decide (p.size=0)):=rfl;obtain⟨T,u⟩:=nM (!decide (B9 p));rw[u]at c⊢;rw[s.o,t.o]at c;clear u s t;obtain⟨k,R,q,o,size,M,left,right,Q,W,D,C,A⟩:=p;obtain⟨l,L,r,S,N,O,U,V,g,B,a,z⟩:=x;unfold Ai;dsimp only at c⊢;by_cases f:k=1
 ·subst f;rw[AE rfl,AC Ϥ]at c
  cases j:tm.Br q<;>rw[j]at c
  ·go_enter func85,ntmps85;go_wp2_with
    (first|(go_at_call 83;refine(An _ _ _ _).mono ?_;rintro e w' ⟨rfl,b⟩;subst b)|(go_at_call 148;refine(tm.B7 _ _).mono ?_;rintro e w' ⟨rfl,b⟩;subst b))
   go_ret;exact⟨Aa (by rw[c.o];first|rfl|simp),Ϯ⟩
  ·cases h:tm.Br o<;>rw[h]at c
   ·go_enter func85,ntmps85;go_wp2_with
     (first|(go_at_call 83;refine(An _ _ _ _).mono ?_;rintro e w' ⟨rfl,b⟩;subst b)|(go_at_call 148;refine(tm.B7 _ _).mono ?_;rintro e w' ⟨rfl,b⟩;subst b))
    go_ret;exact⟨Aa (by rw[c.o];first|rfl|simp),Ϯ⟩
   ·by_cases d:size=0
    ·subst d;go_enter func85,ntmps85;go_wp2_with
      (first|(go_at_call 83;refine(An _ _ _ _).mono ?_;rintro e w' ⟨rfl,b⟩;subst b)|(go_at_call 148;refine(tm.B7 _ _).mono ?_;rintro e w' ⟨rfl,b⟩;subst b))
     go_ret;exact⟨Aa (by rw[c.o];first|rfl|simp),Ϯ⟩
    ·have y:(size !=0)=true:=by simpa using d
     rw[BP d]at c;clear d;go_enter func85,ntmps85;go_wp2_with
      (first|(go_at_call 83;refine(An _ _ _ _).mono ?_;rintro e w' ⟨rfl,b⟩;subst b)|(go_at_call 148;refine(tm.B7 _ _).mono ?_;rintro e w' ⟨rfl,b⟩;subst b))
     go_ret;exact⟨Aa (by rw[c.o];first|rfl|simp),Ϯ⟩
 ·rw[AC f]at c;have E:(k==1)=false:=by simpa using f
  have F:(k !=1)=true:=by simpa using f
  by_cases j:q=0
  ·subst j;rw[show decide ((0:Int)=0)=true by decide]at c;by_cases h:o=0
   ·subst h;rw[show decide ((0:Int)=0)=true by decide]at c;by_cases m:k=2
    ·subst m;rw[AE rfl]at c
     cases d:A8 size 1 1099511627776<;>rw[d]at c
     all_goals
      go_enter func85,ntmps85;go_wp2_with
       (first|(go_at_call 83;refine(An _ _ _ _).mono ?_;rintro e w' ⟨rfl,b⟩;subst b)|(go_at_call 148;refine(tm.B7 _ _).mono ?_;rintro e w' ⟨rfl,b⟩;subst b))
      go_ret;exact⟨Aa (by rw[c.o];first|rfl|simp),Ϯ⟩
    ·rw[AC m]at c;have G:(k==2)=false:=by simpa using m
     have I:(k !=2)=true:=by simpa using m
     clear f m;by_cases d:size=0
     ·subst d;go_enter func85,ntmps85;go_wp2_with
       (first|(go_at_call 83;refine(An _ _ _ _).mono ?_;rintro e w' ⟨rfl,b⟩;subst b)|(go_at_call 148;refine(tm.B7 _ _).mono ?_;rintro e w' ⟨rfl,b⟩;subst b))
      go_ret;exact⟨Aa (by rw[c.o];first|rfl|simp),Ϯ⟩
     ·have y:(size !=0)=true:=by simpa using d
      rw[BP d]at c;clear d;go_enter func85,ntmps85;go_wp2_with
       (first|(go_at_call 83;refine(An _ _ _ _).mono ?_;rintro e w' ⟨rfl,b⟩;subst b)|(go_at_call 148;refine(tm.B7 _ _).mono ?_;rintro e w' ⟨rfl,b⟩;subst b))
      go_ret;exact⟨Aa (by rw[c.o];first|rfl|simp),Ϯ⟩
   ·have J:(o !=0)=true:=by simpa using h
    rw[BP h]at c;clear h f;go_enter func85,ntmps85;go_wp2_with
     (first|(go_at_call 83;refine(An _ _ _ _).mono ?_;rintro e w' ⟨rfl,b⟩;subst b)|(go_at_call 148;refine(tm.B7 _ _).mono ?_;rintro e w' ⟨rfl,b⟩;subst b))
    go_ret;exact⟨Aa (by rw[c.o];first|rfl|simp),Ϯ⟩
  ·have K:(q !=0)=true:=by simpa using j
   rw[BP j]at c;clear j f;go_enter func85,ntmps85;go_wp2_with
    (first|(go_at_call 83;refine(An _ _ _ _).mono ?_;rintro e w' ⟨rfl,b⟩;subst b)|(go_at_call 148;refine(tm.B7 _ _).mono ?_;rintro e w' ⟨rfl,b⟩;subst b))
   go_ret;exact⟨Aa (by rw[c.o];first|rfl|simp),Ϯ⟩
theorem Qc(p:Pln)(x:PA)(w:ϟ)(b:wfPlan p):
 χ 86 #[Ai p x] w (ψ w (.bool (!decide (Cl p)))):=by
 have c:ϡ ((!decide (Cl p))= !(A8 (ϲ p.left) 1 4&&(A8 (ϲ p.right) 1 4&&(A8 (ϲ p.lkeys) 1 4&&A8 (ϲ p.rkeys) 1 4))&&M9 p)):=by show(!decide (Cl p))=_;rw[U1];rfl
 have q:ϡ (M9 p=if p.grouped=true then A8 (ϲ p.aggs) 1 4&&decide ((ϲ p.group:Int)<=8 - ϲ p.aggs)else decide (ϲ p.group=0)&&decide (ϲ p.aggs=0)):=rfl;rw[q.o]at c;obtain⟨W,s⟩:=nM (!decide (Cl p));rw[s]at c⊢;have t:=b.g;have u:=b.a;clear s q b;obtain⟨M,T,S,L,size,O,left,right,B,G,A,z,y⟩:=p;obtain⟨l,N,r,V,Q,R,X,Y,g,J,a,I⟩:=x;unfold Ai;dsimp only at c t u⊢;obtain⟨C,h⟩:∃n,ϲ left=n:=⟨_,rfl⟩;obtain⟨D,j⟩:∃n,ϲ right=n:=⟨_,rfl⟩;obtain⟨E,k⟩:∃n,ϲ B=n:=⟨_,rfl⟩;obtain⟨F,m⟩:∃n,ϲ G=n:=⟨_,rfl⟩;obtain⟨U,f⟩:∃n,ϲ z=n:=⟨_,rfl⟩;obtain⟨o,d⟩:∃n,ϲ y=n:=⟨_,rfl⟩;rw[h,j,k,m,f,d]at c;rw[f]at t;rw[d]at u;rw[h,j,k,m,f,d];clear h j k m f d
 cases b6:A8 C 1 4<;>rw[b6]at c
 ·go_enter func86,ntmps86;go_wp2_with
   (first|(go_at_call 83;refine(An _ _ _ _).mono ?_;rintro e w' ⟨rfl,b⟩;subst b)|(go_at_call 148;refine(tm.B7 _ _).mono ?_;rintro e w' ⟨rfl,b⟩;subst b))
  go_ret;exact⟨Aa (by rw[c.o];first|rfl|simp),Ϯ⟩
 cases b7:A8 D 1 4<;>rw[b7]at c
 ·go_enter func86,ntmps86;go_wp2_with
   (first|(go_at_call 83;refine(An _ _ _ _).mono ?_;rintro e w' ⟨rfl,b⟩;subst b)|(go_at_call 148;refine(tm.B7 _ _).mono ?_;rintro e w' ⟨rfl,b⟩;subst b))
  go_ret;exact⟨Aa (by rw[c.o];first|rfl|simp),Ϯ⟩
 cases b8:A8 E 1 4<;>rw[b8]at c
 ·go_enter func86,ntmps86;go_wp2_with
   (first|(go_at_call 83;refine(An _ _ _ _).mono ?_;rintro e w' ⟨rfl,b⟩;subst b)|(go_at_call 148;refine(tm.B7 _ _).mono ?_;rintro e w' ⟨rfl,b⟩;subst b))
  go_ret;exact⟨Aa (by rw[c.o];first|rfl|simp),Ϯ⟩
 cases b9:A8 F 1 4<;>rw[b9]at c
 ·go_enter func86,ntmps86;go_wp2_with
   (first|(go_at_call 83;refine(An _ _ _ _).mono ?_;rintro e w' ⟨rfl,b⟩;subst b)|(go_at_call 148;refine(tm.B7 _ _).mono ?_;rintro e w' ⟨rfl,b⟩;subst b))
  go_ret;exact⟨Aa (by rw[c.o];first|rfl|simp),Ϯ⟩
 cases A
 ·rw[AC Ϥ]at c;by_cases d:o=0
  ·subst d;go_enter func86,ntmps86;go_wp2_with
    (first|(go_at_call 83;refine(An _ _ _ _).mono ?_;rintro e w' ⟨rfl,b⟩;subst b)|(go_at_call 148;refine(tm.B7 _ _).mono ?_;rintro e w' ⟨rfl,b⟩;subst b))
   go_ret;exact⟨Aa (by rw[c.o];exact PJ.2 (by simp;try omega)),Ϯ⟩
  ·have K:(0:Int)<o:=ϣ;rw[BP d,Bool.and_false]at c;clear d;go_enter func86,ntmps86;go_wp2_with
    (first|(go_at_call 83;refine(An _ _ _ _).mono ?_;rintro e w' ⟨rfl,b⟩;subst b)|(go_at_call 148;refine(tm.B7 _ _).mono ?_;rintro e w' ⟨rfl,b⟩;subst b))
   go_ret;exact⟨Aa (by rw[c.o];first|rfl|simp),Ϯ⟩
 ·rw[AE rfl]at c
  cases b12:A8 o 1 4<;>rw[b12]at c
  ·go_enter func86,ntmps86;go_wp2_with
    (first|(go_at_call 83;refine(An _ _ _ _).mono ?_;rintro e w' ⟨rfl,b⟩;subst b)|(go_at_call 148;refine(tm.B7 _ _).mono ?_;rintro e w' ⟨rfl,b⟩;subst b))
   go_ret;exact⟨Aa (by rw[c.o];first|rfl|simp),Ϯ⟩
  ·obtain⟨u1,u2⟩:=(Bg _ _ _).1 b12;go_enter func86,ntmps86;go_wp2_with
    (first|(go_at_call 83;refine(An _ _ _ _).mono ?_;rintro e w' ⟨rfl,b⟩;subst b)|(go_at_call 148;refine(tm.B7 _ _).mono ?_;rintro e w' ⟨rfl,b⟩;subst b))
   go_ret;exact⟨Aa (by rw[c.o];exact PJ.2 (by simp;try omega)),Ϯ⟩
end pl
def Φ(p:pl.Pln)(x:pl.PA):Mmz (#[.int .i64 p.kind,.int .i64 p.mode,.int .i64 p.low,.int .i64 p.high,.int .i64 p.size,.int .i64 p.limit,.slice x.l (ϲ p.left) x.lc,.slice x.r (ϲ p.right) x.rc,.slice x.lk (ϲ p.lkeys) x.lkc,.slice x.rk (ϲ p.rkeys) x.rkc,.bool p.grouped,.slice x.g (ϲ p.group) x.gc,.slice x.a (ϲ p.aggs) x.ac]:Array Value):=⟨⟩
def Λ(p:pl.Pln)(x:pl.PA):Mmz ([.int .i64 p.kind,.int .i64 p.mode,.int .i64 p.low,.int .i64 p.high,.int .i64 p.size,.int .i64 p.limit,.slice x.l (ϲ p.left) x.lc,.slice x.r (ϲ p.right) x.rc,.slice x.lk (ϲ p.lkeys) x.lkc,.slice x.rk (ϲ p.rkeys) x.rkc,.bool p.grouped,.slice x.g (ϲ p.group) x.gc,.slice x.a (ϲ p.aggs) x.ac]:List Value):=⟨⟩
namespace pl
open vl
def Ag5:prog.cellsOf 134=2:=Ϧ
def Ag6:prog.cellsOf 32=13:=Ϧ
def Afi:prog.cellsOf 29=1:=Ϧ
def Afj:prog.cellsOf 30=1:=Ϧ
def Ag7:prog.cellsOf 4=1:=Ϧ
section
variable {H : Type} {enc : TypeId × Value -> H} {w : ϟ} {base : Nat} {spare : Nat -> Bool} {held : Bool}
def Pn{x:Addr}{d:List Value}{y:DataW H×List MemPlace}{fuel:Nat}(h:w.cells? base x 1=some d)(ht:DataW.trod enc prog w base spare held fuel 3 d=some y):
 ∃(b c:Nat) (n:Int),x=⟨b,c,none⟩/\Δ w b c (.int .i64 n)/\i64 n:=by
 obtain⟨_,o,g⟩:=World.cells?_some h;obtain⟨n,e0,_,m⟩:=bO underlying3 ht;subst e0;obtain⟨b,c,k⟩:=x;have f:=g 0 ϣ;have j:k=none:=by simpa[Addr.add]using World.cell?_spot f
 subst j;exact⟨b,c,n,rfl,by simpa[Addr.add]using f,eA m⟩
theorem Po{x:Addr}{d:List Value}{y:DataW H×List MemPlace}{fuel:Nat}(q:w.cells? base x 2=some d)(ht:DataW.trod enc prog w base spare held fuel 134 d=some y):
 ∃(b c:Nat) (n m:Int),x=⟨b,c,none⟩/\Δ w b c (.int .i64 n)/\Δ w b (c+1) (.int .i64 m)/\i64 n/\i64 m:=by
 obtain⟨_,r,h⟩:=World.cells?_some q;obtain⟨A,B,k,_,_,o,p⟩:=trod_struct2 underlying134 ht
 match d,r with
 |[a0,a1],_=>
  obtain⟨n,e0,_,z⟩:=bO underlying3 o;obtain⟨m,f,_,u⟩:=bO underlying3 p;simp[LQ]at e0;simp[LQ]at f;subst e0 f;obtain⟨b,c,t⟩:=x;have g:=h 0 ϣ;have j:=h 1 ϣ;have s:t=none:=by simpa[Addr.add]using World.cell?_spot g
  subst s;exact⟨b,c,n,m,rfl,by simpa[Addr.add]using g,by simpa[Addr.add]using j,eA z,eA u⟩
theorem open_ints{v:Value}{y:DataW H×List MemPlace}{fuel:Nat}(G:DataW.trod enc prog w base spare held fuel 29 [v]=some y):
 ∃a q l,v= .slice a (List.length (α:=Int) l) q/\Au w a l/\(ϲ l)<=ύ/\∀n∈l,i64 n:=by
 rcases open_slice underlying29 G with⟨g,_⟩|⟨x,h,q,m,n,D,N,g,_,S,I,J,_,s⟩
 ·simp at g;subst g;exact⟨none,0,[],rfl,λi d=>absurd d (CA i),ϥ,λn K=>by cases K⟩
 ·simp at g;subst g;have T:h<=m:=by rw[J];split<;>omega
  rw[LQ]at s;obtain⟨f,u⟩:=choose_lt (α:=Int) (n:=h) (p:=λi c=> ∃b j,x=⟨b,j,none⟩/\Δ w b (j+i) (.int .i64 c)/\i64 c) (λi d=>by
   obtain⟨Q,C,E⟩:=s i ϣ;obtain⟨b,j,c,e,r,t⟩:=Pn C E;obtain⟨R,L,M⟩:=s 0 ϣ;obtain⟨o,k,O,e0,_⟩:=Pn L M;have B:x=⟨o,k,none⟩:=by simpa[Addr.add]using e0
   subst B;have A:(⟨o,k,none⟩:Addr).add (i * 1)=⟨o,k+i,none⟩:=by unfold Addr.add;split<;>simp_all
   rw[A]at e
   cases e
   exact⟨c,b,k,rfl,r,t⟩)
  refine⟨some x,q,(List.range h).map f,ϥ,?_,by unfold maxLen at I;simp;omega,?_⟩
  ·intro i d;have z:i<h:=by simpa using d
   obtain⟨b,j,rfl,r,_⟩:=u i z;have e:((List.range h).map f).getD i 0=f i:=by simp[gDe,z]
   rw[e];exact⟨b,j,rfl,r⟩
  ·intro c F;obtain⟨i,d,rfl⟩:=DS.1 F;obtain⟨_,_,_,_,t⟩:=u i (by simpa using d);exact t
theorem Aaq{v:Value}{y:DataW H×List MemPlace}{fuel:Nat}(J:DataW.trod enc prog w base spare held fuel 30 [v]=some y):
 ∃a r l,v= .slice a (List.length (α:=Int×Int) l) r/\DK w a l/\(ϲ l)<=ύ/\∀n∈l,i64 n.1/\i64 n.2:=by
 rcases open_slice underlying30 J with⟨j,_⟩|⟨x,k,r,m,n,D,Q,j,_,V,K,L,_,u⟩
 ·simp at j;subst j;exact⟨none,0,[],rfl,λi g=>absurd g (CA i),ϥ,λn M=>by cases M⟩
 ·simp at j;subst j;have W:k<=m:=by rw[L];split<;>omega
  rw[Ag5]at u;obtain⟨f,A⟩:=choose_lt (α:=Int×Int) (n:=k) (p:=λi c=> ∃b h,x=⟨b,h,none⟩/\Δ w b (h+i * 2) (.int .i64 c.1)/\Δ w b (h+i * 2+1) (.int .i64 c.2)/\i64 c.1/\i64 c.2) (λi g=>by
   obtain⟨S,F,G⟩:=u i ϣ;obtain⟨b,h,c,d,e,s,t,z⟩:=Po F G;obtain⟨T,N,O⟩:=u 0 ϣ;obtain⟨q,o,R,U,e0,_⟩:=Po N O;have E:x=⟨q,o,none⟩:=by simpa[Addr.add]using e0
   subst E;have C:(⟨q,o,none⟩:Addr).add (i * 2)=⟨q,o+i * 2,none⟩:=by unfold Addr.add;split<;>simp_all
   rw[C]at e
   cases e
   exact⟨(c,d),b,o,rfl,s,t,z⟩)
  refine⟨some x,r,(List.range k).map f,ϥ,?_,by unfold maxLen at K;simp;omega,?_⟩
  ·intro i g;have B:i<k:=by simpa using g
   obtain⟨b,h,rfl,s,t,_⟩:=A i B;have e:((List.range k).map f).getD i (0,0)=f i:=by simp[gDe,B]
   rw[e];exact⟨b,h,rfl,s,t⟩
  ·intro c I;obtain⟨i,g,rfl⟩:=DS.1 I;obtain⟨_,_,_,_,_,z⟩:=A i (by simpa using g);exact z
theorem Afk{o:Array Value}(h:o.size=13):∃a b c d e f g h i j k l m,o=#[a,b,c,d,e,f,g,h,i,j,k,l,m]:=by
 obtain⟨l⟩:=o
 match l,h with
 |[a,b,c,d,e,f,g,h,i,j,k,l,m],_=>exact⟨a,b,c,d,e,f,g,h,i,j,k,l,m,rfl⟩
theorem Aar{r:Reach}{N:Nat}{v:Value}{d:DataW H}{pl:List MemPlace}(Y:Value.okWide prog w r N 32 v)(h:DataW.Trod enc prog w base spare held 32 v d pl):
 ∃p x,v=Ai p x/\planAt w p x/\wfPlan p:=by
 obtain⟨cs,rfl,X⟩:=okWide_struct underlying32 Y;obtain⟨c0,c1,c2,c3,c4,c5,c6,c7,c8,c9,ai,aj,ak,rfl⟩:=Afk (X.trans Ag6);obtain⟨fuel,V⟩:=h;obtain⟨xs,n,_,_,_,W,b⟩:=DataW.trod_struct underlying32 V
 match xs,W with
 |[y0,y1,y2,y3,y4,y5,y6,y7,y8,y9,y10,y11,y12],_=>
  have o:=b 0 _ rfl;have q:=b 1 _ rfl;have y:=b 2 _ rfl;have z:=b 3 _ rfl;have A:=b 4 _ rfl;have B:=b 5 _ rfl;have C:=b 6 _ rfl;have D:=b 7 _ rfl;have E:=b 8 _ rfl;have F:=b 9 _ rfl;have s:=b 10 _ rfl;have t:=b 11 _ rfl;have u:=b 12 _ rfl;simp[Value.cells,LQ]at o q y z A B;simp[Value.cells,Afi]at C D E F t;simp[Value.cells,Ag7]at s;simp[Value.cells,Afj]at u;obtain⟨n0,e0,_,w0⟩:=bO underlying3 o;obtain⟨n1,c,_,w1⟩:=bO underlying3 q;obtain⟨n2,g,_,w2⟩:=bO underlying3 y;obtain⟨n3,j,_,w3⟩:=bO underlying3 z;obtain⟨n4,k,_,w4⟩:=bO underlying3 A;obtain⟨n5,m,_,w5⟩:=bO underlying3 B;obtain⟨J,k6,l6,R,i6,m6,j6⟩:=open_ints C;obtain⟨K,k7,l7,S,i7,m7,j7⟩:=open_ints D;obtain⟨L,k8,l8,T,i8,m8,j8⟩:=open_ints E;obtain⟨M,k9,l9,U,i9,m9,j9⟩:=open_ints F;obtain⟨ah,f,_⟩:=DataW.trod_bool underlying4 s;obtain⟨G,ab,ad,O,Z,af,al⟩:=open_ints t;obtain⟨I,ac,ae,Q,aa,ag,am⟩:=Aaq u;simp only[bW,and_true]at e0 c g j k m f;subst e0 c g j k m R S T U f O Q;exact⟨⟨n0,n1,n2,n3,n4,n5,l6,l7,l8,l9,ah,ad,ae⟩,⟨J,k6,K,k7,L,k8,M,k9,G,ab,I,ac⟩,rfl,⟨i6,i7,i8,i9,Z,aa⟩,⟨eA w2,eA w3,m6,m7,m8,m9,af,ag⟩⟩
end
end pl
