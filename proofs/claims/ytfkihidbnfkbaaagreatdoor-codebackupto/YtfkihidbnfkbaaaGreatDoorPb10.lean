import Derived.Test.YtfkihidbnfkbaaaGreatDoorPb3
import Derived.Lib.AppendZerosOnto
set_option linter.all false
set_option maxHeartbeats 4000000
set_option maxRecDepth 100000
open Go.ChangeShapes Go.WideShapes Go.ChangeAt Go.RowKit Go.Joins Go.Deep List
namespace Go.Proofs.YtfkihidbnfkbaaaGreatDoor
open Go.Proofs.Tryz
namespace tm
def Abk(a b:Int):Bool:=Br a&&Br b
theorem UG(b:Nat)(x y:Int)(w:ϙ)
 (c:Δ w b 0 (vI x)) (d:Δ w b 1 (vI y)):
 η 366 #[vS (τ b) 2 2] w λe w'=>e= .returned (.bool (Abk x y))/\w'=w:=by
 have h:=Ti b [x,y] w ϟ (λi g=>by
  match i,g with
  |0,_=>exact c
  |1,_=>exact d)
 refine h.mono λe w' ⟨f,j⟩=>⟨?_,j⟩;rw[f];simp[Abk]
def start(t s:Int):Int:=t - t % s
theorem YO(t s:Int)(c:t<0)(b:0<s):t.tmod s= -((-t) % s):=by
 have:=Int.neg_tmod (-t) s;rw[Int.neg_neg]at this;rw[this,Int.tmod_eq_emod_of_nonneg ϝ]
theorem Abl(t s:Int)(b:0<s):(-t % s=0/\t % s=0)\/(0< -t % s/\t % s=s - -t % s):=by
 have p:=Int.emod_nonneg t (show s≠0 by omega);have q:=Int.emod_lt_of_pos t b;have r:=Int.emod_nonneg (-t) (show s≠0 by omega);have u:=Int.emod_lt_of_pos (-t) b;have g:=Int.mul_ediv_add_emod t s;have j:=Int.mul_ediv_add_emod (-t) s;have c:s * (t/s+ -t/s)= -(t % s+ -t % s):=by rw[Int.mul_add];omega
 obtain⟨k,d⟩:∃k,t/s+ -t/s=k:=⟨_,rfl⟩;rw[d]at c;have m:k<=0:=by
  rcases Int.lt_or_le 0 k with h|h
  ·have:=Int.mul_pos b h;omega
  ·exact h
 have o: -2<k:=by
  rcases Int.lt_or_le (-2) k with h|h
  ·exact h
  ·have:=Int.mul_le_mul_of_nonneg_left h (Int.le_of_lt b);omega
 have f:k=0\/k= -1:=ϝ;rcases f with rfl|rfl<;>omega
theorem tup3{a b c d f g:Int}(h:a=d)(j:b=f)(k:c=g):
 Ending.returned (.tuple #[vI a,vI b,vI c])= .returned (.tuple #[vI d,vI f,vI g]):=by rw[h,j,k]
theorem YP(t s:Int)(b:0<s):start t s<=t/\t<start t s+s:=by
 unfold start;have:=Int.emod_nonneg t (show s≠0 by omega);have:=Int.emod_lt_of_pos t b;omega
theorem Mw(t s:Int)(w:ϙ)(h:Br t=true)(m:1<=s)(o:s<=1099511627776):
 η 367 #[vI t,vI s] w λe w'=>e= .returned (.tuple #[vI (start t s),vI (start t s+s),ω])/\w'=w:=by
 have g:=(LK t).1 h;obtain⟨j,k⟩:=g;have q:¬s<1:=ϝ;have r:¬1099511627776<s:=ϝ;have y:(s==0)=false:=Ϣ;by_cases u:0<=t
 ·have d:=Int.emod_nonneg t (show s≠0 by omega);have f:=Int.emod_lt_of_pos t (show 0<s by omega);go_enter func367,ntmps367;go_wp2_with (go_at_call 197;refine(CF _ _).mono ?_;rintro e w' ⟨rfl,b⟩;subst b)
  go_ret3
  exact⟨rfl,rfl⟩
 ·have e0:=YO t s ϝ ϝ;have d:=Int.emod_nonneg (-t) (show s≠0 by omega);have f:=Int.emod_lt_of_pos (-t) (show 0<s by omega);have c:ϛ ((-t % s=0/\t % s=0)\/(0< -t % s/\t % s=s - -t % s)):=Abl t s ϝ;go_enter func367,ntmps367;go_wp2_with (go_at_call 197;refine(CF _ _).mono ?_;rintro e w' ⟨rfl,b⟩;subst b)
  all_goals
   have p:=c.o
   go_ret3
   exact⟨tup3 (by unfold start;omega) (by unfold start;omega) rfl,rfl⟩
end tm
namespace pl
open vl
variable {w w' : ϙ} {a : Ϛ}
def Ay(w:World)(a:Option Addr)(l:List Int):Prop:=
 ∀i,i<l.length->∃b off,a=some ⟨b,off,none⟩/\Δ w b (off+i) (vI (l.getD i 0))
def Es(w:World)(a:Option Addr)(l:List (Int×Int)):Prop:=
 ∀i,i<l.length->∃b off,a=some ⟨b,off,none⟩/\Δ w b (off+i * 2) (vI (l.getD i (0,0)).1)/\Δ w b (off+i * 2+1) (vI (l.getD i (0,0)).2)
theorem Ao{l:List Int}(h:Ay w a l)(c:Ϝ w w'):Ay w' a l:=by
 intro i d;obtain⟨b,o,e,x⟩:=h i d;exact⟨b,o,e,cLz c x⟩
theorem CP{l:List (Int×Int)}(h:Es w a l)(c:Ϝ w w'):Es w' a l:=by
 intro i d;obtain⟨b,o,e,x,y⟩:=h i d;exact⟨b,o,e,cLz c x,cLz c y⟩
structure Pln where
 kind:Int
 mode:Int
 low:Int
 high:Int
 size:Int
 limit:Int
 left:List Int
 right:List Int
 lkeys:List Int
 rkeys:List Int
 grouped:Bool
 group:List Int
 aggs:List (Int×Int)
structure PA where
 l:Option Addr
 lc:Nat
 r:Option Addr
 rc:Nat
 lk:Option Addr
 lkc:Nat
 rk:Option Addr
 rkc:Nat
 g:Option Addr
 gc:Nat
 a:Option Addr
 ac:Nat
def Ap(p:Pln)(x:PA):Value:=
 .agg #[vI p.kind,vI p.mode,vI p.low,vI p.high,vI p.size,vI p.limit,
  vS x.l p.left.length x.lc,vS x.r p.right.length x.rc,vS x.lk p.lkeys.length x.lkc,vS x.rk p.rkeys.length x.rkc,.bool p.grouped,vS x.g p.group.length x.gc,vS x.a p.aggs.length x.ac]
structure planAt(w:World)(p:Pln)(x:PA):Prop where
 l:Ay w x.l p.left
 r:Ay w x.r p.right
 lk:Ay w x.lk p.lkeys
 rk:Ay w x.rk p.rkeys
 g:Ay w x.g p.group
 a:Es w x.a p.aggs
theorem Ae{p:Pln}{x:PA}(h:planAt w p x)(b:Ϝ w w'):planAt w' p x:=
 ⟨Ao h.l b,Ao h.r b,Ao h.lk b,Ao h.rk b,Ao h.g b,CP h.a b⟩
def i64(n:Int):Prop:= -9223372036854775808<=n/\n<=9223372036854775807
structure wfPlan(p:Pln):Prop where
 low:i64 p.low
 high:i64 p.high
 l:p.left.length<=χ
 r:p.right.length<=χ
 lk:p.lkeys.length<=χ
 rk:p.rkeys.length<=χ
 g:p.group.length<=χ
 a:p.aggs.length<=χ
def fit(t:Int):Prop:= -1099511627776<=t/\t<=1099511627776
instance(t:Int):Decidable (fit t):=by unfold fit;infer_instance
def D4(p:Pln):Prop:=(1<=p.kind/\p.kind<=3)/\(1<=p.mode/\p.mode<=(if p.kind=3 then 2 else 4))/\(p.grouped=true->∀a∈p.aggs,1<=a.1/\a.1<=4)
def CX(p:Pln):Prop:=(if p.kind=1 then fit p.low/\fit p.high else p.low=0/\p.high=0)/\(if p.kind=2 then 1<=p.size/\p.size<=1099511627776 else p.size=0)/\(1<=p.limit/\p.limit<=64)
def J6(n:Nat):Prop:=1<=n/\n<=4
instance(n:Nat):Decidable (J6 n):=by unfold J6;infer_instance
def D7(p:Pln):Prop:=(J6 p.left.length/\J6 p.right.length/\J6 p.lkeys.length/\J6 p.rkeys.length)/\(if p.grouped=true then J6 p.aggs.length/\p.group.length+p.aggs.length<=8 else p.group.length=0/\p.aggs.length=0)
def Bb(p:Pln):List Int:=p.left++p.right
def De(p:Pln):Prop:=∀c∈Bb p,1<=c/\c<=3
def AV(l:List Int)(n:Nat):Prop:=(∀x∈l,0<=x/\x<(n:Int))/\l.Pairwise (· ≠ ·)
def F2(p:Pln):Prop:=∀i,i<p.lkeys.length->p.left.getD (p.lkeys.getD i 0).toNat 0=p.right.getD (p.rkeys.getD i 0).toNat 0
def FZ(c:List Int)(a:Int×Int):Prop:=if a.1=1 then a.2=0 else(0<=a.2/\a.2<(c.length:Int))/\(a.1=2->c.getD a.2.toNat 0=2)
def Hh(p:Pln):Prop:=p.lkeys.length=p.rkeys.length/\AV p.lkeys p.left.length/\AV p.rkeys p.right.length/\F2 p
def Cx(p:Pln):Prop:=p.low<=p.high/\Hh p/\AV p.group (Bb p).length/\(∀a∈p.aggs,FZ (Bb p) a)
instance(p:Pln):Decidable (D4 p):=by unfold D4;infer_instance
instance(p:Pln):Decidable (CX p):=by unfold CX;infer_instance
instance(p:Pln):Decidable (D7 p):=by unfold D7;infer_instance
instance(p:Pln):Decidable (De p):=by unfold De;infer_instance
instance(l:List Int)(n:Nat):Decidable (AV l n):=by unfold AV;infer_instance
instance(p:Pln):Decidable (F2 p):=by unfold F2;infer_instance
instance(c:List Int)(a:Int×Int):Decidable (FZ c a):=by unfold FZ;infer_instance
instance(p:Pln):Decidable (Hh p):=by unfold Hh;infer_instance
instance(p:Pln):Decidable (Cx p):=by unfold Cx;infer_instance
def Ag(p:Pln):Int:=
 if¬D4 p then 4 else if¬CX p then 3 else if¬D7 p then 2 else if¬De p then 5 else if¬Cx p then 1 else 0
theorem Bf{p:Pln}(h:Ag p=0):D4 p/\CX p/\D7 p/\De p/\Cx p:=by
 unfold Ag at h;by_cases b:D4 p
 ·by_cases c:CX p
  ·by_cases d:D7 p
   ·by_cases f:De p
    ·by_cases g:Cx p
     ·exact⟨b,c,d,f,g⟩
     ·rw[if_neg (by simp[b]),if_neg (by simp[c]),if_neg (by simp[d]),if_neg (by simp[f]),if_pos g]at h;cases h
    ·rw[if_neg (by simp[b]),if_neg (by simp[c]),if_neg (by simp[d]),if_pos f]at h;cases h
   ·rw[if_neg (by simp[b]),if_neg (by simp[c]),if_pos d]at h;cases h
  ·rw[if_neg (by simp[b]),if_pos c]at h;cases h
 ·rw[if_pos b]at h;cases h
end pl
def Φ(p:pl.Pln)(x:pl.PA):Mmz (#[.int .i64 p.kind,.int .i64 p.mode,.int .i64 p.low,.int .i64 p.high,.int .i64 p.size,.int .i64 p.limit,.slice x.l p.left.length x.lc,.slice x.r p.right.length x.rc,.slice x.lk p.lkeys.length x.lkc,.slice x.rk p.rkeys.length x.rkc,.bool p.grouped,.slice x.g p.group.length x.gc,.slice x.a p.aggs.length x.ac]:Array Value):=⟨⟩
def Λ(p:pl.Pln)(x:pl.PA):Mmz ([.int .i64 p.kind,.int .i64 p.mode,.int .i64 p.low,.int .i64 p.high,.int .i64 p.size,.int .i64 p.limit,.slice x.l p.left.length x.lc,.slice x.r p.right.length x.rc,.slice x.lk p.lkeys.length x.lkc,.slice x.rk p.rkeys.length x.rkc,.bool p.grouped,.slice x.g p.group.length x.gc,.slice x.a p.aggs.length x.ac]:List Value):=⟨⟩
namespace pl
open vl
theorem Adq:Tryz.prog.cellsOf 134=2:=Ϡ
theorem Adr:Tryz.prog.cellsOf 32=13:=Ϡ
theorem Abm:Tryz.prog.cellsOf 29=1:=Ϡ
theorem Abn:Tryz.prog.cellsOf 30=1:=Ϡ
theorem Ads:Tryz.prog.cellsOf 4=1:=Ϡ
section
variable {H : Type} {enc : TypeId × Value -> H} {w : ϙ} {base : Nat} {spare : Nat -> Bool} {held : Bool}
theorem Mx{x:Addr}{d:List Value}{y:DataW H×List MemPlace}{fuel:Nat}(h:w.cells? base x 1=some d)(k:DataW.trod enc Tryz.prog w base spare held fuel 3 d=some y):
 ∃(b c:Nat) (n:Int),x=⟨b,c,none⟩/\Δ w b c (.int .i64 n)/\i64 n:=by
 obtain⟨_,p,g⟩:=World.cells?_some h;obtain⟨n,e0,_,o⟩:=DataW.trod_int underlying3 k;subst e0;obtain⟨b,c,m⟩:=x;have f:=g 0 ϝ;have j:m=none:=by simpa[Addr.add]using World.cell?_spot f
 subst j;exact⟨b,c,n,rfl,by simpa[Addr.add]using f,bounds_i64 o⟩
theorem My{x:Addr}{d:List Value}{y:DataW H×List MemPlace}{fuel:Nat}(q:w.cells? base x 2=some d)(t:DataW.trod enc Tryz.prog w base spare held fuel 134 d=some y):
 ∃(b c:Nat) (n m:Int),x=⟨b,c,none⟩/\Δ w b c (.int .i64 n)/\Δ w b (c+1) (.int .i64 m)/\i64 n/\i64 m:=by
 obtain⟨_,r,h⟩:=World.cells?_some q;obtain⟨B,C,k,_,_,o,p⟩:=trod_struct2 underlying134 t
 match d,r with
 |[a0,a1],_=>
  obtain⟨n,e0,_,A⟩:=DataW.trod_int underlying3 o;obtain⟨m,f,_,z⟩:=DataW.trod_int underlying3 p;simp[Cn]at e0;simp[Cn]at f;subst e0 f;obtain⟨b,c,u⟩:=x;have g:=h 0 ϝ;have j:=h 1 ϝ;have s:u=none:=by simpa[Addr.add]using World.cell?_spot g
  subst s;exact⟨b,c,n,m,rfl,by simpa[Addr.add]using g,by simpa[Addr.add]using j,bounds_i64 A,bounds_i64 z⟩
theorem open_ints{v:Value}{y:DataW H×List MemPlace}{fuel:Nat}(G:DataW.trod enc Tryz.prog w base spare held fuel 29 [v]=some y):
 ∃a q l,v= .slice a (List.length (α:=Int) l) q/\Ay w a l/\l.length<=χ/\∀n∈l,i64 n:=by
 rcases open_slice underlying29 G with⟨g,_⟩|⟨x,h,q,m,n,D,N,g,_,S,I,J,_,s⟩
 ·simp at g;subst g;exact⟨none,0,[],rfl,λi d=>absurd d (Nat.not_lt_zero i),ϟ,λn K=>by cases K⟩
 ·simp at g;subst g;have T:h<=m:=by rw[J];split<;>omega
  rw[Cn]at s;obtain⟨f,u⟩:=choose_lt (α:=Int) (n:=h) (p:=λi c=> ∃b j,x=⟨b,j,none⟩/\Δ w b (j+i) (.int .i64 c)/\i64 c) (λi d=>by
   obtain⟨Q,C,E⟩:=s i ϝ;obtain⟨b,j,c,e,r,t⟩:=Mx C E;obtain⟨R,L,M⟩:=s 0 ϝ;obtain⟨o,k,O,e0,_⟩:=Mx L M;have B:x=⟨o,k,none⟩:=by simpa[Addr.add]using e0
   subst B;have A:(⟨o,k,none⟩:Addr).add (i * 1)=⟨o,k+i,none⟩:=by unfold Addr.add;split<;>simp_all
   rw[A]at e
   cases e
   exact⟨c,b,k,rfl,r,t⟩)
  refine⟨some x,q,(List.range h).map f,ϟ,?_,by unfold maxLen at I;simp;omega,?_⟩
  ·intro i d;have z:i<h:=by simpa using d
   obtain⟨b,j,rfl,r,_⟩:=u i z;have e:((List.range h).map f).getD i 0=f i:=by simp[gDe,z]
   rw[e];exact⟨b,j,rfl,r⟩
  ·intro c F;obtain⟨i,d,rfl⟩:=mem_map.1 F;obtain⟨_,_,_,_,t⟩:=u i (by simpa using d);exact t
theorem Wo{v:Value}{y:DataW H×List MemPlace}{fuel:Nat}(J:DataW.trod enc Tryz.prog w base spare held fuel 30 [v]=some y):
 ∃a r l,v= .slice a (List.length (α:=Int×Int) l) r/\Es w a l/\l.length<=χ/\∀n∈l,i64 n.1/\i64 n.2:=by
 rcases open_slice underlying30 J with⟨j,_⟩|⟨x,k,r,m,n,D,Q,j,_,V,K,L,_,u⟩
 ·simp at j;subst j;exact⟨none,0,[],rfl,λi g=>absurd g (Nat.not_lt_zero i),ϟ,λn M=>by cases M⟩
 ·simp at j;subst j;have W:k<=m:=by rw[L];split<;>omega
  rw[Adq]at u;obtain⟨f,A⟩:=choose_lt (α:=Int×Int) (n:=k) (p:=λi c=> ∃b h,x=⟨b,h,none⟩/\Δ w b (h+i * 2) (.int .i64 c.1)/\Δ w b (h+i * 2+1) (.int .i64 c.2)/\i64 c.1/\i64 c.2) (λi g=>by
   obtain⟨S,F,G⟩:=u i ϝ;obtain⟨b,h,c,d,e,s,t,z⟩:=My F G;obtain⟨T,N,O⟩:=u 0 ϝ;obtain⟨q,o,R,U,e0,_⟩:=My N O;have E:x=⟨q,o,none⟩:=by simpa[Addr.add]using e0
   subst E;have C:(⟨q,o,none⟩:Addr).add (i * 2)=⟨q,o+i * 2,none⟩:=by unfold Addr.add;split<;>simp_all
   rw[C]at e
   cases e
   exact⟨(c,d),b,o,rfl,s,t,z⟩)
  refine⟨some x,r,(List.range k).map f,ϟ,?_,by unfold maxLen at K;simp;omega,?_⟩
  ·intro i g;have B:i<k:=by simpa using g
   obtain⟨b,h,rfl,s,t,_⟩:=A i B;have e:((List.range k).map f).getD i (0,0)=f i:=by simp[gDe,B]
   rw[e];exact⟨b,h,rfl,s,t⟩
  ·intro c I;obtain⟨i,g,rfl⟩:=mem_map.1 I;obtain⟨_,_,_,_,_,z⟩:=A i (by simpa using g);exact z
theorem Abo{o:Array Value}(h:o.size=13):∃a b c d e f g h i j k l m,o=#[a,b,c,d,e,f,g,h,i,j,k,l,m]:=by
 obtain⟨l⟩:=o
 match l,h with
 |[a,b,c,d,e,f,g,h,i,j,k,l,m],_=>exact⟨a,b,c,d,e,f,g,h,i,j,k,l,m,rfl⟩
theorem Wp{r:Reach}{N:Nat}{v:Value}{d:DataW H}{pl:List MemPlace}(Y:Value.okWide Tryz.prog w r N 32 v)(h:DataW.Trod enc Tryz.prog w base spare held 32 v d pl):
 ∃p x,v=Ap p x/\planAt w p x/\wfPlan p:=by
 obtain⟨cs,rfl,X⟩:=okWide_struct underlying32 Y;obtain⟨c0,c1,c2,c3,c4,c5,c6,c7,c8,c9,ai,aj,ak,rfl⟩:=Abo (X.trans Adr);obtain⟨fuel,V⟩:=h;obtain⟨xs,n,_,_,_,W,b⟩:=DataW.trod_struct underlying32 V
 match xs,W with
 |[y0,y1,y2,y3,y4,y5,y6,y7,y8,y9,y10,y11,y12],_=>
  have o:=b 0 _ rfl;have q:=b 1 _ rfl;have y:=b 2 _ rfl;have z:=b 3 _ rfl;have A:=b 4 _ rfl;have B:=b 5 _ rfl;have C:=b 6 _ rfl;have D:=b 7 _ rfl;have E:=b 8 _ rfl;have F:=b 9 _ rfl;have s:=b 10 _ rfl;have t:=b 11 _ rfl;have u:=b 12 _ rfl;simp[Value.cells,Cn]at o q y z A B;simp[Value.cells,Abm]at C D E F t;simp[Value.cells,Ads]at s;simp[Value.cells,Abn]at u;obtain⟨n0,e0,_,w0⟩:=DataW.trod_int underlying3 o;obtain⟨n1,c,_,w1⟩:=DataW.trod_int underlying3 q;obtain⟨n2,g,_,w2⟩:=DataW.trod_int underlying3 y;obtain⟨n3,j,_,w3⟩:=DataW.trod_int underlying3 z;obtain⟨n4,k,_,w4⟩:=DataW.trod_int underlying3 A;obtain⟨n5,m,_,w5⟩:=DataW.trod_int underlying3 B;obtain⟨J,k6,l6,R,i6,m6,j6⟩:=open_ints C;obtain⟨K,k7,l7,S,i7,m7,j7⟩:=open_ints D;obtain⟨L,k8,l8,T,i8,m8,j8⟩:=open_ints E;obtain⟨M,k9,l9,U,i9,m9,j9⟩:=open_ints F;obtain⟨ah,f,_⟩:=DataW.trod_bool underlying4 s;obtain⟨G,ab,ad,O,Z,af,al⟩:=open_ints t;obtain⟨I,ac,ae,Q,aa,ag,am⟩:=Wo u;simp only[List.cons.injEq,and_true]at e0 c g j k m f;subst e0 c g j k m R S T U f O Q;exact⟨⟨n0,n1,n2,n3,n4,n5,l6,l7,l8,l9,ah,ad,ae⟩,⟨J,k6,K,k7,L,k8,M,k9,G,ab,I,ac⟩,rfl,⟨i6,i7,i8,i9,Z,aa⟩,⟨bounds_i64 w2,bounds_i64 w3,m6,m7,m8,m9,af,ag⟩⟩
end
end pl
namespace pl
open vl
variable {base i n size : Nat} {P : Nat -> Bool} {w : ϙ} {e : TypeId} {v : Value} {xs : List Value} {l : List Int} {x : Int}
def BG(n a b:Int):Bool:=decide (a<=n/\n<=b)
theorem BN(n a b:Int):BG n a b=true↔(a<=n/\n<=b):=by simp[BG]
theorem F3(n a b:Int):BG n a b=false↔ ¬(a<=n/\n<=b):=by unfold BG;exact decide_eq_false_iff_not
theorem BZ(n a b:Int)(w:ϙ):
 η 126 #[vI n,vI a,vI b] w λe w'=>e= .returned (.bool (BG n a b))/\w'=w:=by
 by_cases c:a<=n
 ·by_cases d:n<=b
  ·rw[(BN n a b).2 ⟨c,d⟩];go_enter func126,ntmps126;go_wp2;go_ret;exact⟨rfl,rfl⟩
  ·rw[(F3 n a b).2 ϝ];go_enter func126,ntmps126;go_wp2;go_ret;exact⟨rfl,rfl⟩
 ·rw[(F3 n a b).2 ϝ];go_enter func126,ntmps126;go_wp2;go_ret;exact⟨rfl,rfl⟩
def allB(n:Nat)(P:Nat->Bool):Bool:=(List.range n).all P
theorem A9:allB n P=true↔ ∀i,i<n->P i=true:=by simp[allB]
theorem DW(c:i<n)(h:P i=false):allB n P=false:=by
 rcases Bool.eq_false_or_eq_true (allB n P)with b|b
 ·have:=A9.1 b i c;rw[h]at this;cases this
 ·exact b
theorem Gz(d:FuncId)(I:∀y w,(callFunc d y).run Tryz.prog w= .ok (.enter d y) w)(j:Array Value)(P:Nat->Bool)(a:Ϛ)(cap:Nat)(l:List Int)(w:ϙ)(F:l.length<=χ)(ha:Ay w a l)
 (H:∀i c,i<l.length->Ϝ w c->Calls Tryz.prog d (#[vI (i:Nat),vI (l.getD i 0)]++j) c (θ c (.bool (P i)))):
 η 132 #[vS a l.length cap,.func (.func d) #[] j] w (θ w (.bool (allB l.length P))):=by
 have E:ϛ (∀i c,i<l.length->Ϝ w c->CT d (#[vI (i:Nat),vI (l.getD i 0)]++j) c (θ c (.bool (P i)))):=H;clear H;obtain⟨n,s⟩:∃n,l.length=n:=⟨_,rfl⟩;have u:ϛ (l.length=n):=s;rw[s]at F⊢;clear s;go_enter func132,ntmps132;go_wp2
 go_loopw [9] (λi wr=> ∃k:Nat,k<=n/\i=vI k/\Ϝ w wr/\∀i,i<k->P i=true) (λi _=>n - (intOf i).toNat)
 case atStart=>exact⟨0,Nat.zero_le _,rfl,bR,λi m=>absurd m (Nat.not_lt_zero i)⟩
 case round=>
  obtain⟨k,J,rfl,f,A⟩:=hrel;have t:ϛ (∀i,i<k->P i=true):=A;clear A;by_cases r:k<n
  ·obtain⟨b,o,e,D⟩:=ha k (by rw[u.o];exact r);subst e;have G:=cLz f D;clear D ha;have K:(0:Int)<=(k:Int):=ϝ;have L:(k:Int)<(n:Int):=ϝ;have g:ϛ (CT d (#[vI (k:Nat),vI (l.getD k 0)]++j) wr (θ wr (.bool (P k)))):=E.o k wr (by rw[u.o];exact r) f;obtain⟨z,C⟩:=nM (l.getD k 0);rw[C]at G g;clear C;have B:=f.size
   cases hp:P k with
   |true=>
    rw[hp]at g;go_wp2_with (go_at_fn d;refine g.o.mono ?_;rintro e c ⟨rfl,q⟩);go_roundw
    case rel=>exact⟨k+1,ϝ,by go_num,f.trans (q.mono B),λi m=>by
     rcases Nat.lt_succ_iff_lt_or_eq.1 m with h|h
     ·exact t.o i h
     ·rw[h];exact hp⟩
    case measure=>simp[intOf];omega
   |false=>
    have p:ϛ (allB n P=false):=DW r hp;rw[hp]at g;go_wp2_with (go_at_fn d;refine g.o.mono ?_;rintro e c ⟨rfl,q⟩);go_ret;exact⟨Aa p.o.symm,f.trans (q.mono B)⟩
  ·have p:ϛ (allB n P=true):=A9.2 (λi m=>t.o i ϝ);go_wp2;go_ret;exact⟨Aa p.o.symm,f⟩
def IU(w:World)(a:Option Addr)(l:List (Option Addr×Nat×Nat)):Prop:=
 ∀i,i<l.length->∃b off,a=some ⟨b,off,none⟩/\Δ w b (off+i) (vS (l.getD i (none,0,0)).1 (l.getD i (none,0,0)).2.1 (l.getD i (none,0,0)).2.2)
theorem J7(d:FuncId)(M:∀A w,(callFunc d A).run Tryz.prog w= .ok (.enter d A) w)(j:Array Value)(P:Nat->Bool)(a:Ϛ)(cap:Nat)(l:List (Int×Int))(w:ϙ)(L:l.length<=χ)(ha:Es w a l)
 (H:∀i c,i<l.length->Ϝ w c->Calls Tryz.prog d (#[vI (i:Nat),.agg #[vI (l.getD i (0,0)).1,vI (l.getD i (0,0)).2]]++j) c (θ c (.bool (P i)))):
 η 195 #[vS a l.length cap,.func (.func d) #[] j] w (θ w (.bool (allB l.length P))):=by
 have J:ϛ (∀i c,i<l.length->Ϝ w c->CT d (#[vI (i:Nat),.agg #[vI (l.getD i (0,0)).1,vI (l.getD i (0,0)).2]]++j) c (θ c (.bool (P i)))):=H;clear H;obtain⟨n,t⟩:∃n,l.length=n:=⟨_,rfl⟩;have y:ϛ (l.length=n):=t;rw[t]at L⊢;clear t;go_enter func195,ntmps195;go_wp2
 go_loopw [9] (λi wr=> ∃k:Nat,k<=n/\i=vI k/\Ϝ w wr/\∀i,i<k->P i=true) (λi _=>n - (intOf i).toNat)
 case atStart=>exact⟨0,Nat.zero_le _,rfl,bR,λi m=>absurd m (Nat.not_lt_zero i)⟩
 case round=>
  obtain⟨k,N,rfl,f,B⟩:=hrel;have u:ϛ (∀i,i<k->P i=true):=B;clear B;by_cases s:k<n
  ·obtain⟨b,o,e,G,I⟩:=ha k (by rw[y.o];exact s);subst e;have E:=cLz f G;have F:=cLz f I;clear G I ha;have O:(0:Int)<=(k:Int):=ϝ;have Q:(k:Int)<(n:Int):=ϝ;have g:ϛ (∀c,Ϝ wr c->CT d (#[vI (k:Nat),.agg #[vI (l.getD k (0,0)).1,vI (l.getD k (0,0)).2]]++j) c (θ c (.bool (P k)))):=λc K=>J.o k c (by rw[y.o];exact s) (bT f K);obtain⟨⟨R,S⟩,D⟩:∃z,l.getD k (0,0)=z:=⟨_,rfl⟩;rw[D]at E F g;dsimp only at E F g;clear D;have C:=f.size
   cases hp:P k with
   |true=>
    rw[hp]at g;go_wp2_with (go_at_fn d;refine(g.o _ Ϩ).mono ?_;rintro e c ⟨rfl,q⟩;have r:=(f.alloc C _).trans (q.mono Ϣ));go_roundw
    case rel=>exact⟨k+1,ϝ,by go_num,r,λi m=>by
     rcases Nat.lt_succ_iff_lt_or_eq.1 m with h|h
     ·exact u.o i h
     ·rw[h];exact hp⟩
    case measure=>simp[intOf];omega
   |false=>
    have p:ϛ (allB n P=false):=DW s hp;rw[hp]at g;go_wp2_with (go_at_fn d;refine(g.o _ Ϩ).mono ?_;rintro e c ⟨rfl,q⟩;have r:=(f.alloc C _).trans (q.mono Ϣ));go_ret;exact⟨Aa p.o.symm,r⟩
  ·have p:ϛ (allB n P=true):=A9.2 (λi m=>u.o i ϝ);go_wp2;go_ret;exact⟨Aa p.o.symm,f⟩
theorem Pw(d:FuncId)(I:∀y w,(callFunc d y).run Tryz.prog w= .ok (.enter d y) w)(j:Array Value)(P:Nat->Bool)(a:Ϛ)(cap:Nat)(l:List (Option Addr×Nat×Nat))(w:ϙ)(G:l.length<=χ)(ha:IU w a l)
 (H:∀i c,i<l.length->Ϝ w c->Calls Tryz.prog d (#[vI (i:Nat),vS (l.getD i (none,0,0)).1 (l.getD i (none,0,0)).2.1 (l.getD i (none,0,0)).2.2]++j) c (θ c (.bool (P i)))):
 η 130 #[vS a l.length cap,.func (.func d) #[] j] w (θ w (.bool (allB l.length P))):=by
 have F:ϛ (∀i c,i<l.length->Ϝ w c->CT d (#[vI (i:Nat),vS (l.getD i (none,0,0)).1 (l.getD i (none,0,0)).2.1 (l.getD i (none,0,0)).2.2]++j) c (θ c (.bool (P i)))):=H;clear H;obtain⟨n,s⟩:∃n,l.length=n:=⟨_,rfl⟩;have u:ϛ (l.length=n):=s;rw[s]at G⊢;clear s;go_enter func130,ntmps130;go_wp2
 go_loopw [9] (λi wr=> ∃k:Nat,k<=n/\i=vI k/\Ϝ w wr/\∀i,i<k->P i=true) (λi _=>n - (intOf i).toNat)
 case atStart=>exact⟨0,Nat.zero_le _,rfl,bR,λi m=>absurd m (Nat.not_lt_zero i)⟩
 case round=>
  obtain⟨k,J,rfl,g,A⟩:=hrel;have t:ϛ (∀i,i<k->P i=true):=A;clear A;by_cases r:k<n
  ·obtain⟨b,o,e,E⟩:=ha k (by rw[u.o];exact r);subst e;have D:=cLz g E;clear E ha;have K:(0:Int)<=(k:Int):=ϝ;have L:(k:Int)<(n:Int):=ϝ;have f:ϛ (CT d (#[vI (k:Nat),vS (l.getD k (none,0,0)).1 (l.getD k (none,0,0)).2.1 (l.getD k (none,0,0)).2.2]++j) wr (θ wr (.bool (P k)))):=F.o k wr (by rw[u.o];exact r) g;obtain⟨⟨M,N,O⟩,C⟩:∃z,l.getD k (none,0,0)=z:=⟨_,rfl⟩;rw[C]at D f;dsimp only at D f;clear C;have B:=g.size
   cases hp:P k with
   |true=>
    rw[hp]at f;go_wp2_with (go_at_fn d;refine f.o.mono ?_;rintro e c ⟨rfl,q⟩);go_roundw
    case rel=>exact⟨k+1,ϝ,by go_num,g.trans (q.mono B),λi m=>by
     rcases Nat.lt_succ_iff_lt_or_eq.1 m with h|h
     ·exact t.o i h
     ·rw[h];exact hp⟩
    case measure=>simp[intOf];omega
   |false=>
    have p:ϛ (allB n P=false):=DW r hp;rw[hp]at f;go_wp2_with (go_at_fn d;refine f.o.mono ?_;rintro e c ⟨rfl,q⟩);go_ret;exact⟨Aa p.o.symm,g.trans (q.mono B)⟩
  ·have p:ϛ (allB n P=true):=A9.2 (λi m=>t.o i ϝ);go_wp2;go_ret;exact⟨Aa p.o.symm,g⟩
theorem Px(f:FuncId)(O:∀A w,(callFunc f A).run Tryz.prog w= .ok (.enter f A) w)(j:Array Value)(P:Nat->Bool)(a:Ϛ)(cap:Nat)(l:List Cel)(w:ϙ)(N:l.length<=χ)(ha:vl.rowAt w a l)
 (H:∀i c,i<l.length->Ϝ w c->Calls Tryz.prog f (#[vI (i:Nat),(l.getD i default).val]++j) c (θ c (.bool (P i)))):
 η 241 #[vS a l.length cap,.func (.func f) #[] j] w (θ w (.bool (allB l.length P))):=by
 have L:ϛ (∀i c,i<l.length->Ϝ w c->CT f (#[vI (i:Nat),(l.getD i default).val]++j) c (θ c (.bool (P i)))):=H;clear H;obtain⟨n,t⟩:∃n,l.length=n:=⟨_,rfl⟩;have y:ϛ (l.length=n):=t;rw[t]at N⊢;clear t;go_enter func241,ntmps241;go_wp2
 go_loopw [9] (λi wr=> ∃k:Nat,k<=n/\i=vI k/\Ϝ w wr/\∀i,i<k->P i=true) (λi _=>n - (intOf i).toNat)
 case atStart=>exact⟨0,Nat.zero_le _,rfl,bR,λi m=>absurd m (Nat.not_lt_zero i)⟩
 case round=>
  obtain⟨k,Q,rfl,g,B⟩:=hrel;have u:ϛ (∀i,i<k->P i=true):=B;clear B;by_cases s:k<n
  ·obtain⟨b,o,e,I,J,K⟩:=ha k (by rw[y.o];exact s);subst e;have E:=cLz g I;have F:=cLz g J;have G:=cLz g K;clear I J K ha;have R:(0:Int)<=(k:Int):=ϝ;have S:(k:Int)<(n:Int):=ϝ;have d:ϛ (∀c,Ϝ wr c->CT f (#[vI (k:Nat),(l.getD k default).val]++j) c (θ c (.bool (P k)))):=λc M=>L.o k c (by rw[y.o];exact s) (bT g M);obtain⟨⟨T,U,V⟩,D⟩:∃z,l.getD k default=z:=⟨_,rfl⟩;rw[D]at E F G d;dsimp only at E F G d;clear D;unfold Cel.val at d;dsimp only at d;have C:=g.size
   cases hp:P k with
   |true=>
    rw[hp]at d;go_wp2_with (go_at_fn f;refine(d.o _ Ϩ).mono ?_;rintro e c ⟨rfl,q⟩;have r:=(g.alloc C _).trans (q.mono Ϣ));go_roundw
    case rel=>exact⟨k+1,ϝ,by go_num,r,λi m=>by
     rcases Nat.lt_succ_iff_lt_or_eq.1 m with h|h
     ·exact u.o i h
     ·rw[h];exact hp⟩
    case measure=>simp[intOf];omega
   |false=>
    have p:ϛ (allB n P=false):=DW s hp;rw[hp]at d;go_wp2_with (go_at_fn f;refine(d.o _ Ϩ).mono ?_;rintro e c ⟨rfl,q⟩;have r:=(g.alloc C _).trans (q.mono Ϣ));go_ret;exact⟨Aa p.o.symm,r⟩
  ·have p:ϛ (allB n P=true):=A9.2 (λi m=>u.o i ϝ);go_wp2;go_ret;exact⟨Aa p.o.symm,g⟩
theorem DX{a:Bool}{q:Prop} [Decidable q](h:a=true↔q):a=decide q:=by
 by_cases b:q
 ·rw[decide_eq_true b];exact h.2 b
 ·rw[decide_eq_false b]
  cases a with
  |false=>rfl
  |true=>exact absurd (h.1 rfl) b
theorem DF{W c:ϙ}(d:Ϝ W c):(∀b o,b<W.heap.size->c.cell? ⟨b,o,none⟩=W.cell? ⟨b,o,none⟩)/\(∀b o,b<W.heap.size->c.frozen? ⟨b,o,none⟩=W.frozen? ⟨b,o,none⟩):=
 ⟨λb o h=>d.cell (p:=⟨b,o,none⟩) h,λb o h=>d.frozen (p:=⟨b,o,none⟩) h⟩
def QK(l:List (Int×Int)):Bool:=allB l.length (λi=>BG (l.getD i (0,0)).1 1 4)
theorem Dw{α:Type}{l:List α}{d:α}(h:i<l.length):l.getD i d∈l:=by simp[gDe,h]
theorem Hi{α:Type}{l:List α}{d:α}{Q:α->Prop}:(∀i,i<l.length->Q (l.getD i d))↔ ∀x∈l,Q x:=by
 constructor
 ·intro h x c;obtain⟨i,b,rfl⟩:=getElem_of_mem c;have:=h i b;simpa[gDe,b]using this
 ·intro h i b;exact h _ (Dw b)
theorem YQ(l:List (Int×Int)):QK l=true↔ ∀a∈l,1<=a.1/\a.1<=4:=by
 unfold QK;rw[A9];simp only[BN];exact Hi (Q:=λa:Int×Int=>1<=a.1/\a.1<=4)
theorem YR(i:Int)(f c:Int)(w:ϙ):
 η 196 #[vI i,.agg #[vI f,vI c]] w (θ w (.bool (BG f 1 4))):=by
 go_enter func196,ntmps196;go_wp2_with (go_at_call 126;refine(BZ _ _ _ _).mono ?_;rintro e w' ⟨rfl,b⟩;subst b);go_ret;exact⟨rfl,Ϩ⟩
theorem QL(a:Ϛ)(cap:Nat)(l:List (Int×Int))(w:ϙ)(g:l.length<=χ)(ha:Es w a l):
 η 127 #[vS a l.length cap] w (θ w (.bool (QK l))):=by
 have H:=J7 196 (enters_of func196 Ϡ rfl) #[] (λi=>BG (l.getD i (0,0)).1 1 4) a cap l w g ha (λi c _ _=>YR i _ _ c);obtain⟨n,b⟩:∃n,l.length=n:=⟨_,rfl⟩;have d:ϛ (QK l=allB n (λi=>BG (l.getD i (0,0)).1 1 4)):=by show QK l=_;unfold QK;rw[b]
 rw[b]at H⊢;clear b;go_enter func127,ntmps127;go_wp2_with (go_at_call 195;refine H.mono ?_;rintro e c ⟨rfl,f⟩);go_ret;exact⟨Aa d.o.symm,f⟩
theorem Mz(p:Pln)(x:PA)(w:ϙ)(G:planAt w p x)(c:wfPlan p):
 η 69 #[Ap p x] w (θ w (.bool (decide (D4 p)))):=by
 have d:=hIz (λ(m:ϙ) (f:Ϝ w m)=>QL x.a x.ac p.aggs m c.a (CP G.a f));have b:ϛ (decide (D4 p)=(BG p.kind 1 3&&BG p.mode 1 (if p.kind=3 then 2 else 4)&&(!p.grouped||QK p.aggs))):=by
  refine(DX ?_).symm;simp only[Bool.and_eq_true,Bool.or_eq_true,BN,YQ,D4,Bool.not_eq_true',and_assoc]
  cases p.grouped<;>simp
 obtain⟨u,k,M,K,size,L,left,right,I,J,h,z,o⟩:=p;obtain⟨l,S,r,rc,T,U,rk,aa,g,Q,a,N⟩:=x;unfold Ap;dsimp only at d b⊢;clear G c;obtain⟨X,B⟩:∃n,left.length=n:=⟨_,rfl⟩;obtain⟨Y,C⟩:∃n,right.length=n:=⟨_,rfl⟩;obtain⟨Z,D⟩:∃n,I.length=n:=⟨_,rfl⟩;obtain⟨n9,E⟩:∃n,J.length=n:=⟨_,rfl⟩;obtain⟨V,A⟩:∃n,z.length=n:=⟨_,rfl⟩;obtain⟨W,s⟩:∃n,o.length=n:=⟨_,rfl⟩;rw[s]at d;rw[B,C,D,E,A,s];clear B C D E A s;obtain⟨q,F⟩:=nM (QK o);rw[F]at d b;clear F;by_cases j:u=3
 ·subst j;have y:ϛ (decide (D4 ⟨3,k,M,K,size,L,left,right,I,J,h,z,o⟩)=(true&&BG k 1 2&&(!h||q))):=b.o;clear b;have O:BG 3 1 3=true:=Ϟ
  cases f:BG k 1 2<;>rw[f]at y<;>cases h<;>cases q
  all_goals
   go_enter func69,ntmps69;go_wp2_with (first
    |(go_at_call 126;refine(BZ _ _ _ _).mono ?_;rintro e w' ⟨rfl,c⟩;subst c)
    |(go_at_call 127;refine(d.o _ Ϩ).mono ?_;rintro e m ⟨rfl,t⟩))
   go_ret;refine⟨Aa y.o.symm,?_⟩
   first
    |exact Ϩ.trans (t.mono ϟ)
    |exact Ϩ
 ·have R:(u==3)=false:=by simpa using j
  rw[if_neg j]at b;clear j
  cases h0:BG u 1 3<;>rw[h0]at b<;>cases f:BG k 1 4<;>rw[f]at b<;>cases h<;>cases q
  all_goals
   go_enter func69,ntmps69;go_wp2_with (first
    |(go_at_call 126;refine(BZ _ _ _ _).mono ?_;rintro e w' ⟨rfl,c⟩;subst c)
    |(go_at_call 127;refine(d.o _ Ϩ).mono ?_;rintro e m ⟨rfl,t⟩))
   go_ret;refine⟨Aa b.o.symm,?_⟩
   first
    |exact Ϩ.trans (t.mono ϟ)
    |exact Ϩ
def Ox(p:Pln):Bool:=if p.kind=1 then tm.Br p.low&&tm.Br p.high else decide (p.low=0)&&decide (p.high=0)
def Oy(p:Pln):Bool:=if p.kind=2 then BG p.size 1 1099511627776 else decide (p.size=0)
theorem SZ(p:Pln):decide (CX p)=(Ox p&&Oy p&&BG p.limit 1 64):=by
 refine(DX ?_).symm;unfold CX Ox Oy;simp only[Bool.and_eq_true,BN,and_assoc];refine and_congr ?_ (and_congr ?_ Iff.rfl)
 ·split
  ·simp only[Bool.and_eq_true,tm.LK,fit]
  ·simp
 ·split
  ·simp only[BN]
  ·simp
theorem NX(p:Pln)(x:PA)(w:ϙ):
 η 128 #[Ap p x] w (θ w (.bool (Ox p))):=by
 have b:ϛ (Ox p=if p.kind=1 then tm.Br p.low&&tm.Br p.high else decide (p.low=0)&&decide (p.high=0)):=rfl;obtain⟨h,E,f,u,size,A,left,right,D,J,s,q,m⟩:=p;obtain⟨l,z,r,F,B,C,G,I,g,o,a,k⟩:=x;unfold Ap;dsimp only at b⊢;by_cases d:h=1
 ·subst d;rw[if_pos rfl]at b
  cases c:tm.Br f<;>rw[c]at b
  all_goals
   go_enter func128,ntmps128;go_wp2_with (go_at_call 197;refine(tm.CF _ _).mono ?_;rintro e w' ⟨rfl,j⟩;subst j);go_ret;exact⟨Aa (by rw[b.o];rfl),Ϩ⟩
 ·have y:(h==1)=false:=by simpa using d
  rw[if_neg d]at b;clear d;by_cases c:f=0
  ·subst c;go_enter func128,ntmps128;go_wp2;go_ret;exact⟨Aa (by rw[b.o];exact Bool.eq_iff_iff.2 ϟ),Ϩ⟩
  ·have t:(f==0)=false:=by simpa using c
   rw[decide_eq_false c]at b;clear c;go_enter func128,ntmps128;go_wp2;go_ret;exact⟨Aa (by rw[b.o];rfl),Ϩ⟩
theorem NY(p:Pln)(x:PA)(w:ϙ):
 η 129 #[Ap p x] w (θ w (.bool (Oy p))):=by
 have b:ϛ (Oy p=if p.kind=2 then BG p.size 1 1099511627776 else decide (p.size=0)):=rfl;obtain⟨d,C,B,q,size,u,left,right,A,G,o,m,j⟩:=p;obtain⟨l,t,r,D,y,z,E,F,g,k,a,h⟩:=x;unfold Ap;dsimp only at b⊢;by_cases c:d=2
 ·subst c;rw[if_pos rfl]at b;go_enter func129,ntmps129;go_wp2_with (go_at_call 126;refine(BZ _ _ _ _).mono ?_;rintro e w' ⟨rfl,f⟩;subst f);go_ret;exact⟨Aa b.o.symm,Ϩ⟩
 ·have s:(d==2)=false:=by simpa using c
  rw[if_neg c]at b;clear c;go_enter func129,ntmps129;go_wp2;go_ret;exact⟨Aa (by rw[b.o];exact Bool.eq_iff_iff.2 ϟ),Ϩ⟩
theorem EK(p:Pln)(x:PA)(w:ϙ):
 η 70 #[Ap p x] w (θ w (.bool (decide (CX p)))):=by
 have d:=hIz (λ(b:ϙ)=>NX p x b);have f:=hIz (λ(b:ϙ)=>NY p x b);have c:ϛ (decide (CX p)=(Ox p&&Oy p&&BG p.limit 1 64)):=SZ p;obtain⟨q,j⟩:=nM (Ox p);obtain⟨s,k⟩:=nM (Oy p);rw[j]at d c;rw[k]at f c;clear j k;obtain⟨K,S,R,I,size,M,left,right,Q,W,C,B,z⟩:=p;obtain⟨l,L,r,T,N,O,U,V,g,A,a,y⟩:=x;unfold Ap at d f⊢;dsimp only at d f c⊢
 cases q<;>cases s
 all_goals
  go_enter func70,ntmps70;go_wp2_with (first
   |(go_at_call 128;refine(d.o _).mono ?_;rintro e b ⟨rfl,h⟩;have o:=Ϩ.trans (h.mono ϟ);obtain⟨D,F⟩:=DF h)
   |(go_at_call 129;refine(f.o _).mono ?_;rintro e X ⟨rfl,m⟩;have t:=bT o m;obtain⟨E,G⟩:=DF m;have J:w.heap.size<b.heap.size:=by have:=h.size;simp at this;omega)
   |(go_at_call 126;refine(BZ _ _ _ _).mono ?_;rintro e w' ⟨rfl,u⟩;subst u))
  go_ret;refine⟨Aa (by rw[c.o];simp),?_⟩
  first
   |exact t
   |exact o
theorem YS(i:Int)(a:Ϛ)(n c:Nat)(w:ϙ):
 η 131 #[vI i,vS a n c] w (θ w (.bool (BG n 1 4))):=by
 go_enter func131,ntmps131;go_wp2_with (go_at_call 126;refine(BZ _ _ _ _).mono ?_;rintro e w' ⟨rfl,b⟩;subst b);go_ret;exact⟨rfl,bR⟩
def IV(a b c d:Nat):Bool:=BG a 1 4&&(BG b 1 4&&(BG c 1 4&&BG d 1 4))
theorem Adt(g:Nat)(b c d f:Option Addr×Nat×Nat)(w:ϙ)
 (e0:Δ w g 0 (vS b.1 b.2.1 b.2.2)) (h:Δ w g 1 (vS c.1 c.2.1 c.2.2)) (j:Δ w g 2 (vS d.1 d.2.1 d.2.2)) (k:Δ w g 3 (vS f.1 f.2.1 f.2.2)):
 η 130 #[vS (τ g) 4 4,.func (.func 131) #[] #[]] w (θ w (.bool (IV b.2.1 c.2.1 d.2.1 f.2.1))):=by
 have H:=Pw 131 (enters_of func131 Ϡ rfl) #[] (λi=>BG (([b,c,d,f]:List (Option Addr×Nat×Nat)).getD i (none,0,0)).2.1 1 4) (τ g) 4 [b,c,d,f] w ϟ
  (λi p=>by
   match i,p with
   |0,_=>exact⟨g,0,rfl,e0⟩
   |1,_=>exact⟨g,0,rfl,h⟩
   |2,_=>exact⟨g,0,rfl,j⟩
   |3,_=>exact⟨g,0,rfl,k⟩) (λi q _ _=>YS i _ _ _ q)
 refine H.mono λe w' ⟨o,m⟩=>⟨o.trans (Aa ?_),m⟩;simp[allB,List.range,List.range.loop,IV]
def Py(p:Pln):Bool:=if p.grouped=true then BG p.aggs.length 1 4&&decide ((p.group.length:Int)<=8 - p.aggs.length)else decide (p.group.length=0)&&decide (p.aggs.length=0)
theorem YT(p:Pln):decide (D7 p)=(IV p.left.length p.right.length p.lkeys.length p.rkeys.length&&Py p):=by
 refine(DX ?_).symm;unfold D7 IV Py J6;simp only[Bool.and_eq_true,BN];refine and_congr ?_ ?_
 ·omega
 ·split
  ·simp only[Bool.and_eq_true,BN,decide_eq_true_eq];omega
  ·simp
theorem EL(p:Pln)(x:PA)(w:ϙ)(j:wfPlan p):
 η 71 #[Ap p x] w (θ w (.bool (decide (D7 p)))):=by
 have c:ϛ (decide (D7 p)=(IV p.left.length p.right.length p.lkeys.length p.rkeys.length&&Py p)):=YT p;have F:ϛ (Py p=if p.grouped=true then BG p.aggs.length 1 4&&decide ((p.group.length:Int)<=8 - p.aggs.length)else decide (p.group.length=0)&&decide (p.aggs.length=0)):=rfl;have K:=j.g;have L:=j.a;rw[F.o]at c;obtain⟨ai,al,ak,ag,size,aj,left,right,ad,af,G,Z,V⟩:=p;obtain⟨l,M,r,R,N,O,S,T,g,gc,a,ac⟩:=x;unfold Ap;dsimp only at c K L⊢;clear F j;obtain⟨u,B⟩:∃n,left.length=n:=⟨_,rfl⟩;obtain⟨y,C⟩:∃n,right.length=n:=⟨_,rfl⟩;obtain⟨z,D⟩:∃n,ad.length=n:=⟨_,rfl⟩;obtain⟨A,E⟩:∃n,af.length=n:=⟨_,rfl⟩;obtain⟨Q,o⟩:∃n,Z.length=n:=⟨_,rfl⟩;obtain⟨ae,q⟩:∃n,V.length=n:=⟨_,rfl⟩;rw[o]at K;rw[q]at L;rw[B,C,D,E,o,q]at c;rw[B,C,D,E,o,q];clear B C D E o q;have k:ϛ (∀(h:Nat) (d:ϙ),Δ d h 0 (vS l u M)->Δ d h 1 (vS r y R)->Δ d h 2 (vS N z O)->Δ d h 3 (vS S A T)->
  η 130 #[vS (τ h) 4 4,.func (.func 131) #[] #[]] d (θ d (.bool (IV u y z A)))):=
  λh d e0 W X Y=>Adt h (l,u,M) (r,y,R) (N,z,O) (S,A,T) d e0 W X Y
 obtain⟨sb,J⟩:=nM (IV u y z A);rw[J]at k c;clear J
 cases sb
 ·cases G
  all_goals
   go_enter func71,ntmps71;go_wp2_with (first
    |(go_at_call 130;refine(k.o _ _ ϡ ϡ ϡ ϡ).mono ?_;rintro e d ⟨rfl,b⟩;have f:=(Ϩ.alloc ϟ _).trans (b.mono Ϣ);obtain⟨s,t⟩:=DF b))
   go_ret;exact⟨Aa (by rw[c.o];simp),f⟩
 ·cases G
  ·rw[if_neg Ϟ]at c;by_cases m:Q=0
   ·subst m;go_enter func71,ntmps71;go_wp2_with (first
     |(go_at_call 130;refine(k.o _ _ ϡ ϡ ϡ ϡ).mono ?_;rintro e d ⟨rfl,b⟩;have f:=(Ϩ.alloc ϟ _).trans (b.mono Ϣ);obtain⟨s,t⟩:=DF b))
    go_ret;exact⟨Aa (by rw[c.o];exact Bool.eq_iff_iff.2 ϟ),f⟩
   ·have ah:((Q:Int)==0)=false:=by simpa using m
    rw[decide_eq_false m]at c;clear m;go_enter func71,ntmps71;go_wp2_with (first
     |(go_at_call 130;refine(k.o _ _ ϡ ϡ ϡ ϡ).mono ?_;rintro e d ⟨rfl,b⟩;have f:=(Ϩ.alloc ϟ _).trans (b.mono Ϣ);obtain⟨s,t⟩:=DF b))
    go_ret;exact⟨Aa (by rw[c.o];rfl),f⟩
  ·rw[if_pos rfl]at c;obtain⟨U,I⟩:=nM (BG ae 1 4);rw[I]at c
   cases U
   ·go_enter func71,ntmps71;go_wp2_with (first
     |(go_at_call 130;refine(k.o _ _ ϡ ϡ ϡ ϡ).mono ?_;rintro e d ⟨rfl,b⟩;have f:=(Ϩ.alloc ϟ _).trans (b.mono Ϣ);obtain⟨s,t⟩:=DF b)
     |(go_at_call 126;refine(BZ _ _ _ _).mono ?_;rintro e w' ⟨rfl,j⟩;subst j))
    go_ret;exact⟨Aa (by rw[c.o];rfl),f⟩
   ·have aa:=(BN _ _ _).1 I;obtain⟨u1,u2⟩:=aa;go_enter func71,ntmps71;go_wp2_with (first
     |(go_at_call 130;refine(k.o _ _ ϡ ϡ ϡ ϡ).mono ?_;rintro e d ⟨rfl,b⟩;have f:=(Ϩ.alloc ϟ _).trans (b.mono Ϣ);obtain⟨s,t⟩:=DF b)
     |(go_at_call 126;refine(BZ _ _ _ _).mono ?_;rintro e w' ⟨rfl,j⟩;subst j))
    go_ret;exact⟨Aa (by rw[c.o];simp),f⟩
theorem Tryz.info3:(Tryz.prog.info? 3).map (λi=>(i.zero,i.size,i.bytes))=some (some (vI 0),1,8):=Ϡ
def IW(n:Int):Value:=vI n
def CQ(w:World)(base:Nat)(v:Value)(l:List Int):Prop:=w.ownsRow base 3 1 v l.length (l.map IW)
theorem QM{w':ϙ}(h:w.ownsRow base e size v n xs)(o:Ϝ w w'):w'.ownsRow base e size v n xs:=by
 refine⟨h.1,?_⟩;rcases h.2 with j|⟨g,d,f,q,k,b,m⟩
 ·exact .inl j
 ·have c:g<w.heap.size:=by
   rcases Nat.lt_or_ge g w.heap.size with c|p
   ·exact c
   ·rw[Array.getElem?_eq_none p]at b;cases b
  exact .inr ⟨g,d,f,q,k,by rw[o.block g c];exact b,m⟩
theorem GA(b c j:Nat):(⟨b,c,none⟩:Addr).add j=⟨b,c+j,none⟩:=by unfold Addr.add;split<;>simp_all
theorem Ce(h:w.ownsRow base e size v n xs):∃b c,v=vS b n c/\(0<n->∃g,b=some ⟨g,0,none⟩):=by
 rcases h.2 with⟨rfl,d⟩|⟨g,c,f,rfl,_⟩
 ·exact⟨none,0,by rw[d],λh=>absurd d ϝ⟩
 ·exact⟨_,_,rfl,λ_=>⟨g,rfl⟩⟩
theorem Il{ad:Ϛ}{cap:Nat}(h:CQ w base (vS ad n cap) l):Ay w ad l/\n=l.length:=by
 obtain⟨k,m,j,c⟩:=Ce h;injection j with ha f b
 subst ha b;refine⟨λi d=>?_,f⟩;obtain⟨g,rfl⟩:=c ϝ;have b:=World.ownsRow.cells h (g:=g) rfl i (IW (l.getD i 0)) (by simp[getElem?_map,gDe,d]);rw[GA]at b;exact⟨g,0,rfl,b⟩
theorem IC(v:Value)(h:v.cells.size=1)(n:Nat):(Builtin.zeroCells v.cells n).size=n:=by
 simp[Builtin.zeroCells,h]
theorem YU(n:Nat)(w:ϙ)(z:n<=1000):
 η 246 #[ψ,vI n] w λe w'=>(∃v,e= .returned v/\CQ w' w.heap.size v [])/\Ϝ w w':=by
 obtain⟨r,o,q,y,f⟩:=info_parts Tryz.info3;by_cases t:n=0
 ·subst t;go_enter func246,ntmps246;go_wp2;go_ret;exact⟨⟨_,rfl,World.ownsRow_nil _ _ _ _⟩,bR⟩
 ·have d:∀g,(Builtin.append_ #[29,3] g #[ψ,vI (n:Int)]).run Tryz.prog w=
   .ok (vS (τ w) n (grownCap w n 0 3)) (w.drew.alloc (.cells (Builtin.zeroCells (Value.int .i64 0).cells n++Builtin.zeroCells (Value.int .i64 0).cells (grownCap w n 0 3 - n)) 3)):=λg=>by
   have h:=Lib.run_append_grow_zeros w 29 3 g 3 r (vI 0) .i64 .i64 underlying29 underlying3 o q none 0 0 [] (run_firstCells_none w.drew r.size 0 0 0) n ϝ ϝ ϝ ϝ (by rw[f];omega) (growslice_fits ϝ (by rw[f];omega));simpa using h
  have u:n<=grownCap w n 0 3:=grownCap_ge w _ _ _;have b:grownCap w n 0 3<=maxLen:=grownCap_le_maxLen w n 0 3 ϧ;obtain⟨G,k⟩:∃G,G=grownCap w n 0 3:=⟨_,rfl⟩;rw[<-k]at d u b;have p:(Builtin.zeroCells (Value.int .i64 0).cells n++Builtin.zeroCells (Value.int .i64 0).cells (G - n)).size=G * 1:=by
   rw[Array.size_append,IC _ rfl,IC _ rfl];omega
  obtain⟨j,m⟩:∃c,Builtin.zeroCells (Value.int .i64 0).cells n++Builtin.zeroCells (Value.int .i64 0).cells (G - n)=c:=⟨_,rfl⟩;rw[m]at d p;have s:ϛ (CQ (w.drew.alloc (.cells j 3)) w.heap.size (vS (τ w) 0 G) []):=World.ownsRow_made (base:=w.heap.size) (e:=3) (size:=1) w.drew j G nR b p;have A:0<(n:Int):=ϝ;unfold maxLen at b;clear m k o q y f;go_enter func246,ntmps246;go_wp2_with (at_builtin;refine Lib.wpList_append_run _ rfl _ _ _ _ rfl _ _ rfl rfl _ _ (d _) ?_);go_ret;exact⟨⟨_,rfl,s.o⟩,(bR.drew).alloc nR _⟩
theorem QN(l:List Int):∀u∈l.map IW,u.oneCell'=true:=by
 intro u b;obtain⟨n,_,rfl⟩:=mem_map.1 b;rfl
theorem M0{b f:Nat}(h:Ay w (some ⟨b,f,none⟩) l):∀j u,(l.map IW)[j]? =some u->w.cell? ((⟨b,f,none⟩:Addr).add j)=some u:=by
 intro j u d;rw[getElem?_map]at d;obtain⟨n,c,rfl⟩:=Option.map_eq_some_iff.1 d;obtain⟨g,m⟩:=List.getElem?_eq_some_iff.1 c;obtain⟨k,o,e,x⟩:=h j g
 cases e
 rw[GA,x];simp[gDe,c,IW]
theorem Ta(g:Nat)(T U:Ϛ)(X Y:Nat)(c d:List Int)(w:ϙ)(n1:0<c.length)(n2:0<d.length)(m1:c.length<=400)(m2:d.length<=400)(f:Ay w T c)(k:Ay w U d)
 (M:Δ w g 0 (vS T c.length X)) (N:Δ w g 1 (vS U d.length Y)):
 η 198 #[vS (τ g) 2 2] w λe w'=>(∃y Z,e= .returned (vS y (c++d).length Z)/\CQ w' w.heap.size (vS y (c++d).length Z) (c++d))/\Ϝ w w':=by
 obtain⟨A,hi,af,ag,ah⟩:=info_parts Tryz.info3;have m:ϛ (Tryz.prog.info? 3=some A/\A.zero=some (vI 0)/\A.size=1/\A.bytes=8):=⟨hi,af,ag,ah⟩;clear hi af ag ah;obtain⟨V,o1,rfl,_⟩:=f 0 n1;obtain⟨W,o2,rfl,_⟩:=k 0 n2;have ai:ϛ (∀w',Ϝ w w'->∀j u,(c.map IW)[j]? =some u->w'.cell? ((⟨V,o1,none⟩:Addr).add j)=some u):=λw' p=>M0 (Ao f p);have aj:ϛ (∀w',Ϝ w w'->∀j u,(d.map IW)[j]? =some u->w'.cell? ((⟨W,o2,none⟩:Addr).add j)=some u):=λw' p=>M0 (Ao k p);have ac:ϛ ((c.map IW).length=c.length):=lMp ..;have ae:ϛ ((d.map IW).length=d.length):=lMp ..;clear f k;obtain⟨q,G⟩:∃n,c.length=n:=⟨_,rfl⟩;obtain⟨B,I⟩:∃n,d.length=n:=⟨_,rfl⟩;have E:ϛ (c.length=q):=G;have R:ϛ (d.length=B):=I;rw[G]at n1 m1 M ac;rw[I]at n2 m2 N ae;rw[lAp,G,I];clear G I;have HG:ϛ (∀r,CT 246 #[ψ,vI ((q:Int)+B)] r λe w'=>(∃v,e= .returned v/\CQ w' r.heap.size v [])/\Ϝ r w'):=λr=>by
  have h:=YU (q+B) r ϝ;rwa[Int.natCast_add]at h
 go_enter func198,ntmps198;go_wp2
 go_loop [3,11] (λs i=>(i=vI 0/\s=vI 0)\/(i=vI 1/\s=vI q)\/(i=vI 2/\s=vI ((q:Int)+B))) (λ_ i=>2 - (intOf i).toNat)
 case atStart=>exact .inl ⟨rfl,rfl⟩
 case round=>
  rcases hrel with⟨rfl,rfl⟩|⟨rfl,rfl⟩|⟨rfl,rfl⟩
  ·go_wp2
   go_round
   case rel=>exact .inr (.inl ⟨rfl,rfl⟩)
   case measure=>simp[intOf]
  ·go_wp2
   go_round
   case rel=>exact .inr (.inr ⟨rfl,rfl⟩)
   case measure=>simp[intOf]
  ·go_wp2_with fail;refine(HG.o _).mono ?_;rintro e r ⟨⟨v,rfl,ab⟩,F⟩;have f1:=cLz F M;have f2:=cLz F N;have S:ϛ (CQ r w.heap.size v []):=ab;clear ab;go_wp2
   go_loopw [6,27] (λx i wr=> ∃l:List Int,((i=vI 0/\l=[])\/(i=vI 1/\l=c)\/(i=vI 2/\l=c++d))/\CQ wr w.heap.size x l/\Ϝ w wr) (λ_ i _=>2 - (intOf i).toNat)
   case atStart=>exact⟨[],.inl ⟨rfl,rfl⟩,S.o,F⟩
   case round=>
    obtain⟨l,hl,aa,o⟩:=hrel;have g1:=cLz o M;have g2:=cLz o N;have t:ϛ (CQ wr w.heap.size u6 l):=aa;have J:=o.size;clear aa f1 f2 F S;have ak:(u27=vI 0/\[]=l)\/(u27=vI 1/\c=l)\/(u27=vI 2/\c++d=l):=by
     rcases hl with⟨f,k⟩|⟨f,k⟩|⟨f,k⟩
     ·exact .inl ⟨f,k.symm⟩
     ·exact .inr (.inl ⟨f,k.symm⟩)
     ·exact .inr (.inr ⟨f,k.symm⟩)
    clear hl;rcases ak with⟨rfl,rfl⟩|⟨rfl,rfl⟩|⟨rfl,rfl⟩
    ·go_wp2_with (at_builtin;refine wpList_append_own _ rfl (.tmp 31) (.tmp 32) 29 rfl w.heap.size 3 A (vI 0) 1 8 underlying29 m.o.1 m.o.2.1 m.o.2.2.1 m.o.2.2.2 rfl Ϟ _ _ _ rfl t.o ⟨V,o1,none⟩ q X (c.map IW) rfl (by rw[ac.o,Nat.mul_one]) (ai.o _ o) (QN c) (by unfold maxLen;(simp only[length_nil];omega)) (by(simp only[length_nil];omega)) J ?_;intro Q D C O am);have K:ϛ (CQ D w.heap.size Q (c)):=by
      show D.ownsRow _ _ _ _ (c).length ((c).map IW);simpa[E.o]using C
     obtain⟨y,L,z,hg⟩:=Ce C;subst z;go_roundw
     case rel=>exact⟨c,.inr (.inl ⟨rfl,rfl⟩),K.o,o.grown O J (λb p=>(World.ownsRow.lt t.o b p).1)⟩
     case measure=>simp[intOf]
    ·go_wp2_with (at_builtin;refine wpList_append_own _ rfl (.tmp 31) (.tmp 32) 29 rfl w.heap.size 3 A (vI 0) 1 8 underlying29 m.o.1 m.o.2.1 m.o.2.2.1 m.o.2.2.2 rfl Ϟ _ _ _ rfl t.o ⟨W,o2,none⟩ B Y (d.map IW) rfl (by rw[ae.o,Nat.mul_one]) (aj.o _ o) (QN d) (by unfold maxLen;(rw[E.o];omega)) (by(rw[E.o];omega)) J ?_;intro Q D C O am);have K:ϛ (CQ D w.heap.size Q (c++d)):=by
      show D.ownsRow _ _ _ _ (c++d).length ((c++d).map IW);rw[lAp,map_append,R.o];exact C
     obtain⟨y,L,z,hg⟩:=Ce C;subst z;go_roundw
     case rel=>exact⟨c++d,.inr (.inr ⟨rfl,rfl⟩),K.o,o.grown O J (λb p=>(World.ownsRow.lt t.o b p).1)⟩
     case measure=>simp[intOf]
    ·obtain⟨y,L,z,hg⟩:=Ce t.o;have al:(c++d).length=q+B:=by rw[lAp,E.o,R.o]
     rw[al]at z;subst z;go_wp2;go_ret;exact⟨⟨y,L,rfl,t.o⟩,o⟩
theorem Cy(p:Pln)(x:PA)(w:ϙ)(k:planAt w p x)(y:0<p.left.length)(z:0<p.right.length)(t:p.left.length<=400)(u:p.right.length<=400):
 η 133 #[Ap p x] w λe w'=>(∃d f,e= .returned (vS d (Bb p).length f)/\CQ w' w.heap.size (vS d (Bb p).length f) (Bb p))/\Ϝ w w':=by
 have K:ϛ (∀g b,Ϝ w b->Δ b g 0 (vS x.l p.left.length x.lc)->Δ b g 1 (vS x.r p.right.length x.rc)->
  η 198 #[vS (τ g) 2 2] b λe w'=>(∃d f,e= .returned (vS d (Bb p).length f)/\CQ w' b.heap.size (vS d (Bb p).length f) (Bb p))/\Ϝ b w'):=
  λg b m B C=>Ta g x.l x.r x.lc x.rc p.left p.right b y z t u (Ao k.l m) (Ao k.r m) B C
 obtain⟨L,o⟩:=nM ((Bb p).length);rw[o]at K⊢;clear o;obtain⟨M,q⟩:=nM (Bb p);rw[q]at K⊢;clear q k y z t u;obtain⟨S,Z,Y,R,size,U,left,right,X,ab,Q,O,J⟩:=p;obtain⟨l,T,r,rc,V,W,rk,aa,g,N,a,I⟩:=x;unfold Ap;dsimp only at K⊢;obtain⟨n6,h⟩:∃n,left.length=n:=⟨_,rfl⟩;obtain⟨n7,j⟩:∃n,right.length=n:=⟨_,rfl⟩;rw[h,j]at K;rw[h,j];clear h j;go_enter func133,ntmps133;go_wp2_with (go_at_call 198;refine(K.o _ _ (Ϩ.alloc ϟ _) ϡ ϡ).mono ?_;rintro e b ⟨⟨d,f,rfl,s⟩,G⟩);go_ret;exact⟨⟨d,f,rfl,⟨s.1,s.2.imp id (λ⟨g,c,A,D,E,F⟩=>⟨g,c,A,D,by simp at E;omega,F⟩)⟩⟩,(Ϩ.alloc ϟ _).trans (G.mono Ϣ)⟩
theorem YV(i c:Int)(w:ϙ):
 η 134 #[vI i,vI c] w (θ w (.bool (BG c 1 3))):=by
 go_enter func134,ntmps134;go_wp2_with (go_at_call 126;refine(BZ _ _ _ _).mono ?_;rintro e w' ⟨rfl,b⟩;subst b);go_ret;exact⟨rfl,bR⟩
theorem Wq(p:Pln):decide (De p)=allB (Bb p).length (λi=>BG ((Bb p).getD i 0) 1 3):=by
 refine(DX ?_).symm;unfold De;rw[A9];simp only[BN];exact Hi (Q:=λc:Int=>1<=c/\c<=3)
theorem M3(p:Pln)(x:PA)(w:ϙ)(k:planAt w p x)(s:0<p.left.length)(t:0<p.right.length)(o:p.left.length<=400)(q:p.right.length<=400):
 η 72 #[Ap p x] w (θ w (.bool (decide (De p)))):=by
 have K:ϛ (∀b,Ϝ w b->CT 133 #[Ap p x] b λe w'=>(∃c d,e= .returned (vS c (Bb p).length d)/\CQ w' b.heap.size (vS c (Bb p).length d) (Bb p))/\Ϝ b w'):=
  λb y=>Cy p x b (Ae k y) s t o q
 have C:(Bb p).length<=800:=by unfold Bb;rw[lAp];omega
 have f:ϛ (∀c d b,Ay b c (Bb p)->CT 132 #[vS c (Bb p).length d,.func (.func 134) #[] #[]] b (θ b (.bool (decide (De p))))):=by
  intro c d b D;rw[Wq];exact Gz 134 (enters_of func134 Ϡ rfl) #[] (λi=>BG ((Bb p).getD i 0) 1 3) c d (Bb p) b ϝ D (λi u _ _=>YV i _ u)
 obtain⟨tb,m⟩:=nM (decide (De p));rw[m]at f⊢;obtain⟨I,h⟩:=nM ((Bb p).length);rw[h]at K f;obtain⟨J,j⟩:=nM (Bb p);rw[j]at K f;clear j C h m k s t o q;obtain⟨Q,X,W,O,size,S,left,right,V,ab,N,M,G⟩:=p;obtain⟨l,R,r,Y,T,U,Z,aa,g,L,a,F⟩:=x;unfold Ap at K⊢;dsimp only at K⊢;go_enter func72,ntmps72;go_wp2_with (first
  |(go_at_call 133;refine(K.o _ Ϩ).mono ?_;rintro e b ⟨⟨c,d,rfl,E⟩,z⟩;have B:=Ϩ.trans (z.mono ϟ))
  |(go_at_call 132;refine(f.o _ _ _ (Il E).1).mono ?_;rintro e u ⟨rfl,A⟩))
 go_ret;exact⟨rfl,bT B A⟩
def Pz(l:List Int)(x:Int):Int:=if l.findIdx (· ==x)<l.length then((l.findIdx (· ==x):Nat):Int)else -1
theorem YW{k:Nat}(b:k<l.length)(h:l.getD k 0=x)(d:∀i,i<k->l.getD i 0≠x):Pz l x=k:=by
 have e:l.findIdx (· ==x)=k:=by
  rw[findIdx_eq b];refine⟨by simpa[gDe,b]using h,λj c=>?_⟩;have:=d j c;simpa[gDe,show j<l.length by omega]using this
 unfold Pz;rw[e,if_pos b]
theorem YX(d:∀i,i<l.length->l.getD i 0≠x):Pz l x= -1:=by
 unfold Pz;rw[if_neg];intro h;have c:=findIdx_getElem (w:=h);have b:=d _ h;simp only[gDe,gEe h,Option.getD_some]at b;exact b (by simpa using c)
theorem Wr(a:Ϛ)(cap:Nat)(l:List Int)(x:Int)(w:ϙ)(t:l.length<=χ)(ha:Ay w a l):
 η 202 #[vS a l.length cap,vI x] w λe w'=>e= .returned (vI (Pz l x))/\w'=w:=by
 obtain⟨n,m⟩:∃n,l.length=n:=⟨_,rfl⟩;have j:ϛ (l.length=n):=m;rw[m]at t⊢;clear m;go_enter func202,ntmps202;go_wp2
 go_loop [8] (λi=> ∃k:Nat,k<=n/\i=vI k/\∀i,i<k->l.getD i 0≠x) (λi=>n - (intOf i).toNat)
 case atStart=>exact⟨0,Nat.zero_le _,rfl,λi d=>absurd d (Nat.not_lt_zero i)⟩
 case round=>
  obtain⟨k,A,rfl,r⟩:=hrel;have g:ϛ (∀i,i<k->l.getD i 0≠x):=r;clear r;by_cases s:k<n
  ·obtain⟨b,o,e,u⟩:=ha k (by rw[j.o];exact s);subst e;clear ha;have B:(0:Int)<=(k:Int):=ϝ;have C:(k:Int)<(n:Int):=ϝ;obtain⟨z,p⟩:=nM (l.getD k 0);have q:ϛ (l.getD k 0=z):=p;rw[p]at u;clear p;by_cases f:x=z
   ·subst f;have c:ϛ (Pz l x=k):=YW (by rw[j.o];exact s) q.o g.o;go_wp2;go_ret;exact⟨Aj c.o.symm,rfl⟩
   ·have y:(x==z)=false:=by simpa using f
    have c:ϛ (l.getD k 0≠x):=by show l.getD k 0≠x;rw[q.o];exact λh=>f h.symm
    clear f;go_wp2
    go_round
    case rel=>exact⟨k+1,ϝ,by go_num,λi d=>by
     rcases Nat.lt_succ_iff_lt_or_eq.1 d with h|h
     ·exact g.o i h
     ·rw[h];exact c.o⟩
    case measure=>simp[intOf];omega
  ·have c:ϛ (Pz l x= -1):=YX (λi d=>g.o i (by rw[j.o]at d;omega));go_wp2;go_ret;exact⟨Aj c.o.symm,rfl⟩
theorem ED(x:Int)(a:Ϛ)(n cap:Nat)(w:ϙ)(c:n<=9223372036854775807):
 η 201 #[vI x,vS a n cap] w λe w'=>e= .returned (.bool (BG x 0 ((n:Int) - 1)))/\w'=w:=by
 go_enter func201,ntmps201;go_wp2_with (go_at_call 126;refine(BZ _ _ _ _).mono ?_;rintro e w' ⟨rfl,b⟩;subst b);go_ret;exact⟨rfl,rfl⟩
def M4(l:List Int)(n:Nat)(i:Nat):Bool:=BG (l.getD i 0) 0 ((n:Int) - 1)&&decide (Pz l (l.getD i 0)=i)
theorem Hj(h:i<l.length):l.getD i 0=l[i]:=by simp[gDe,h]
theorem Tb(l:List Int)(n:Nat):decide (AV l n)=allB l.length (M4 l n):=by
 refine(DX ?_).symm;rw[A9];unfold AV M4;simp only[Bool.and_eq_true,BN,decide_eq_true_eq]
 constructor
 ·intro h;refine⟨(Hi (Q:=λx:Int=>0<=x/\x<(n:Int))).1 (λi b=>⟨(h i b).1.1,by have:=(h i b).1.2;omega⟩),?_⟩;rw[pairwise_iff_getElem];intro i j b f m e;have g:=(h i b).2;have c:=(h j f).2;rw[Hj b]at g;rw[Hj f,<-e]at c;omega
 ·intro ⟨g,c⟩ i b;have k:=g _ (Dw (d:=0) b);refine⟨⟨k.1,ϝ⟩,YW b rfl (λj f=>?_)⟩;rw[pairwise_iff_getElem]at c;rw[Hj b,Hj ϝ];exact c j i ϝ b f
theorem Abp(i:Nat)(f g:Nat)(b s:Ϛ)(j t n:Nat)(l:List Int)(w:ϙ)(k:l.length<=χ)(y:n<=9223372036854775807)(ha:Ay w b l)
 (A:Δ w g 0 (vS s n t)) (u:Δ w f 0 (vS b l.length j)):
 η 200 #[vI i,vI (l.getD i 0),μ g,μ f] w (θ w (.bool (M4 l n i))):=by
 have K:=hIz (λ(q:ϙ) x (h:Ay q b l)=>Wr b j l x q k h);have c:ϛ (M4 l n i=(BG (l.getD i 0) 0 ((n:Int) - 1)&&decide (Pz l (l.getD i 0)=i))):=rfl;obtain⟨z,p⟩:=nM (l.getD i 0);rw[p]at c⊢;obtain⟨m,o⟩:=nM l.length;rw[o]at K u;have r:ϛ (Ay w b l):=ha;clear p o ha k
 cases hb:BG z 0 ((n:Int) - 1)<;>rw[hb]at c
 all_goals
  go_enter func200,ntmps200;go_wp2_with (first
   |(go_at_call 201;refine(ED _ _ _ _ _ y).mono ?_;rintro e w' ⟨rfl,d⟩;subst d)
   |(go_at_call 202;refine(K.o _ _ r.o).mono ?_;rintro e w' ⟨rfl,d⟩;subst d))
  go_ret;exact⟨Aa (by rw[c.o];exact Bool.eq_iff_iff.2 ϟ),bR⟩
theorem EN(b h:Ϛ)(g j n:Nat)(l:List Int)(w:ϙ)(o:l.length<=χ)(r:n<=9223372036854775807)(ha:Ay w b l):
 η 136 #[vS b l.length g,vS h n j] w (θ w (.bool (decide (AV l n)))):=by
 have K:ϛ (∀d f c,Ay c b l->Δ c f 0 (vS h n j)->Δ c d 0 (vS b l.length g)->
  η 132 #[vS b l.length g,.func (.func 200) #[] #[μ f,μ d]] c (θ c (.bool (decide (AV l n))))):=by
  intro d f c p y u;rw[Tb];exact Gz 200 (enters_of func200 Ϡ rfl) #[μ f,μ d] (M4 l n) b g l c o p (λi A _ k=>Abp i d f b h g j n l A o r (Ao p k) (cLz k y) (cLz k u))
 obtain⟨m,q⟩:=nM l.length;rw[q]at K⊢;obtain⟨B,s⟩:=nM (decide (AV l n));rw[s]at K⊢;have t:ϛ (Ay w b l):=ha;clear q s ha o r;go_enter func136,ntmps136;go_wp2_with (go_at_call 132;refine(K.o _ _ _ (Ao t.o (Ϩ.alloc ϟ _)) ϡ ϡ).mono ?_;rintro e c ⟨rfl,z⟩);go_ret;exact⟨rfl,(Ϩ.alloc ϟ _).trans (z.mono Ϣ)⟩
end pl
end Go.Proofs.YtfkihidbnfkbaaaGreatDoor
