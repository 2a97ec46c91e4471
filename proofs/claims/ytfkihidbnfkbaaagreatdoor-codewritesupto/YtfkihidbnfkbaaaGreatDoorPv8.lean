import Derived.Test.YtfkihidbnfkbaaaGreatDoorPv4
import Derived.Lib.AppendZerosOnto
set_option linter.all false
set_option maxHeartbeats 4000000
set_option maxRecDepth 100000
open Go.ChangeShapes Go.WideShapes Go.ChangeAt Go.RowKit Go.Joins Go.Deep List
namespace Go.Proofs.YtfkihidbnfkbaaaGreatDoor
open Go.Proofs.Tryz
namespace tm
def Ac4(a b:Int):Bool:=Bt a&&Bt b
theorem Wx(b:Nat)(x y:Int)(w:Ϡ)
 (h0:Δ w b 0 (vI x)) (h1:Δ w b 1 (vI y)):
 χ 366 #[vS (ϋ b) 2 2] w λe w'=>e= .returned (.bool (Ac4 x y))/\w'=w:=by
 have h:=Vj b [x,y] w Ϧ (λi d=>by
  match i,d with
  |0,_=>exact h0
  |1,_=>exact h1)
 refine h.mono λe w' ⟨c,f⟩=>⟨?_,f⟩;rw[c];simp[Ac4]
def start(t s:Int):Int:=t - t % s
theorem ZJ(t s:Int)(ht:t<0)(b:0<s):t.tmod s= -((-t) % s):=by
 have:=Int.neg_tmod (-t) s;rw[Int.neg_neg]at this;rw[this,Int.tmod_eq_emod_of_nonneg Ϥ]
theorem Ac5(t s:Int)(b:0<s):(-t % s=0/\t % s=0)\/(0< -t % s/\t % s=s - -t % s):=by
 have p:=Int.emod_nonneg t (show s≠0 by omega);have q:=Int.emod_lt_of_pos t b;have r:=Int.emod_nonneg (-t) (show s≠0 by omega);have u:=Int.emod_lt_of_pos (-t) b;have g:=Int.mul_ediv_add_emod t s;have j:=Int.mul_ediv_add_emod (-t) s;have c:s * (t/s+ -t/s)= -(t % s+ -t % s):=by rw[Int.mul_add];omega
 obtain⟨k,d⟩:∃k,t/s+ -t/s=k:=⟨_,rfl⟩;rw[d]at c;have m:k<=0:=by
  rcases Int.lt_or_le 0 k with h|h
  ·have:=Int.mul_pos b h;omega
  ·exact h
 have o: -2<k:=by
  rcases Int.lt_or_le (-2) k with h|h
  ·exact h
  ·have:=Int.mul_le_mul_of_nonneg_left h (Int.le_of_lt b);omega
 have f:k=0\/k= -1:=Ϥ;rcases f with rfl|rfl<;>omega
theorem tup3{a b c d f g:Int}(h1:a=d)(h:b=f)(j:c=g):
 Ending.returned (.tuple #[vI a,vI b,vI c])= .returned (.tuple #[vI d,vI f,vI g]):=by rw[h1,h,j]
theorem ZK(t s:Int)(b:0<s):start t s<=t/\t<start t s+s:=by
 unfold start;have:=Int.emod_nonneg t (show s≠0 by omega);have:=Int.emod_lt_of_pos t b;omega
theorem Ux(t s:Int)(w:Ϡ)(h:Bt t=true)(h1:1<=s)(m:s<=1099511627776):
 χ 367 #[vI t,vI s] w λe w'=>e= .returned (.tuple #[vI (start t s),vI (start t s+s),Ϗ])/\w'=w:=by
 have g:=(KY t).1 h;obtain⟨j,k⟩:=g;have p:¬s<1:=Ϥ;have q:¬1099511627776<s:=Ϥ;have u:(s==0)=false:=ϩ;by_cases r:0<=t
 ·have d:=Int.emod_nonneg t (show s≠0 by omega);have f:=Int.emod_lt_of_pos t (show 0<s by omega);go_enter func367,ntmps367;go_wp2_with (go_at_call 197;refine(Dr _ _).mono ?_;rintro e w' ⟨rfl,b⟩;subst b)
  go_ret3
  exact⟨rfl,rfl⟩
 ·have e0:=ZJ t s Ϥ Ϥ;have d:=Int.emod_nonneg (-t) (show s≠0 by omega);have f:=Int.emod_lt_of_pos (-t) (show 0<s by omega);have c:Ϣ ((-t % s=0/\t % s=0)\/(0< -t % s/\t % s=s - -t % s)):=Ac5 t s Ϥ;go_enter func367,ntmps367;go_wp2_with (go_at_call 197;refine(Dr _ _).mono ?_;rintro e w' ⟨rfl,b⟩;subst b)
  all_goals
   have o:=c.o
   go_ret3
   exact⟨tup3 (by unfold start;omega) (by unfold start;omega) rfl,rfl⟩
end tm
namespace pl
open vl
variable {w w' : Ϡ} {a : ϡ}
def Ay(w:World)(a:Option Addr)(l:List Int):Prop:=
 ∀i,i<l.length->∃b off,a=some ⟨b,off,none⟩/\Δ w b (off+i) (vI (l.getD i 0))
def DI(w:World)(a:Option Addr)(l:List (Int×Int)):Prop:=
 ∀i,i<l.length->∃b off,a=some ⟨b,off,none⟩/\Δ w b (off+i * 2) (vI (l.getD i (0,0)).1)/\Δ w b (off+i * 2+1) (vI (l.getD i (0,0)).2)
theorem Al{l:List Int}(h:Ay w a l)(c:ϣ w w'):Ay w' a l:=by
 intro i d;obtain⟨b,o,e,x⟩:=h i d;exact⟨b,o,e,cLz c x⟩
theorem Cp{l:List (Int×Int)}(h:DI w a l)(c:ϣ w w'):DI w' a l:=by
 intro i d;obtain⟨b,o,e,x,y⟩:=h i d;exact⟨b,o,e,cLz c x,cLz c y⟩
structure Pln where
 kind:Int
 mode:Int
 low:Int
 high:Int
 size:Int
 limit:Int
 left:List Int
 right:List Int
 lkeys:List Int
 rkeys:List Int
 grouped:Bool
 group:List Int
 aggs:List (Int×Int)
structure PA where
 l:Option Addr
 lc:Nat
 r:Option Addr
 rc:Nat
 lk:Option Addr
 lkc:Nat
 rk:Option Addr
 rkc:Nat
 g:Option Addr
 gc:Nat
 a:Option Addr
 ac:Nat
def Aj(p:Pln)(x:PA):Value:=
 .agg #[vI p.kind,vI p.mode,vI p.low,vI p.high,vI p.size,vI p.limit,
  vS x.l p.left.length x.lc,vS x.r p.right.length x.rc,vS x.lk p.lkeys.length x.lkc,vS x.rk p.rkeys.length x.rkc,.bool p.grouped,vS x.g p.group.length x.gc,vS x.a p.aggs.length x.ac]
structure planAt(w:World)(p:Pln)(x:PA):Prop where
 l:Ay w x.l p.left
 r:Ay w x.r p.right
 lk:Ay w x.lk p.lkeys
 rk:Ay w x.rk p.rkeys
 g:Ay w x.g p.group
 a:DI w x.a p.aggs
theorem Ae{p:Pln}{x:PA}(h:planAt w p x)(b:ϣ w w'):planAt w' p x:=
 ⟨Al h.l b,Al h.r b,Al h.lk b,Al h.rk b,Al h.g b,Cp h.a b⟩
def i64(n:Int):Prop:= -9223372036854775808<=n/\n<=9223372036854775807
structure wfPlan(p:Pln):Prop where
 low:i64 p.low
 high:i64 p.high
 l:p.left.length<=ύ
 r:p.right.length<=ύ
 lk:p.lkeys.length<=ύ
 rk:p.rkeys.length<=ύ
 g:p.group.length<=ύ
 a:p.aggs.length<=ύ
def fit(t:Int):Prop:= -1099511627776<=t/\t<=1099511627776
instance(t:Int):Decidable (fit t):=by unfold fit;infer_instance
def Bu(p:Pln):Prop:=(1<=p.kind/\p.kind<=3)/\(1<=p.mode/\p.mode<=(if p.kind=3 then 2 else 4))/\(p.grouped=true->∀a∈p.aggs,1<=a.1/\a.1<=4)
def BE(p:Pln):Prop:=(if p.kind=1 then fit p.low/\fit p.high else p.low=0/\p.high=0)/\(if p.kind=2 then 1<=p.size/\p.size<=1099511627776 else p.size=0)/\(1<=p.limit/\p.limit<=64)
def Kb(n:Nat):Prop:=1<=n/\n<=4
instance(n:Nat):Decidable (Kb n):=by unfold Kb;infer_instance
def Cl(p:Pln):Prop:=(Kb p.left.length/\Kb p.right.length/\Kb p.lkeys.length/\Kb p.rkeys.length)/\(if p.grouped=true then Kb p.aggs.length/\p.group.length+p.aggs.length<=8 else p.group.length=0/\p.aggs.length=0)
def A7(p:Pln):List Int:=p.left++p.right
def CF(p:Pln):Prop:=∀c∈A7 p,1<=c/\c<=3
def Bj(l:List Int)(n:Nat):Prop:=(∀x∈l,0<=x/\x<(n:Int))/\l.Pairwise (· ≠ ·)
def Gv(p:Pln):Prop:=∀i,i<p.lkeys.length->p.left.getD (p.lkeys.getD i 0).toNat 0=p.right.getD (p.rkeys.getD i 0).toNat 0
def CN(c:List Int)(a:Int×Int):Prop:=if a.1=1 then a.2=0 else(0<=a.2/\a.2<(c.length:Int))/\(a.1=2->c.getD a.2.toNat 0=2)
def Iy(p:Pln):Prop:=p.lkeys.length=p.rkeys.length/\Bj p.lkeys p.left.length/\Bj p.rkeys p.right.length/\Gv p
def Bf(p:Pln):Prop:=p.low<=p.high/\Iy p/\Bj p.group (A7 p).length/\(∀a∈p.aggs,CN (A7 p) a)
instance(p:Pln):Decidable (Bu p):=by unfold Bu;infer_instance
instance(p:Pln):Decidable (BE p):=by unfold BE;infer_instance
instance(p:Pln):Decidable (Cl p):=by unfold Cl;infer_instance
instance(p:Pln):Decidable (CF p):=by unfold CF;infer_instance
instance(l:List Int)(n:Nat):Decidable (Bj l n):=by unfold Bj;infer_instance
instance(p:Pln):Decidable (Gv p):=by unfold Gv;infer_instance
instance(c:List Int)(a:Int×Int):Decidable (CN c a):=by unfold CN;infer_instance
instance(p:Pln):Decidable (Iy p):=by unfold Iy;infer_instance
instance(p:Pln):Decidable (Bf p):=by unfold Bf;infer_instance
def Ag(p:Pln):Int:=
 if¬Bu p then 4 else if¬BE p then 3 else if¬Cl p then 2 else if¬CF p then 5 else if¬Bf p then 1 else 0
theorem Bv{p:Pln}(h:Ag p=0):Bu p/\BE p/\Cl p/\CF p/\Bf p:=by
 unfold Ag at h;by_cases b:Bu p
 ·by_cases c:BE p
  ·by_cases d:Cl p
   ·by_cases f:CF p
    ·by_cases g:Bf p
     ·exact⟨b,c,d,f,g⟩
     ·rw[if_neg (by simp[b]),if_neg (by simp[c]),if_neg (by simp[d]),if_neg (by simp[f]),if_pos g]at h;cases h
    ·rw[if_neg (by simp[b]),if_neg (by simp[c]),if_neg (by simp[d]),if_pos f]at h;cases h
   ·rw[if_neg (by simp[b]),if_neg (by simp[c]),if_pos d]at h;cases h
  ·rw[if_neg (by simp[b]),if_pos c]at h;cases h
 ·rw[if_pos b]at h;cases h
end pl
def Φ(p:pl.Pln)(x:pl.PA):Mmz (#[.int .i64 p.kind,.int .i64 p.mode,.int .i64 p.low,.int .i64 p.high,.int .i64 p.size,.int .i64 p.limit,.slice x.l p.left.length x.lc,.slice x.r p.right.length x.rc,.slice x.lk p.lkeys.length x.lkc,.slice x.rk p.rkeys.length x.rkc,.bool p.grouped,.slice x.g p.group.length x.gc,.slice x.a p.aggs.length x.ac]:Array Value):=⟨⟩
def Λ(p:pl.Pln)(x:pl.PA):Mmz ([.int .i64 p.kind,.int .i64 p.mode,.int .i64 p.low,.int .i64 p.high,.int .i64 p.size,.int .i64 p.limit,.slice x.l p.left.length x.lc,.slice x.r p.right.length x.rc,.slice x.lk p.lkeys.length x.lkc,.slice x.rk p.rkeys.length x.rkc,.bool p.grouped,.slice x.g p.group.length x.gc,.slice x.a p.aggs.length x.ac]:List Value):=⟨⟩
namespace pl
open vl
theorem AeL:Tryz.prog.cellsOf 134=2:=ϧ
theorem AeM:Tryz.prog.cellsOf 32=13:=ϧ
theorem Ac6:Tryz.prog.cellsOf 29=1:=ϧ
theorem Ac7:Tryz.prog.cellsOf 30=1:=ϧ
theorem AeN:Tryz.prog.cellsOf 4=1:=ϧ
section
variable {H : Type} {enc : TypeId × Value -> H} {w : Ϡ} {base : Nat} {spare : Nat -> Bool} {held : Bool}
theorem MX{x:Addr}{d:List Value}{y:DataW H×List MemPlace}{fuel:Nat}(h:w.cells? base x 1=some d)(ht:DataW.trod enc Tryz.prog w base spare held fuel 3 d=some y):
 ∃(b c:Nat) (n:Int),x=⟨b,c,none⟩/\Δ w b c (.int .i64 n)/\i64 n:=by
 obtain⟨_,o,g⟩:=World.cells?_some h;obtain⟨n,e0,_,m⟩:=DataW.trod_int underlying3 ht;subst e0;obtain⟨b,c,k⟩:=x;have f:=g 0 Ϥ;have j:k=none:=by simpa[Addr.add]using World.cell?_spot f
 subst j;exact⟨b,c,n,rfl,by simpa[Addr.add]using f,bounds_i64 m⟩
theorem MY{x:Addr}{d:List Value}{y:DataW H×List MemPlace}{fuel:Nat}(q:w.cells? base x 2=some d)(ht:DataW.trod enc Tryz.prog w base spare held fuel 134 d=some y):
 ∃(b c:Nat) (n m:Int),x=⟨b,c,none⟩/\Δ w b c (.int .i64 n)/\Δ w b (c+1) (.int .i64 m)/\i64 n/\i64 m:=by
 obtain⟨_,r,h⟩:=World.cells?_some q;obtain⟨A,B,k,_,_,o,p⟩:=trod_struct2 underlying134 ht
 match d,r with
 |[a0,a1],_=>
  obtain⟨n,e0,_,z⟩:=DataW.trod_int underlying3 o;obtain⟨m,f,_,u⟩:=DataW.trod_int underlying3 p;simp[CR]at e0;simp[CR]at f;subst e0 f;obtain⟨b,c,t⟩:=x;have g:=h 0 Ϥ;have j:=h 1 Ϥ;have s:t=none:=by simpa[Addr.add]using World.cell?_spot g
  subst s;exact⟨b,c,n,m,rfl,by simpa[Addr.add]using g,by simpa[Addr.add]using j,bounds_i64 z,bounds_i64 u⟩
theorem open_ints{v:Value}{y:DataW H×List MemPlace}{fuel:Nat}(G:DataW.trod enc Tryz.prog w base spare held fuel 29 [v]=some y):
 ∃a q l,v= .slice a (List.length (α:=Int) l) q/\Ay w a l/\l.length<=ύ/\∀n∈l,i64 n:=by
 rcases open_slice underlying29 G with⟨g,_⟩|⟨x,h,q,m,n,D,N,g,_,S,I,J,_,s⟩
 ·simp at g;subst g;exact⟨none,0,[],rfl,λi d=>absurd d (Nat.not_lt_zero i),Ϧ,λn K=>by cases K⟩
 ·simp at g;subst g;have T:h<=m:=by rw[J];split<;>omega
  rw[CR]at s;obtain⟨f,u⟩:=choose_lt (α:=Int) (n:=h) (p:=λi c=> ∃b j,x=⟨b,j,none⟩/\Δ w b (j+i) (.int .i64 c)/\i64 c) (λi d=>by
   obtain⟨Q,C,E⟩:=s i Ϥ;obtain⟨b,j,c,e,r,t⟩:=MX C E;obtain⟨R,L,M⟩:=s 0 Ϥ;obtain⟨o,k,O,e0,_⟩:=MX L M;have B:x=⟨o,k,none⟩:=by simpa[Addr.add]using e0
   subst B;have A:(⟨o,k,none⟩:Addr).add (i * 1)=⟨o,k+i,none⟩:=by unfold Addr.add;split<;>simp_all
   rw[A]at e
   cases e
   exact⟨c,b,k,rfl,r,t⟩)
  refine⟨some x,q,(List.range h).map f,Ϧ,?_,by unfold maxLen at I;simp;omega,?_⟩
  ·intro i d;have z:i<h:=by simpa using d
   obtain⟨b,j,rfl,r,_⟩:=u i z;have e:((List.range h).map f).getD i 0=f i:=by simp[gDe,z]
   rw[e];exact⟨b,j,rfl,r⟩
  ·intro c F;obtain⟨i,d,rfl⟩:=mem_map.1 F;obtain⟨_,_,_,_,t⟩:=u i (by simpa using d);exact t
theorem X8{v:Value}{y:DataW H×List MemPlace}{fuel:Nat}(J:DataW.trod enc Tryz.prog w base spare held fuel 30 [v]=some y):
 ∃a r l,v= .slice a (List.length (α:=Int×Int) l) r/\DI w a l/\l.length<=ύ/\∀n∈l,i64 n.1/\i64 n.2:=by
 rcases open_slice underlying30 J with⟨j,_⟩|⟨x,k,r,m,n,D,Q,j,_,V,K,L,_,u⟩
 ·simp at j;subst j;exact⟨none,0,[],rfl,λi g=>absurd g (Nat.not_lt_zero i),Ϧ,λn M=>by cases M⟩
 ·simp at j;subst j;have W:k<=m:=by rw[L];split<;>omega
  rw[AeL]at u;obtain⟨f,A⟩:=choose_lt (α:=Int×Int) (n:=k) (p:=λi c=> ∃b h,x=⟨b,h,none⟩/\Δ w b (h+i * 2) (.int .i64 c.1)/\Δ w b (h+i * 2+1) (.int .i64 c.2)/\i64 c.1/\i64 c.2) (λi g=>by
   obtain⟨S,F,G⟩:=u i Ϥ;obtain⟨b,h,c,d,e,s,t,z⟩:=MY F G;obtain⟨T,N,O⟩:=u 0 Ϥ;obtain⟨q,o,R,U,e0,_⟩:=MY N O;have E:x=⟨q,o,none⟩:=by simpa[Addr.add]using e0
   subst E;have C:(⟨q,o,none⟩:Addr).add (i * 2)=⟨q,o+i * 2,none⟩:=by unfold Addr.add;split<;>simp_all
   rw[C]at e
   cases e
   exact⟨(c,d),b,o,rfl,s,t,z⟩)
  refine⟨some x,r,(List.range k).map f,Ϧ,?_,by unfold maxLen at K;simp;omega,?_⟩
  ·intro i g;have B:i<k:=by simpa using g
   obtain⟨b,h,rfl,s,t,_⟩:=A i B;have e:((List.range k).map f).getD i (0,0)=f i:=by simp[gDe,B]
   rw[e];exact⟨b,h,rfl,s,t⟩
  ·intro c I;obtain⟨i,g,rfl⟩:=mem_map.1 I;obtain⟨_,_,_,_,_,z⟩:=A i (by simpa using g);exact z
theorem Ac8{o:Array Value}(h:o.size=13):∃a b c d e f g h i j k l m,o=#[a,b,c,d,e,f,g,h,i,j,k,l,m]:=by
 obtain⟨l⟩:=o
 match l,h with
 |[a,b,c,d,e,f,g,h,i,j,k,l,m],_=>exact⟨a,b,c,d,e,f,g,h,i,j,k,l,m,rfl⟩
theorem X9{r:Reach}{N:Nat}{v:Value}{d:DataW H}{pl:List MemPlace}(Y:Value.okWide Tryz.prog w r N 32 v)(h:DataW.Trod enc Tryz.prog w base spare held 32 v d pl):
 ∃p x,v=Aj p x/\planAt w p x/\wfPlan p:=by
 obtain⟨cs,rfl,X⟩:=okWide_struct underlying32 Y;obtain⟨c0,c1,c2,c3,c4,c5,c6,c7,c8,c9,ai,aj,ak,rfl⟩:=Ac8 (X.trans AeM);obtain⟨fuel,V⟩:=h;obtain⟨xs,n,_,_,_,W,b⟩:=DataW.trod_struct underlying32 V
 match xs,W with
 |[y0,y1,y2,y3,y4,y5,y6,y7,y8,y9,y10,y11,y12],_=>
  have o:=b 0 _ rfl;have q:=b 1 _ rfl;have y:=b 2 _ rfl;have z:=b 3 _ rfl;have A:=b 4 _ rfl;have B:=b 5 _ rfl;have C:=b 6 _ rfl;have D:=b 7 _ rfl;have E:=b 8 _ rfl;have F:=b 9 _ rfl;have s:=b 10 _ rfl;have t:=b 11 _ rfl;have u:=b 12 _ rfl;simp[Value.cells,CR]at o q y z A B;simp[Value.cells,Ac6]at C D E F t;simp[Value.cells,AeN]at s;simp[Value.cells,Ac7]at u;obtain⟨n0,e0,_,w0⟩:=DataW.trod_int underlying3 o;obtain⟨n1,c,_,w1⟩:=DataW.trod_int underlying3 q;obtain⟨n2,g,_,w2⟩:=DataW.trod_int underlying3 y;obtain⟨n3,j,_,w3⟩:=DataW.trod_int underlying3 z;obtain⟨n4,k,_,w4⟩:=DataW.trod_int underlying3 A;obtain⟨n5,m,_,w5⟩:=DataW.trod_int underlying3 B;obtain⟨J,k6,l6,R,i6,m6,j6⟩:=open_ints C;obtain⟨K,k7,l7,S,i7,m7,j7⟩:=open_ints D;obtain⟨L,k8,l8,T,i8,m8,j8⟩:=open_ints E;obtain⟨M,k9,l9,U,i9,m9,j9⟩:=open_ints F;obtain⟨ah,f,_⟩:=DataW.trod_bool underlying4 s;obtain⟨G,ab,ad,O,Z,af,al⟩:=open_ints t;obtain⟨I,ac,ae,Q,aa,ag,am⟩:=X8 u;simp only[List.cons.injEq,and_true]at e0 c g j k m f;subst e0 c g j k m R S T U f O Q;exact⟨⟨n0,n1,n2,n3,n4,n5,l6,l7,l8,l9,ah,ad,ae⟩,⟨J,k6,K,k7,L,k8,M,k9,G,ab,I,ac⟩,rfl,⟨i6,i7,i8,i9,Z,aa⟩,⟨bounds_i64 w2,bounds_i64 w3,m6,m7,m8,m9,af,ag⟩⟩
end
end pl
namespace pl
open vl
variable {base i n size : Nat} {P : Nat -> Bool} {w : Ϡ} {e : TypeId} {v : Value} {xs : List Value} {l : List Int} {x : Int}
def AA(n a b:Int):Bool:=decide (a<=n/\n<=b)
theorem Bh(n a b:Int):AA n a b=true↔(a<=n/\n<=b):=by simp[AA]
theorem CH(n a b:Int):AA n a b=false↔ ¬(a<=n/\n<=b):=by unfold AA;exact decide_eq_false_iff_not
theorem Ct(n a b:Int)(w:Ϡ):
 χ 126 #[vI n,vI a,vI b] w λe w'=>e= .returned (.bool (AA n a b))/\w'=w:=by
 by_cases c:a<=n
 ·by_cases d:n<=b
  ·rw[(Bh n a b).2 ⟨c,d⟩];go_enter func126,ntmps126;go_wp2;go_ret;exact⟨rfl,rfl⟩
  ·rw[(CH n a b).2 Ϥ];go_enter func126,ntmps126;go_wp2;go_ret;exact⟨rfl,rfl⟩
 ·rw[(CH n a b).2 Ϥ];go_enter func126,ntmps126;go_wp2;go_ret;exact⟨rfl,rfl⟩
theorem Ap(n a b:Int)(w:Ϡ):
 χ 83 #[vI n,vI a,vI b] w λe w'=>e= .returned (.bool (AA n a b))/\w'=w:=by
 by_cases c:a<=n
 ·by_cases d:n<=b
  ·rw[(Bh n a b).2 ⟨c,d⟩];go_enter func83,ntmps83;go_wp2;go_ret;exact⟨rfl,rfl⟩
  ·rw[(CH n a b).2 Ϥ];go_enter func83,ntmps83;go_wp2;go_ret;exact⟨rfl,rfl⟩
 ·rw[(CH n a b).2 Ϥ];go_enter func83,ntmps83;go_wp2;go_ret;exact⟨rfl,rfl⟩
def allB(n:Nat)(P:Nat->Bool):Bool:=(List.range n).all P
theorem AF:allB n P=true↔ ∀i,i<n->P i=true:=by simp[allB]
theorem CP(c:i<n)(h:P i=false):allB n P=false:=by
 rcases Bool.eq_false_or_eq_true (allB n P)with b|b
 ·have:=AF.1 b i c;rw[h]at this;cases this
 ·exact b
theorem Hq(d:FuncId)(I:∀y w,(callFunc d y).run Tryz.prog w= .ok (.enter d y) w)(j:Array Value)(P:Nat->Bool)(a:ϡ)(cap:Nat)(l:List Int)(w:Ϡ)(F:l.length<=ύ)(ha:Ay w a l)
 (H:∀i c,i<l.length->ϣ w c->Calls Tryz.prog d (#[vI (i:Nat),vI (l.getD i 0)]++j) c (ψ c (.bool (P i)))):
 χ 132 #[vS a l.length cap,.func (.func d) #[] j] w (ψ w (.bool (allB l.length P))):=by
 have E:Ϣ (∀i c,i<l.length->ϣ w c->CT d (#[vI (i:Nat),vI (l.getD i 0)]++j) c (ψ c (.bool (P i)))):=H;clear H;obtain⟨n,s⟩:∃n,l.length=n:=⟨_,rfl⟩;have u:Ϣ (l.length=n):=s;rw[s]at F⊢;clear s;go_enter func132,ntmps132;go_wp2
 go_loopw [9] (λi wr=> ∃k:Nat,k<=n/\i=vI k/\ϣ w wr/\∀i,i<k->P i=true) (λi _=>n - (intOf i).toNat)
 case atStart=>exact⟨0,Nat.zero_le _,rfl,bR,λi m=>absurd m (Nat.not_lt_zero i)⟩
 case round=>
  obtain⟨k,J,rfl,f,A⟩:=hrel;have t:Ϣ (∀i,i<k->P i=true):=A;clear A;by_cases r:k<n
  ·obtain⟨b,o,e,D⟩:=ha k (by rw[u.o];exact r);subst e;have G:=cLz f D;clear D ha;have K:=nn0 k;have L:(k:Int)<(n:Int):=Ϥ;have g:Ϣ (CT d (#[vI (k:Nat),vI (l.getD k 0)]++j) wr (ψ wr (.bool (P k)))):=E.o k wr (by rw[u.o];exact r) f;obtain⟨z,C⟩:=nM (l.getD k 0);rw[C]at G g;clear C;have B:=f.size
   cases hp:P k with
   |true=>
    rw[hp]at g;go_wp2_with (go_at_fn d;refine g.o.mono ?_;rintro e c ⟨rfl,q⟩);go_roundw;exact⟨k+1,Ϥ,by go_num,f.trans (q.mono B),λi m=>by
     rcases Nat.lt_succ_iff_lt_or_eq.1 m with h|h
     ·exact t.o i h
     ·rw[h];exact hp⟩
    simp[intOf];omega
   |false=>
    have p:Ϣ (allB n P=false):=CP r hp;rw[hp]at g;go_wp2_with (go_at_fn d;refine g.o.mono ?_;rintro e c ⟨rfl,q⟩);go_ret;exact⟨Aa p.o.symm,f.trans (q.mono B)⟩
  ·have p:Ϣ (allB n P=true):=AF.2 (λi m=>t.o i Ϥ);go_wp2;go_ret;exact⟨Aa p.o.symm,f⟩
def JB(w:World)(a:Option Addr)(l:List (Option Addr×Nat×Nat)):Prop:=
 ∀i,i<l.length->∃b off,a=some ⟨b,off,none⟩/\Δ w b (off+i) (vS (l.getD i (none,0,0)).1 (l.getD i (none,0,0)).2.1 (l.getD i (none,0,0)).2.2)
theorem Kc(d:FuncId)(M:∀A w,(callFunc d A).run Tryz.prog w= .ok (.enter d A) w)(j:Array Value)(P:Nat->Bool)(a:ϡ)(cap:Nat)(l:List (Int×Int))(w:Ϡ)(L:l.length<=ύ)(ha:DI w a l)
 (H:∀i c,i<l.length->ϣ w c->Calls Tryz.prog d (#[vI (i:Nat),.agg #[vI (l.getD i (0,0)).1,vI (l.getD i (0,0)).2]]++j) c (ψ c (.bool (P i)))):
 χ 195 #[vS a l.length cap,.func (.func d) #[] j] w (ψ w (.bool (allB l.length P))):=by
 have J:Ϣ (∀i c,i<l.length->ϣ w c->CT d (#[vI (i:Nat),.agg #[vI (l.getD i (0,0)).1,vI (l.getD i (0,0)).2]]++j) c (ψ c (.bool (P i)))):=H;clear H;obtain⟨n,t⟩:∃n,l.length=n:=⟨_,rfl⟩;have y:Ϣ (l.length=n):=t;rw[t]at L⊢;clear t;go_enter func195,ntmps195;go_wp2
 go_loopw [9] (λi wr=> ∃k:Nat,k<=n/\i=vI k/\ϣ w wr/\∀i,i<k->P i=true) (λi _=>n - (intOf i).toNat)
 case atStart=>exact⟨0,Nat.zero_le _,rfl,bR,λi m=>absurd m (Nat.not_lt_zero i)⟩
 case round=>
  obtain⟨k,N,rfl,f,B⟩:=hrel;have u:Ϣ (∀i,i<k->P i=true):=B;clear B;by_cases s:k<n
  ·obtain⟨b,o,e,G,I⟩:=ha k (by rw[y.o];exact s);subst e;have E:=cLz f G;have F:=cLz f I;clear G I ha;have O:=nn0 k;have Q:(k:Int)<(n:Int):=Ϥ;have g:Ϣ (∀c,ϣ wr c->CT d (#[vI (k:Nat),.agg #[vI (l.getD k (0,0)).1,vI (l.getD k (0,0)).2]]++j) c (ψ c (.bool (P k)))):=λc K=>J.o k c (by rw[y.o];exact s) (bT f K);obtain⟨⟨R,S⟩,D⟩:∃z,l.getD k (0,0)=z:=⟨_,rfl⟩;rw[D]at E F g;dsimp only at E F g;clear D;have C:=f.size
   cases hp:P k with
   |true=>
    rw[hp]at g;go_wp2_with (go_at_fn d;refine(g.o _ ϯ).mono ?_;rintro e c ⟨rfl,q⟩;have r:=(f.alloc C _).trans (q.mono ϩ));go_roundw;exact⟨k+1,Ϥ,by go_num,r,λi m=>by
     rcases Nat.lt_succ_iff_lt_or_eq.1 m with h|h
     ·exact u.o i h
     ·rw[h];exact hp⟩
    simp[intOf];omega
   |false=>
    have p:Ϣ (allB n P=false):=CP s hp;rw[hp]at g;go_wp2_with (go_at_fn d;refine(g.o _ ϯ).mono ?_;rintro e c ⟨rfl,q⟩;have r:=(f.alloc C _).trans (q.mono ϩ));go_ret;exact⟨Aa p.o.symm,r⟩
  ·have p:Ϣ (allB n P=true):=AF.2 (λi m=>u.o i Ϥ);go_wp2;go_ret;exact⟨Aa p.o.symm,f⟩
theorem Q1(d:FuncId)(I:∀y w,(callFunc d y).run Tryz.prog w= .ok (.enter d y) w)(j:Array Value)(P:Nat->Bool)(a:ϡ)(cap:Nat)(l:List (Option Addr×Nat×Nat))(w:Ϡ)(G:l.length<=ύ)(ha:JB w a l)
 (H:∀i c,i<l.length->ϣ w c->Calls Tryz.prog d (#[vI (i:Nat),vS (l.getD i (none,0,0)).1 (l.getD i (none,0,0)).2.1 (l.getD i (none,0,0)).2.2]++j) c (ψ c (.bool (P i)))):
 χ 130 #[vS a l.length cap,.func (.func d) #[] j] w (ψ w (.bool (allB l.length P))):=by
 have F:Ϣ (∀i c,i<l.length->ϣ w c->CT d (#[vI (i:Nat),vS (l.getD i (none,0,0)).1 (l.getD i (none,0,0)).2.1 (l.getD i (none,0,0)).2.2]++j) c (ψ c (.bool (P i)))):=H;clear H;obtain⟨n,s⟩:∃n,l.length=n:=⟨_,rfl⟩;have u:Ϣ (l.length=n):=s;rw[s]at G⊢;clear s;go_enter func130,ntmps130;go_wp2
 go_loopw [9] (λi wr=> ∃k:Nat,k<=n/\i=vI k/\ϣ w wr/\∀i,i<k->P i=true) (λi _=>n - (intOf i).toNat)
 case atStart=>exact⟨0,Nat.zero_le _,rfl,bR,λi m=>absurd m (Nat.not_lt_zero i)⟩
 case round=>
  obtain⟨k,J,rfl,g,A⟩:=hrel;have t:Ϣ (∀i,i<k->P i=true):=A;clear A;by_cases r:k<n
  ·obtain⟨b,o,e,E⟩:=ha k (by rw[u.o];exact r);subst e;have D:=cLz g E;clear E ha;have K:=nn0 k;have L:(k:Int)<(n:Int):=Ϥ;have f:Ϣ (CT d (#[vI (k:Nat),vS (l.getD k (none,0,0)).1 (l.getD k (none,0,0)).2.1 (l.getD k (none,0,0)).2.2]++j) wr (ψ wr (.bool (P k)))):=F.o k wr (by rw[u.o];exact r) g;obtain⟨⟨M,N,O⟩,C⟩:∃z,l.getD k (none,0,0)=z:=⟨_,rfl⟩;rw[C]at D f;dsimp only at D f;clear C;have B:=g.size
   cases hp:P k with
   |true=>
    rw[hp]at f;go_wp2_with (go_at_fn d;refine f.o.mono ?_;rintro e c ⟨rfl,q⟩);go_roundw;exact⟨k+1,Ϥ,by go_num,g.trans (q.mono B),λi m=>by
     rcases Nat.lt_succ_iff_lt_or_eq.1 m with h|h
     ·exact t.o i h
     ·rw[h];exact hp⟩
    simp[intOf];omega
   |false=>
    have p:Ϣ (allB n P=false):=CP r hp;rw[hp]at f;go_wp2_with (go_at_fn d;refine f.o.mono ?_;rintro e c ⟨rfl,q⟩);go_ret;exact⟨Aa p.o.symm,g.trans (q.mono B)⟩
  ·have p:Ϣ (allB n P=true):=AF.2 (λi m=>t.o i Ϥ);go_wp2;go_ret;exact⟨Aa p.o.symm,g⟩
theorem Q2(f:FuncId)(O:∀A w,(callFunc f A).run Tryz.prog w= .ok (.enter f A) w)(j:Array Value)(P:Nat->Bool)(a:ϡ)(cap:Nat)(l:List Cel)(w:Ϡ)(N:l.length<=ύ)(ha:vl.rowAt w a l)
 (H:∀i c,i<l.length->ϣ w c->Calls Tryz.prog f (#[vI (i:Nat),(l.getD i default).val]++j) c (ψ c (.bool (P i)))):
 χ 241 #[vS a l.length cap,.func (.func f) #[] j] w (ψ w (.bool (allB l.length P))):=by
 have L:Ϣ (∀i c,i<l.length->ϣ w c->CT f (#[vI (i:Nat),(l.getD i default).val]++j) c (ψ c (.bool (P i)))):=H;clear H;obtain⟨n,t⟩:∃n,l.length=n:=⟨_,rfl⟩;have y:Ϣ (l.length=n):=t;rw[t]at N⊢;clear t;go_enter func241,ntmps241;go_wp2
 go_loopw [9] (λi wr=> ∃k:Nat,k<=n/\i=vI k/\ϣ w wr/\∀i,i<k->P i=true) (λi _=>n - (intOf i).toNat)
 case atStart=>exact⟨0,Nat.zero_le _,rfl,bR,λi m=>absurd m (Nat.not_lt_zero i)⟩
 case round=>
  obtain⟨k,Q,rfl,g,B⟩:=hrel;have u:Ϣ (∀i,i<k->P i=true):=B;clear B;by_cases s:k<n
  ·obtain⟨b,o,e,I,J,K⟩:=ha k (by rw[y.o];exact s);subst e;obtain⟨E,F,G⟩:=lk3 g I J K;clear I J K ha;have R:=nn0 k;have S:(k:Int)<(n:Int):=Ϥ;have d:Ϣ (∀c,ϣ wr c->CT f (#[vI (k:Nat),(l.getD k default).val]++j) c (ψ c (.bool (P k)))):=λc M=>L.o k c (by rw[y.o];exact s) (bT g M);obtain⟨⟨T,U,V⟩,D⟩:∃z,l.getD k default=z:=⟨_,rfl⟩;rw[D]at E F G d;dsimp only at E F G d;clear D;unfold Cel.val at d;dsimp only at d;have C:=g.size
   cases hp:P k with
   |true=>
    rw[hp]at d;go_wp2_with (go_at_fn f;refine(d.o _ ϯ).mono ?_;rintro e c ⟨rfl,q⟩;have r:=(g.alloc C _).trans (q.mono ϩ));go_roundw;exact⟨k+1,Ϥ,by go_num,r,λi m=>by
     rcases Nat.lt_succ_iff_lt_or_eq.1 m with h|h
     ·exact u.o i h
     ·rw[h];exact hp⟩
    simp[intOf];omega
   |false=>
    have p:Ϣ (allB n P=false):=CP s hp;rw[hp]at d;go_wp2_with (go_at_fn f;refine(d.o _ ϯ).mono ?_;rintro e c ⟨rfl,q⟩;have r:=(g.alloc C _).trans (q.mono ϩ));go_ret;exact⟨Aa p.o.symm,r⟩
  ·have p:Ϣ (allB n P=true):=AF.2 (λi m=>u.o i Ϥ);go_wp2;go_ret;exact⟨Aa p.o.symm,g⟩
theorem Em{a:Bool}{q:Prop} [Decidable q](h:a=true↔q):a=decide q:=by
 by_cases b:q
 ·rw[decide_eq_true b];exact h.2 b
 ·rw[decide_eq_false b]
  cases a with
  |false=>rfl
  |true=>exact absurd (h.1 rfl) b
theorem Cu{W c:Ϡ}(d:ϣ W c):(∀b o,b<W.heap.size->c.cell? ⟨b,o,none⟩=W.cell? ⟨b,o,none⟩)/\(∀b o,b<W.heap.size->c.frozen? ⟨b,o,none⟩=W.frozen? ⟨b,o,none⟩):=
 ⟨λb o h=>d.cell (p:=⟨b,o,none⟩) h,λb o h=>d.frozen (p:=⟨b,o,none⟩) h⟩
def Jy(l:List (Int×Int)):Bool:=allB l.length (λi=>AA (l.getD i (0,0)).1 1 4)
theorem CQ{α:Type}{l:List α}{d:α}(h:i<l.length):l.getD i d∈l:=by simp[gDe,h]
theorem EL{α:Type}{l:List α}{d:α}{Q:α->Prop}:(∀i,i<l.length->Q (l.getD i d))↔ ∀x∈l,Q x:=by
 constructor
 ·intro h x c;obtain⟨i,b,rfl⟩:=getElem_of_mem c;have:=h i b;simpa[gDe,b]using this
 ·intro h i b;exact h _ (CQ b)
theorem RV(l:List (Int×Int)):Jy l=true↔ ∀a∈l,1<=a.1/\a.1<=4:=by
 unfold Jy;rw[AF];simp only[Bh];exact EL (Q:=λa:Int×Int=>1<=a.1/\a.1<=4)
theorem ZL(i:Int)(f c:Int)(w:Ϡ):
 χ 196 #[vI i,.agg #[vI f,vI c]] w (ψ w (.bool (AA f 1 4))):=by
 go_enter func196,ntmps196;go_wp2_with (go_at_call 126;refine(Ct _ _ _ _).mono ?_;rintro e w' ⟨rfl,b⟩;subst b);go_ret;exact⟨rfl,ϯ⟩
theorem RY(a:ϡ)(cap:Nat)(l:List (Int×Int))(w:Ϡ)(g:l.length<=ύ)(ha:DI w a l):
 χ 127 #[vS a l.length cap] w (ψ w (.bool (Jy l))):=by
 have H:=Kc 196 (enters_of func196 ϧ rfl) #[] (λi=>AA (l.getD i (0,0)).1 1 4) a cap l w g ha (λi c _ _=>ZL i _ _ c);obtain⟨n,b⟩:∃n,l.length=n:=⟨_,rfl⟩;have d:Ϣ (Jy l=allB n (λi=>AA (l.getD i (0,0)).1 1 4)):=by show Jy l=_;unfold Jy;rw[b]
 rw[b]at H⊢;clear b;go_enter func127,ntmps127;go_wp2_with (go_at_call 195;refine H.mono ?_;rintro e c ⟨rfl,f⟩);go_ret;exact⟨Aa d.o.symm,f⟩
theorem MZ(p:Pln)(x:PA)(w:Ϡ)(G:planAt w p x)(c:wfPlan p):
 χ 69 #[Aj p x] w (ψ w (.bool (decide (Bu p)))):=by
 have d:=hIz (λ(m:Ϡ) (f:ϣ w m)=>RY x.a x.ac p.aggs m c.a (Cp G.a f));have b:Ϣ (decide (Bu p)=(AA p.kind 1 3&&AA p.mode 1 (if p.kind=3 then 2 else 4)&&(!p.grouped||Jy p.aggs))):=by
  refine(Em ?_).symm;simp only[Bool.and_eq_true,Bool.or_eq_true,Bh,RV,Bu,Bool.not_eq_true',and_assoc]
  cases p.grouped<;>simp
 obtain⟨u,k,M,K,size,L,left,right,I,J,h,z,o⟩:=p;obtain⟨l,S,r,rc,T,U,rk,aa,g,Q,a,N⟩:=x;unfold Aj;dsimp only at d b⊢;clear G c;obtain⟨X,B⟩:∃n,left.length=n:=⟨_,rfl⟩;obtain⟨Y,C⟩:∃n,right.length=n:=⟨_,rfl⟩;obtain⟨Z,D⟩:∃n,I.length=n:=⟨_,rfl⟩;obtain⟨n9,E⟩:∃n,J.length=n:=⟨_,rfl⟩;obtain⟨V,A⟩:∃n,z.length=n:=⟨_,rfl⟩;obtain⟨W,s⟩:∃n,o.length=n:=⟨_,rfl⟩;rw[s]at d;rw[B,C,D,E,A,s];clear B C D E A s;obtain⟨q,F⟩:=nM (Jy o);rw[F]at d b;clear F;by_cases j:u=3
 ·subst j;have y:Ϣ (decide (Bu ⟨3,k,M,K,size,L,left,right,I,J,h,z,o⟩)=(true&&AA k 1 2&&(!h||q))):=b.o;clear b;have O:AA 3 1 3=true:=ϥ
  cases f:AA k 1 2<;>rw[f]at y<;>cases h<;>cases q
  all_goals
   go_enter func69,ntmps69;go_wp2_with (first
    |(go_at_call 126;refine(Ct _ _ _ _).mono ?_;rintro e w' ⟨rfl,c⟩;subst c)
    |(go_at_call 127;refine(d.o _ ϯ).mono ?_;rintro e m ⟨rfl,t⟩))
   go_ret;refine⟨Aa y.o.symm,?_⟩
   first
    |exact ϯ.trans (t.mono Ϧ)
    |exact ϯ
 ·have R:(u==3)=false:=by simpa using j
  rw[if_neg j]at b;clear j
  cases h0:AA u 1 3<;>rw[h0]at b<;>cases f:AA k 1 4<;>rw[f]at b<;>cases h<;>cases q
  all_goals
   go_enter func69,ntmps69;go_wp2_with (first
    |(go_at_call 126;refine(Ct _ _ _ _).mono ?_;rintro e w' ⟨rfl,c⟩;subst c)
    |(go_at_call 127;refine(d.o _ ϯ).mono ?_;rintro e m ⟨rfl,t⟩))
   go_ret;refine⟨Aa b.o.symm,?_⟩
   first
    |exact ϯ.trans (t.mono Ϧ)
    |exact ϯ
def Mn(p:Pln):Bool:=if p.kind=1 then tm.Bt p.low&&tm.Bt p.high else decide (p.low=0)&&decide (p.high=0)
def Mo(p:Pln):Bool:=if p.kind=2 then AA p.size 1 1099511627776 else decide (p.size=0)
theorem Na(p:Pln):decide (BE p)=(Mn p&&Mo p&&AA p.limit 1 64):=by
 refine(Em ?_).symm;unfold BE Mn Mo;simp only[Bool.and_eq_true,Bh,and_assoc];refine and_congr ?_ (and_congr ?_ Iff.rfl)
 ·split
  ·simp only[Bool.and_eq_true,tm.KY,fit]
  ·simp
 ·split
  ·simp only[Bh]
  ·simp
theorem OV(p:Pln)(x:PA)(w:Ϡ):
 χ 128 #[Aj p x] w (ψ w (.bool (Mn p))):=by
 have b:Ϣ (Mn p=if p.kind=1 then tm.Bt p.low&&tm.Bt p.high else decide (p.low=0)&&decide (p.high=0)):=rfl;obtain⟨h,E,f,u,size,A,left,right,D,J,s,q,m⟩:=p;obtain⟨l,z,r,F,B,C,G,I,g,o,a,k⟩:=x;unfold Aj;dsimp only at b⊢;by_cases d:h=1
 ·subst d;rw[if_pos rfl]at b
  cases c:tm.Bt f<;>rw[c]at b
  all_goals
   go_enter func128,ntmps128;go_wp2_with (go_at_call 197;refine(tm.Dr _ _).mono ?_;rintro e w' ⟨rfl,j⟩;subst j);go_ret;exact⟨Aa (by rw[b.o];rfl),ϯ⟩
 ·have y:(h==1)=false:=by simpa using d
  rw[if_neg d]at b;clear d;by_cases c:f=0
  ·subst c;go_enter func128,ntmps128;go_wp2;go_ret;exact⟨Aa (by rw[b.o];exact Bool.eq_iff_iff.2 Ϧ),ϯ⟩
  ·have t:(f==0)=false:=by simpa using c
   rw[decide_eq_false c]at b;clear c;go_enter func128,ntmps128;go_wp2;go_ret;exact⟨Aa (by rw[b.o];rfl),ϯ⟩
theorem OW(p:Pln)(x:PA)(w:Ϡ):
 χ 129 #[Aj p x] w (ψ w (.bool (Mo p))):=by
 have b:Ϣ (Mo p=if p.kind=2 then AA p.size 1 1099511627776 else decide (p.size=0)):=rfl;obtain⟨d,C,B,q,size,u,left,right,A,G,o,m,j⟩:=p;obtain⟨l,t,r,D,y,z,E,F,g,k,a,h⟩:=x;unfold Aj;dsimp only at b⊢;by_cases c:d=2
 ·subst c;rw[if_pos rfl]at b;go_enter func129,ntmps129;go_wp2_with (go_at_call 126;refine(Ct _ _ _ _).mono ?_;rintro e w' ⟨rfl,f⟩;subst f);go_ret;exact⟨Aa b.o.symm,ϯ⟩
 ·have s:(d==2)=false:=by simpa using c
  rw[if_neg c]at b;clear c;go_enter func129,ntmps129;go_wp2;go_ret;exact⟨Aa (by rw[b.o];exact Bool.eq_iff_iff.2 Ϧ),ϯ⟩
theorem FI(p:Pln)(x:PA)(w:Ϡ):
 χ 70 #[Aj p x] w (ψ w (.bool (decide (BE p)))):=by
 have d:=hIz (λ(b:Ϡ)=>OV p x b);have f:=hIz (λ(b:Ϡ)=>OW p x b);have c:Ϣ (decide (BE p)=(Mn p&&Mo p&&AA p.limit 1 64)):=Na p;obtain⟨q,j⟩:=nM (Mn p);obtain⟨s,k⟩:=nM (Mo p);rw[j]at d c;rw[k]at f c;clear j k;obtain⟨K,S,R,I,size,M,left,right,Q,W,C,B,z⟩:=p;obtain⟨l,L,r,T,N,O,U,V,g,A,a,y⟩:=x;unfold Aj at d f⊢;dsimp only at d f c⊢
 cases q<;>cases s
 all_goals
  go_enter func70,ntmps70;go_wp2_with (first
   |(go_at_call 128;refine(d.o _).mono ?_;rintro e b ⟨rfl,h⟩;have o:=ϯ.trans (h.mono Ϧ);obtain⟨D,F⟩:=Cu h)
   |(go_at_call 129;refine(f.o _).mono ?_;rintro e X ⟨rfl,m⟩;have t:=bT o m;obtain⟨E,G⟩:=Cu m;have J:w.heap.size<b.heap.size:=by have:=h.size;simp at this;omega)
   |(go_at_call 126;refine(Ct _ _ _ _).mono ?_;rintro e w' ⟨rfl,u⟩;subst u))
  go_ret;refine⟨Aa (by rw[c.o];simp),?_⟩
  first
   |exact t
   |exact o
theorem ZM(i:Int)(a:ϡ)(n c:Nat)(w:Ϡ):
 χ 131 #[vI i,vS a n c] w (ψ w (.bool (AA n 1 4))):=by
 go_enter func131,ntmps131;go_wp2_with (go_at_call 126;refine(Ct _ _ _ _).mono ?_;rintro e w' ⟨rfl,b⟩;subst b);go_ret;exact⟨rfl,bR⟩
def JC(a b c d:Nat):Bool:=AA a 1 4&&(AA b 1 4&&(AA c 1 4&&AA d 1 4))
theorem AeO(g:Nat)(h0 h1 b c:Option Addr×Nat×Nat)(w:Ϡ)
 (e0:Δ w g 0 (vS h0.1 h0.2.1 h0.2.2)) (d:Δ w g 1 (vS h1.1 h1.2.1 h1.2.2)) (f:Δ w g 2 (vS b.1 b.2.1 b.2.2)) (h:Δ w g 3 (vS c.1 c.2.1 c.2.2)):
 χ 130 #[vS (ϋ g) 4 4,.func (.func 131) #[] #[]] w (ψ w (.bool (JC h0.2.1 h1.2.1 b.2.1 c.2.1))):=by
 have H:=Q1 131 (enters_of func131 ϧ rfl) #[] (λi=>AA (([h0,h1,b,c]:List (Option Addr×Nat×Nat)).getD i (none,0,0)).2.1 1 4) (ϋ g) 4 [h0,h1,b,c] w Ϧ
  (λi m=>by
   match i,m with
   |0,_=>exact⟨g,0,rfl,e0⟩
   |1,_=>exact⟨g,0,rfl,d⟩
   |2,_=>exact⟨g,0,rfl,f⟩
   |3,_=>exact⟨g,0,rfl,h⟩) (λi o _ _=>ZM i _ _ _ o)
 refine H.mono λe w' ⟨k,j⟩=>⟨k.trans (Aa ?_),j⟩;simp[allB,List.range,List.range.loop,JC]
def L4(p:Pln):Bool:=if p.grouped=true then AA p.aggs.length 1 4&&decide ((p.group.length:Int)<=8 - p.aggs.length)else decide (p.group.length=0)&&decide (p.aggs.length=0)
theorem RZ(p:Pln):decide (Cl p)=(JC p.left.length p.right.length p.lkeys.length p.rkeys.length&&L4 p):=by
 refine(Em ?_).symm;unfold Cl JC L4 Kb;simp only[Bool.and_eq_true,Bh];refine and_congr ?_ ?_
 ·omega
 ·split
  ·simp only[Bool.and_eq_true,Bh,decide_eq_true_eq];omega
  ·simp
theorem FJ(p:Pln)(x:PA)(w:Ϡ)(j:wfPlan p):
 χ 71 #[Aj p x] w (ψ w (.bool (decide (Cl p)))):=by
 have c:Ϣ (decide (Cl p)=(JC p.left.length p.right.length p.lkeys.length p.rkeys.length&&L4 p)):=RZ p;have F:Ϣ (L4 p=if p.grouped=true then AA p.aggs.length 1 4&&decide ((p.group.length:Int)<=8 - p.aggs.length)else decide (p.group.length=0)&&decide (p.aggs.length=0)):=rfl;have K:=j.g;have L:=j.a;rw[F.o]at c;obtain⟨ai,al,ak,ag,size,aj,left,right,ad,af,G,Z,V⟩:=p;obtain⟨l,M,r,R,N,O,S,T,g,gc,a,ac⟩:=x;unfold Aj;dsimp only at c K L⊢;clear F j;obtain⟨u,B⟩:∃n,left.length=n:=⟨_,rfl⟩;obtain⟨y,C⟩:∃n,right.length=n:=⟨_,rfl⟩;obtain⟨z,D⟩:∃n,ad.length=n:=⟨_,rfl⟩;obtain⟨A,E⟩:∃n,af.length=n:=⟨_,rfl⟩;obtain⟨Q,o⟩:∃n,Z.length=n:=⟨_,rfl⟩;obtain⟨ae,q⟩:∃n,V.length=n:=⟨_,rfl⟩;rw[o]at K;rw[q]at L;rw[B,C,D,E,o,q]at c;rw[B,C,D,E,o,q];clear B C D E o q;have k:Ϣ (∀(h:Nat) (d:Ϡ),Δ d h 0 (vS l u M)->Δ d h 1 (vS r y R)->Δ d h 2 (vS N z O)->Δ d h 3 (vS S A T)->
  χ 130 #[vS (ϋ h) 4 4,.func (.func 131) #[] #[]] d (ψ d (.bool (JC u y z A)))):=
  λh d e0 W X Y=>AeO h (l,u,M) (r,y,R) (N,z,O) (S,A,T) d e0 W X Y
 obtain⟨sb,J⟩:=nM (JC u y z A);rw[J]at k c;clear J
 cases sb
 ·cases G
  all_goals
   go_enter func71,ntmps71;go_wp2_with (first
    |(go_at_call 130;refine(k.o _ _ Ϩ Ϩ Ϩ Ϩ).mono ?_;rintro e d ⟨rfl,b⟩;have f:=(ϯ.alloc Ϧ _).trans (b.mono ϩ);obtain⟨s,t⟩:=Cu b))
   go_ret;exact⟨Aa (by rw[c.o];simp),f⟩
 ·cases G
  ·rw[if_neg ϥ]at c;by_cases m:Q=0
   ·subst m;go_enter func71,ntmps71;go_wp2_with (first
     |(go_at_call 130;refine(k.o _ _ Ϩ Ϩ Ϩ Ϩ).mono ?_;rintro e d ⟨rfl,b⟩;have f:=(ϯ.alloc Ϧ _).trans (b.mono ϩ);obtain⟨s,t⟩:=Cu b))
    go_ret;exact⟨Aa (by rw[c.o];exact Bool.eq_iff_iff.2 Ϧ),f⟩
   ·have ah:((Q:Int)==0)=false:=by simpa using m
    rw[decide_eq_false m]at c;clear m;go_enter func71,ntmps71;go_wp2_with (first
     |(go_at_call 130;refine(k.o _ _ Ϩ Ϩ Ϩ Ϩ).mono ?_;rintro e d ⟨rfl,b⟩;have f:=(ϯ.alloc Ϧ _).trans (b.mono ϩ);obtain⟨s,t⟩:=Cu b))
    go_ret;exact⟨Aa (by rw[c.o];rfl),f⟩
  ·rw[if_pos rfl]at c;obtain⟨U,I⟩:=nM (AA ae 1 4);rw[I]at c
   cases U
   ·go_enter func71,ntmps71;go_wp2_with (first
     |(go_at_call 130;refine(k.o _ _ Ϩ Ϩ Ϩ Ϩ).mono ?_;rintro e d ⟨rfl,b⟩;have f:=(ϯ.alloc Ϧ _).trans (b.mono ϩ);obtain⟨s,t⟩:=Cu b)
     |(go_at_call 126;refine(Ct _ _ _ _).mono ?_;rintro e w' ⟨rfl,j⟩;subst j))
    go_ret;exact⟨Aa (by rw[c.o];rfl),f⟩
   ·have aa:=(Bh _ _ _).1 I;obtain⟨u1,u2⟩:=aa;go_enter func71,ntmps71;go_wp2_with (first
     |(go_at_call 130;refine(k.o _ _ Ϩ Ϩ Ϩ Ϩ).mono ?_;rintro e d ⟨rfl,b⟩;have f:=(ϯ.alloc Ϧ _).trans (b.mono ϩ);obtain⟨s,t⟩:=Cu b)
     |(go_at_call 126;refine(Ct _ _ _ _).mono ?_;rintro e w' ⟨rfl,j⟩;subst j))
    go_ret;exact⟨Aa (by rw[c.o];simp),f⟩
theorem Tryz.info3:(Tryz.prog.info? 3).map (λi=>(i.zero,i.size,i.bytes))=some (some (vI 0),1,8):=ϧ
def Gc(n:Int):Value:=vI n
def Cm(w:World)(base:Nat)(v:Value)(l:List Int):Prop:=w.ownsRow base 3 1 v l.length (l.map Gc)
theorem Nb{w':Ϡ}(h:w.ownsRow base e size v n xs)(o:ϣ w w'):w'.ownsRow base e size v n xs:=by
 refine⟨h.1,?_⟩;rcases h.2 with j|⟨g,d,f,q,k,b,m⟩
 ·exact .inl j
 ·have c:g<w.heap.size:=by
   rcases Nat.lt_or_ge g w.heap.size with c|p
   ·exact c
   ·rw[Array.getElem?_eq_none p]at b;cases b
  exact .inr ⟨g,d,f,q,k,by rw[o.block g c];exact b,m⟩
theorem Q3(b c j:Nat):(⟨b,c,none⟩:Addr).add j=⟨b,c+j,none⟩:=by unfold Addr.add;split<;>simp_all
theorem Bw(h:w.ownsRow base e size v n xs):∃b c,v=vS b n c/\(0<n->∃g,b=some ⟨g,0,none⟩):=by
 rcases h.2 with⟨rfl,d⟩|⟨g,c,f,rfl,_⟩
 ·exact⟨none,0,by rw[d],λh=>absurd d Ϥ⟩
 ·exact⟨_,_,rfl,λ_=>⟨g,rfl⟩⟩
theorem Ea{ad:ϡ}{cap:Nat}(h:Cm w base (vS ad n cap) l):Ay w ad l/\n=l.length:=by
 obtain⟨k,m,j,c⟩:=Bw h;injection j with ha f b
 subst ha b;refine⟨λi d=>?_,f⟩;obtain⟨g,rfl⟩:=c Ϥ;have b:=World.ownsRow.cells h (g:=g) rfl i (Gc (l.getD i 0)) (by simp[getElem?_map,gDe,d]);rw[Q3]at b;exact⟨g,0,rfl,b⟩
theorem Jz(v:Value)(h:v.cells.size=1)(n:Nat):(Builtin.zeroCells v.cells n).size=n:=by
 simp[Builtin.zeroCells,h]
theorem ZN(n:Nat)(w:Ϡ)(z:n<=1000):
 χ 246 #[ώ,vI n] w λe w'=>(∃v,e= .returned v/\Cm w' w.heap.size v [])/\ϣ w w':=by
 obtain⟨r,o,q,y,f⟩:=info_parts Tryz.info3;by_cases t:n=0
 ·subst t;go_enter func246,ntmps246;go_wp2;go_ret;exact⟨⟨_,rfl,World.ownsRow_nil _ _ _ _⟩,bR⟩
 ·have d:∀g,(Builtin.append_ #[29,3] g #[ώ,vI (n:Int)]).run Tryz.prog w=
   .ok (vS (ϋ w) n (grownCap w n 0 3)) (w.drew.alloc (.cells (Builtin.zeroCells (Value.int .i64 0).cells n++Builtin.zeroCells (Value.int .i64 0).cells (grownCap w n 0 3 - n)) 3)):=λg=>by
   have h:=Lib.run_append_grow_zeros w 29 3 g 3 r (vI 0) .i64 .i64 underlying29 underlying3 o q none 0 0 [] (run_firstCells_none w.drew r.size 0 0 0) n Ϥ Ϥ Ϥ Ϥ (by rw[f];omega) (growslice_fits Ϥ (by rw[f];omega));simpa using h
  have u:n<=grownCap w n 0 3:=grownCap_ge w _ _ _;have b:grownCap w n 0 3<=maxLen:=grownCap_le_maxLen w n 0 3 Ϯ;obtain⟨G,k⟩:∃G,G=grownCap w n 0 3:=⟨_,rfl⟩;rw[<-k]at d u b;have p:(Builtin.zeroCells (Value.int .i64 0).cells n++Builtin.zeroCells (Value.int .i64 0).cells (G - n)).size=G * 1:=by
   rw[Array.size_append,Jz _ rfl,Jz _ rfl];omega
  obtain⟨j,m⟩:∃c,Builtin.zeroCells (Value.int .i64 0).cells n++Builtin.zeroCells (Value.int .i64 0).cells (G - n)=c:=⟨_,rfl⟩;rw[m]at d p;have s:Ϣ (Cm (w.drew.alloc (.cells j 3)) w.heap.size (vS (ϋ w) 0 G) []):=World.ownsRow_made (base:=w.heap.size) (e:=3) (size:=1) w.drew j G nR b p;have A:0<(n:Int):=Ϥ;unfold maxLen at b;clear m k o q y f;go_enter func246,ntmps246;go_wp2_with (at_builtin;refine Lib.wpList_append_run _ rfl _ _ _ _ rfl _ _ rfl rfl _ _ (d _) ?_);go_ret;exact⟨⟨_,rfl,s.o⟩,(bR.drew).alloc nR _⟩
theorem Kd(l:List Int):∀u∈l.map Gc,u.oneCell'=true:=by
 intro u b;obtain⟨n,_,rfl⟩:=mem_map.1 b;rfl
theorem Hr{b f:Nat}(h:Ay w (some ⟨b,f,none⟩) l):∀j u,(l.map Gc)[j]? =some u->w.cell? ((⟨b,f,none⟩:Addr).add j)=some u:=by
 intro j u d;rw[getElem?_map]at d;obtain⟨n,c,rfl⟩:=Option.map_eq_some_iff.1 d;obtain⟨g,m⟩:=List.getElem?_eq_some_iff.1 c;obtain⟨k,o,e,x⟩:=h j g
 cases e
 rw[Q3,x];simp[gDe,c,Gc]
theorem Uy(g:Nat)(S T:ϡ)(W X:Nat)(c d:List Int)(w:Ϡ)(n1:0<c.length)(n2:0<d.length)(m1:c.length<=400)(m2:d.length<=400)(h1:Ay w S c)(f:Ay w T d)
 (L:Δ w g 0 (vS S c.length W)) (M:Δ w g 1 (vS T d.length X)):
 χ 198 #[vS (ϋ g) 2 2] w λe w'=>(∃t Y,e= .returned (vS t (c++d).length Y)/\Cm w' w.heap.size (vS t (c++d).length Y) (c++d))/\ϣ w w':=by
 obtain⟨z,hi,af,ag,ah⟩:=info_parts Tryz.info3;have k:Ϣ (Tryz.prog.info? 3=some z/\z.zero=some (vI 0)/\z.size=1/\z.bytes=8):=⟨hi,af,ag,ah⟩;clear hi af ag ah;obtain⟨U,o1,rfl,_⟩:=h1 0 n1;obtain⟨V,o2,rfl,_⟩:=f 0 n2;have ai:Ϣ (∀w',ϣ w w'->∀j u,(c.map Gc)[j]? =some u->w'.cell? ((⟨U,o1,none⟩:Addr).add j)=some u):=λw' o=>Hr (Al h1 o);have aj:Ϣ (∀w',ϣ w w'->∀j u,(d.map Gc)[j]? =some u->w'.cell? ((⟨V,o2,none⟩:Addr).add j)=some u):=λw' o=>Hr (Al f o);have ac:Ϣ ((c.map Gc).length=c.length):=lMp ..;have ae:Ϣ ((d.map Gc).length=d.length):=lMp ..;clear h1 f;obtain⟨p,F⟩:∃n,c.length=n:=⟨_,rfl⟩;obtain⟨A,G⟩:∃n,d.length=n:=⟨_,rfl⟩;have D:Ϣ (c.length=p):=F;have Q:Ϣ (d.length=A):=G;rw[F]at n1 m1 L ac;rw[G]at n2 m2 M ae;rw[lAp,F,G];clear F G;have HG:Ϣ (∀q,CT 246 #[ώ,vI ((p:Int)+A)] q λe w'=>(∃v,e= .returned v/\Cm w' q.heap.size v [])/\ϣ q w'):=λq=>by
  have h:=ZN (p+A) q Ϥ;rwa[Int.natCast_add]at h
 go_enter func198,ntmps198;go_wp2
 go_loop [3,11] (λs i=>(i=vI 0/\s=vI 0)\/(i=vI 1/\s=vI p)\/(i=vI 2/\s=vI ((p:Int)+A))) (λ_ i=>2 - (intOf i).toNat)
 case atStart=>exact .inl ⟨rfl,rfl⟩
 case round=>
  rcases hrel with⟨rfl,rfl⟩|⟨rfl,rfl⟩|⟨rfl,rfl⟩
  ·go_wp2
   go_round
   case rel=>exact .inr (.inl ⟨rfl,rfl⟩)
   case measure=>simp[intOf]
  ·go_wp2
   go_round
   case rel=>exact .inr (.inr ⟨rfl,rfl⟩)
   case measure=>simp[intOf]
  ·go_wp2_with fail;refine(HG.o _).mono ?_;rintro e q ⟨⟨v,rfl,ab⟩,E⟩;have f1:=cLz E L;have f2:=cLz E M;have R:Ϣ (Cm q w.heap.size v []):=ab;clear ab;go_wp2
   go_loopw [6,27] (λx i wr=> ∃l:List Int,((i=vI 0/\l=[])\/(i=vI 1/\l=c)\/(i=vI 2/\l=c++d))/\Cm wr w.heap.size x l/\ϣ w wr) (λ_ i _=>2 - (intOf i).toNat)
   case atStart=>exact⟨[],.inl ⟨rfl,rfl⟩,R.o,E⟩
   case round=>
    obtain⟨l,hl,aa,m⟩:=hrel;have g1:=cLz m L;have g2:=cLz m M;have r:Ϣ (Cm wr w.heap.size u6 l):=aa;have I:=m.size;clear aa f1 f2 E R;have ak:(u27=vI 0/\[]=l)\/(u27=vI 1/\c=l)\/(u27=vI 2/\c++d=l):=by
     rcases hl with⟨h1,f⟩|⟨h1,f⟩|⟨h1,f⟩
     ·exact .inl ⟨h1,f.symm⟩
     ·exact .inr (.inl ⟨h1,f.symm⟩)
     ·exact .inr (.inr ⟨h1,f.symm⟩)
    clear hl;rcases ak with⟨rfl,rfl⟩|⟨rfl,rfl⟩|⟨rfl,rfl⟩
    ·go_wp2_with (at_builtin;refine wpList_append_own _ rfl (.tmp 31) (.tmp 32) 29 rfl w.heap.size 3 z (vI 0) 1 8 underlying29 k.o.1 k.o.2.1 k.o.2.2.1 k.o.2.2.2 rfl ϥ _ _ _ rfl r.o ⟨U,o1,none⟩ p W (c.map Gc) rfl (by rw[ac.o,Nat.mul_one]) (ai.o _ m) (Kd c) (by unfold maxLen;(simp only[length_nil];omega)) (by(simp only[length_nil];omega)) I ?_;intro O C B N am);have J:Ϣ (Cm C w.heap.size O (c)):=by
      show C.ownsRow _ _ _ _ (c).length ((c).map Gc);simpa[D.o]using B
     obtain⟨t,K,y,Z⟩:=Bw B;subst y;go_roundw
     case rel=>exact⟨c,.inr (.inl ⟨rfl,rfl⟩),J.o,m.grown N I (λb o=>(World.ownsRow.lt r.o b o).1)⟩
     case measure=>simp[intOf]
    ·go_wp2_with (at_builtin;refine wpList_append_own _ rfl (.tmp 31) (.tmp 32) 29 rfl w.heap.size 3 z (vI 0) 1 8 underlying29 k.o.1 k.o.2.1 k.o.2.2.1 k.o.2.2.2 rfl ϥ _ _ _ rfl r.o ⟨V,o2,none⟩ A X (d.map Gc) rfl (by rw[ae.o,Nat.mul_one]) (aj.o _ m) (Kd d) (by unfold maxLen;(rw[D.o];omega)) (by(rw[D.o];omega)) I ?_;intro O C B N am);have J:Ϣ (Cm C w.heap.size O (c++d)):=by
      show C.ownsRow _ _ _ _ (c++d).length ((c++d).map Gc);rw[lAp,map_append,Q.o];exact B
     obtain⟨t,K,y,Z⟩:=Bw B;subst y;go_roundw
     case rel=>exact⟨c++d,.inr (.inr ⟨rfl,rfl⟩),J.o,m.grown N I (λb o=>(World.ownsRow.lt r.o b o).1)⟩
     case measure=>simp[intOf]
    ·obtain⟨t,K,y,Z⟩:=Bw r.o;have al:(c++d).length=p+A:=by rw[lAp,D.o,Q.o]
     rw[al]at y;subst y;go_wp2;go_ret;exact⟨⟨t,K,rfl,r.o⟩,m⟩
theorem Ew(p:Pln)(x:PA)(w:Ϡ)(k:planAt w p x)(y:0<p.left.length)(z:0<p.right.length)(t:p.left.length<=400)(u:p.right.length<=400):
 χ 133 #[Aj p x] w λe w'=>(∃d f,e= .returned (vS d (A7 p).length f)/\Cm w' w.heap.size (vS d (A7 p).length f) (A7 p))/\ϣ w w':=by
 have K:Ϣ (∀g b,ϣ w b->Δ b g 0 (vS x.l p.left.length x.lc)->Δ b g 1 (vS x.r p.right.length x.rc)->
  χ 198 #[vS (ϋ g) 2 2] b λe w'=>(∃d f,e= .returned (vS d (A7 p).length f)/\Cm w' b.heap.size (vS d (A7 p).length f) (A7 p))/\ϣ b w'):=
  λg b m B C=>Uy g x.l x.r x.lc x.rc p.left p.right b y z t u (Al k.l m) (Al k.r m) B C
 obtain⟨L,o⟩:=nM ((A7 p).length);rw[o]at K⊢;clear o;obtain⟨M,q⟩:=nM (A7 p);rw[q]at K⊢;clear q k y z t u;obtain⟨S,Z,Y,R,size,U,left,right,X,ab,Q,O,J⟩:=p;obtain⟨l,T,r,rc,V,W,rk,aa,g,N,a,I⟩:=x;unfold Aj;dsimp only at K⊢;obtain⟨n6,h⟩:∃n,left.length=n:=⟨_,rfl⟩;obtain⟨n7,j⟩:∃n,right.length=n:=⟨_,rfl⟩;rw[h,j]at K;rw[h,j];clear h j;go_enter func133,ntmps133;go_wp2_with (go_at_call 198;refine(K.o _ _ (ϯ.alloc Ϧ _) Ϩ Ϩ).mono ?_;rintro e b ⟨⟨d,f,rfl,s⟩,G⟩);go_ret;exact⟨⟨d,f,rfl,⟨s.1,s.2.imp id (λ⟨g,c,A,D,E,F⟩=>⟨g,c,A,D,by simp at E;omega,F⟩)⟩⟩,(ϯ.alloc Ϧ _).trans (G.mono ϩ)⟩
theorem ZO(i c:Int)(w:Ϡ):
 χ 134 #[vI i,vI c] w (ψ w (.bool (AA c 1 3))):=by
 go_enter func134,ntmps134;go_wp2_with (go_at_call 126;refine(Ct _ _ _ _).mono ?_;rintro e w' ⟨rfl,b⟩;subst b);go_ret;exact⟨rfl,bR⟩
theorem L6(p:Pln):decide (CF p)=allB (A7 p).length (λi=>AA ((A7 p).getD i 0) 1 3):=by
 refine(Em ?_).symm;unfold CF;rw[AF];simp only[Bh];exact EL (Q:=λc:Int=>1<=c/\c<=3)
theorem Nc(p:Pln)(x:PA)(w:Ϡ)(k:planAt w p x)(s:0<p.left.length)(t:0<p.right.length)(o:p.left.length<=400)(q:p.right.length<=400):
 χ 72 #[Aj p x] w (ψ w (.bool (decide (CF p)))):=by
 have K:Ϣ (∀b,ϣ w b->CT 133 #[Aj p x] b λe w'=>(∃c d,e= .returned (vS c (A7 p).length d)/\Cm w' b.heap.size (vS c (A7 p).length d) (A7 p))/\ϣ b w'):=
  λb y=>Ew p x b (Ae k y) s t o q
 have C:(A7 p).length<=800:=by unfold A7;rw[lAp];omega
 have f:Ϣ (∀c d b,Ay b c (A7 p)->CT 132 #[vS c (A7 p).length d,.func (.func 134) #[] #[]] b (ψ b (.bool (decide (CF p))))):=by
  intro c d b D;rw[L6];exact Hq 134 (enters_of func134 ϧ rfl) #[] (λi=>AA ((A7 p).getD i 0) 1 3) c d (A7 p) b Ϥ D (λi u _ _=>ZO i _ u)
 obtain⟨tb,m⟩:=nM (decide (CF p));rw[m]at f⊢;obtain⟨I,h⟩:=nM ((A7 p).length);rw[h]at K f;obtain⟨J,j⟩:=nM (A7 p);rw[j]at K f;clear j C h m k s t o q;obtain⟨Q,X,W,O,size,S,left,right,V,ab,N,M,G⟩:=p;obtain⟨l,R,r,Y,T,U,Z,aa,g,L,a,F⟩:=x;unfold Aj at K⊢;dsimp only at K⊢;go_enter func72,ntmps72;go_wp2_with (first
  |(go_at_call 133;refine(K.o _ ϯ).mono ?_;rintro e b ⟨⟨c,d,rfl,E⟩,z⟩;have B:=ϯ.trans (z.mono Ϧ))
  |(go_at_call 132;refine(f.o _ _ _ (Ea E).1).mono ?_;rintro e u ⟨rfl,A⟩))
 go_ret;exact⟨rfl,bT B A⟩
def Q4(l:List Int)(x:Int):Int:=if l.findIdx (· ==x)<l.length then((l.findIdx (· ==x):Nat):Int)else -1
theorem ZP{k:Nat}(b:k<l.length)(h:l.getD k 0=x)(d:∀i,i<k->l.getD i 0≠x):Q4 l x=k:=by
 have e:l.findIdx (· ==x)=k:=by
  rw[findIdx_eq b];refine⟨by simpa[gDe,b]using h,λj c=>?_⟩;have:=d j c;simpa[gDe,show j<l.length by omega]using this
 unfold Q4;rw[e,if_pos b]
theorem ZQ(d:∀i,i<l.length->l.getD i 0≠x):Q4 l x= -1:=by
 unfold Q4;rw[if_neg];intro h;have c:=findIdx_getElem (w:=h);have b:=d _ h;simp only[gDe,gEe h,Option.getD_some]at b;exact b (by simpa using c)
theorem XA(a:ϡ)(cap:Nat)(l:List Int)(x:Int)(w:Ϡ)(t:l.length<=ύ)(ha:Ay w a l):
 χ 202 #[vS a l.length cap,vI x] w λe w'=>e= .returned (vI (Q4 l x))/\w'=w:=by
 obtain⟨n,m⟩:∃n,l.length=n:=⟨_,rfl⟩;have j:Ϣ (l.length=n):=m;rw[m]at t⊢;clear m;go_enter func202,ntmps202;go_wp2
 go_loop [8] (λi=> ∃k:Nat,k<=n/\i=vI k/\∀i,i<k->l.getD i 0≠x) (λi=>n - (intOf i).toNat)
 case atStart=>exact⟨0,Nat.zero_le _,rfl,λi d=>absurd d (Nat.not_lt_zero i)⟩
 case round=>
  obtain⟨k,A,rfl,r⟩:=hrel;have g:Ϣ (∀i,i<k->l.getD i 0≠x):=r;clear r;by_cases s:k<n
  ·obtain⟨b,o,e,u⟩:=ha k (by rw[j.o];exact s);subst e;clear ha;have B:=nn0 k;have C:(k:Int)<(n:Int):=Ϥ;obtain⟨z,p⟩:=nM (l.getD k 0);have q:Ϣ (l.getD k 0=z):=p;rw[p]at u;clear p;by_cases f:x=z
   ·subst f;have c:Ϣ (Q4 l x=k):=ZP (by rw[j.o];exact s) q.o g.o;go_wp2;go_ret;exact⟨Ad c.o.symm,rfl⟩
   ·have y:(x==z)=false:=by simpa using f
    have c:Ϣ (l.getD k 0≠x):=by show l.getD k 0≠x;rw[q.o];exact λh=>f h.symm
    clear f;go_wp2
    go_round
    case rel=>exact⟨k+1,Ϥ,by go_num,λi d=>by
     rcases Nat.lt_succ_iff_lt_or_eq.1 d with h|h
     ·exact g.o i h
     ·rw[h];exact c.o⟩
    case measure=>simp[intOf];omega
  ·have c:Ϣ (Q4 l x= -1):=ZQ (λi d=>g.o i (by rw[j.o]at d;omega));go_wp2;go_ret;exact⟨Ad c.o.symm,rfl⟩
theorem F7(x:Int)(a:ϡ)(n cap:Nat)(w:Ϡ)(c:n<=9223372036854775807):
 χ 201 #[vI x,vS a n cap] w λe w'=>e= .returned (.bool (AA x 0 ((n:Int) - 1)))/\w'=w:=by
 go_enter func201,ntmps201;go_wp2_with (go_at_call 126;refine(Ct _ _ _ _).mono ?_;rintro e w' ⟨rfl,b⟩;subst b);go_ret;exact⟨rfl,rfl⟩
def Nf(l:List Int)(n:Nat)(i:Nat):Bool:=AA (l.getD i 0) 0 ((n:Int) - 1)&&decide (Q4 l (l.getD i 0)=i)
theorem EN(h:i<l.length):l.getD i 0=l[i]:=by simp[gDe,h]
theorem Uz(l:List Int)(n:Nat):decide (Bj l n)=allB l.length (Nf l n):=by
 refine(Em ?_).symm;rw[AF];unfold Bj Nf;simp only[Bool.and_eq_true,Bh,decide_eq_true_eq]
 constructor
 ·intro h;refine⟨(EL (Q:=λx:Int=>0<=x/\x<(n:Int))).1 (λi b=>⟨(h i b).1.1,by have:=(h i b).1.2;omega⟩),?_⟩;rw[pairwise_iff_getElem];intro i j b f m e;have g:=(h i b).2;have c:=(h j f).2;rw[EN b]at g;rw[EN f,<-e]at c;omega
 ·intro ⟨g,c⟩ i b;have k:=g _ (CQ (d:=0) b);refine⟨⟨k.1,Ϥ⟩,ZP b rfl (λj f=>?_)⟩;rw[pairwise_iff_getElem]at c;rw[EN b,EN Ϥ];exact c j i Ϥ b f
theorem Ac9(i:Nat)(f g:Nat)(b s:ϡ)(j t n:Nat)(l:List Int)(w:Ϡ)(k:l.length<=ύ)(u:n<=9223372036854775807)(ha:Ay w b l)
 (y:Δ w g 0 (vS s n t)) (h1:Δ w f 0 (vS b l.length j)):
 χ 200 #[vI i,vI (l.getD i 0),ω g,ω f] w (ψ w (.bool (Nf l n i))):=by
 have K:=hIz (λ(q:Ϡ) x (h:Ay q b l)=>XA b j l x q k h);have c:Ϣ (Nf l n i=(AA (l.getD i 0) 0 ((n:Int) - 1)&&decide (Q4 l (l.getD i 0)=i))):=rfl;obtain⟨z,p⟩:=nM (l.getD i 0);rw[p]at c⊢;obtain⟨m,o⟩:=nM l.length;rw[o]at K h1;have r:Ϣ (Ay w b l):=ha;clear p o ha k
 cases hb:AA z 0 ((n:Int) - 1)<;>rw[hb]at c
 all_goals
  go_enter func200,ntmps200;go_wp2_with (first
   |(go_at_call 201;refine(F7 _ _ _ _ _ u).mono ?_;rintro e w' ⟨rfl,d⟩;subst d)
   |(go_at_call 202;refine(K.o _ _ r.o).mono ?_;rintro e w' ⟨rfl,d⟩;subst d))
  go_ret;exact⟨Aa (by rw[c.o];exact Bool.eq_iff_iff.2 Ϧ),bR⟩
theorem FK(b h:ϡ)(g j n:Nat)(l:List Int)(w:Ϡ)(o:l.length<=ύ)(r:n<=9223372036854775807)(ha:Ay w b l):
 χ 136 #[vS b l.length g,vS h n j] w (ψ w (.bool (decide (Bj l n)))):=by
 have K:Ϣ (∀d f c,Ay c b l->Δ c f 0 (vS h n j)->Δ c d 0 (vS b l.length g)->
  χ 132 #[vS b l.length g,.func (.func 200) #[] #[ω f,ω d]] c (ψ c (.bool (decide (Bj l n))))):=by
  intro d f c p y u;rw[Uz];exact Hq 200 (enters_of func200 ϧ rfl) #[ω f,ω d] (Nf l n) b g l c o p (λi A _ k=>Ac9 i d f b h g j n l A o r (Al p k) (cLz k y) (cLz k u))
 obtain⟨m,q⟩:=nM l.length;rw[q]at K⊢;obtain⟨B,s⟩:=nM (decide (Bj l n));rw[s]at K⊢;have t:Ϣ (Ay w b l):=ha;clear q s ha o r;go_enter func136,ntmps136;go_wp2_with (go_at_call 132;refine(K.o _ _ _ (Al t.o (ϯ.alloc Ϧ _)) Ϩ Ϩ).mono ?_;rintro e c ⟨rfl,z⟩);go_ret;exact⟨rfl,(ϯ.alloc Ϧ _).trans (z.mono ϩ)⟩
def Wy(g:Bool)(l:List (Int×Int))(k:Nat):Prop:=g=true->∀i,i<k->AA (l.getD i (0,0)).1 1 4=true
theorem IY(p:Pln):decide (Bu p)=(AA p.kind 1 3&&AA p.mode 1 (if p.kind=3 then 2 else 4)&&(!p.grouped||Jy p.aggs)):=by
 refine(Em ?_).symm;simp only[Bool.and_eq_true,Bool.or_eq_true,Bh,RV,Bu,Bool.not_eq_true',and_assoc]
 cases p.grouped<;>simp
theorem Wz{l:List (Int×Int)}(b:i<l.length)(h:AA (l.getD i (0,0)).1 1 4=false):Jy l=false:=CP b h
theorem Sa{l:List (Int×Int)}(h:∀i,i<l.length->AA (l.getD i (0,0)).1 1 4=true):Jy l=true:=AF.2 h
theorem AcA{b:Int}(h:AA b 1 4=true):AA b 1 2=decide (¬2<b):=by
 have:=(Bh _ _ _).1 h;unfold AA;by_cases c:2<b
 ·rw[decide_eq_false Ϥ,decide_eq_false Ϥ]
 ·rw[decide_eq_true Ϥ,decide_eq_true Ϥ]
theorem GO(p:Pln)(x:PA)(w:Ϡ)(O:DI w x.a p.aggs)(W:p.aggs.length<=ύ):
 χ 84 #[Aj p x] w (ψ w (.bool (!decide (Bu p)))):=by
 have q:Ϣ ((!decide (Bu p))= !(AA p.kind 1 3&&AA p.mode 1 (if p.kind=3 then 2 else 4)&&(!p.grouped||Jy p.aggs))):=by show(!decide (Bu p))=_;rw[IY]
 obtain⟨f,X⟩:=nM (!decide (Bu p));rw[X]at q⊢;clear X;have K:Ϣ (∀i,i<p.aggs.length->AA (p.aggs.getD i (0,0)).1 1 4=false->Jy p.aggs=false):=λi j h=>Wz j h;have M:Ϣ ((∀i,i<p.aggs.length->AA (p.aggs.getD i (0,0)).1 1 4=true)->Jy p.aggs=true):=Sa;obtain⟨A,C,ah,ab,size,ae,left,right,ag,aj,s,aa,d⟩:=p;obtain⟨l,lc,r,rc,lk,af,rk,ai,g,gc,a,ac⟩:=x;unfold Aj;dsimp only at q K M O W⊢;obtain⟨t,N⟩:∃n,d.length=n:=⟨_,rfl⟩;have R:Ϣ (d.length=t):=N;rw[N]at K M W⊢;clear N;have S:Ϣ (DI w a d):=O;clear O
 cases h0:AA A 1 3 with
 |false=>
  rw[h0]at q;go_enter func84,ntmps84;go_wp2_with
   (go_at_call 83;refine(Ap _ _ _ _).mono ?_;rintro e w' ⟨rfl,c⟩;subst c)
  go_ret;exact⟨Aa (by rw[q.o];rfl),ϯ⟩
 |true=>
  rw[h0]at q
  cases h1:AA C 1 4 with
  |false=>
   have B:Ϣ (f=true):=by
    show f=true;rw[q.o];by_cases m:A=3
    ·rw[if_pos m];have:AA C 1 2=false:=(CH _ _ _).2 (by have:=(CH _ _ _).1 h1;omega);rw[this];rfl
    ·rw[if_neg m,h1];rfl
   go_enter func84,ntmps84;go_wp2_with
    (go_at_call 83;refine(Ap _ _ _ _).mono ?_;rintro e w' ⟨rfl,c⟩;subst c)
   go_ret;exact⟨Aa B.o.symm,ϯ⟩
  |true=>
   have L:=AcA h1;by_cases T:A=3/\2<C
   ·obtain⟨rfl,hm⟩:=T;rw[if_pos rfl,L,decide_eq_false Ϥ]at q;clear L;go_enter func84,ntmps84;go_wp2_with
     (go_at_call 83;refine(Ap _ _ _ _).mono ?_;rintro e w' ⟨rfl,c⟩;subst c)
    go_ret;exact⟨Aa (by rw[q.o];rfl),ϯ⟩
   ·have B:Ϣ (f= !(!s||Jy d)):=by
     show f=_;rw[q.o];by_cases m:A=3
     ·rw[if_pos m,L,decide_eq_true Ϥ];rfl
     ·rw[if_neg m,h1];rfl
    clear q L;have V:A≠3\/C<=2:=Ϥ;clear T;rcases V with m|m
    ·have U:(A==3)=false:=by simpa using m
     clear m;go_enter func84,ntmps84;go_wp2_with
      (go_at_call 83;refine(Ap _ _ _ _).mono ?_;rintro e w' ⟨rfl,c⟩;subst c)
     go_loop [3] (λi=> ∃k:Nat,k<=t/\i=vI k/\(s=true->∀i,i<k->AA (d.getD i (0,0)).1 1 4=true)) (λi=>t - (intOf i).toNat)
     case atStart=>exact⟨0,Nat.zero_le _,rfl,λ_ i j=>absurd j (Nat.not_lt_zero i)⟩
     case round=>
      obtain⟨k,m,rfl,F⟩:=hrel;have D:Wy s d k:=F;clear F;by_cases I:k<t
      ·obtain⟨b,o,e,J,Q⟩:=S.o k (by rw[R.o];exact I);subst e;have G:=bLt _ _ J;have Y:b<w.heap.size:=G;have Z:=nn0 k;have i2:(k:Int)<(t:Int):=Ϥ;obtain⟨z,y⟩:=nM ((d.getD k (0,0)).1);have E:Ϣ ((d.getD k (0,0)).1=z):=y;rw[y]at J;clear Q G y
       cases s with
       |false=>
        go_wp2
        go_round
        case rel=>exact⟨k+1,Ϥ,by go_num,λh=>absurd h ϥ⟩
        case measure=>simp[intOf];omega
       |true=>
        cases hf:AA z 1 4 with
        |true=>
         go_wp2_with
          (go_at_call 83;refine(Ap _ _ _ _).mono ?_;rintro e w' ⟨rfl,c⟩;subst c)
         go_round
         case rel=>exact⟨k+1,Ϥ,by go_num,λ_ i j=>by
          rcases Nat.lt_succ_iff_lt_or_eq.1 j with h|h
          ·exact D rfl i h
          ·rw[h,E.o];exact hf⟩
         case measure=>simp[intOf];omega
        |false=>
         have u:Ϣ (f=true):=by
          show f=true;rw[B.o,K.o k I (by rw[E.o];exact hf)];rfl
         go_wp2_with
          (go_at_call 83;refine(Ap _ _ _ _).mono ?_;rintro e w' ⟨rfl,c⟩;subst c)
         go_ret;exact⟨Aa u.o.symm,ϯ⟩
      ·have u:Ϣ (f=false):=by
        show f=false;rw[B.o]
        cases hg:s with
        |false=>rfl
        |true=>rw[M.o (λi j=>D hg i Ϥ)];rfl
       go_wp2;go_ret;exact⟨Aa u.o.symm,ϯ⟩
    ·have U:¬2<C:=Ϥ;have ad:decide (2<C)=false:=decide_eq_false U
     cases V:(A==3)
     all_goals
      go_enter func84,ntmps84;go_wp2_with
       (go_at_call 83;refine(Ap _ _ _ _).mono ?_;rintro e w' ⟨rfl,c⟩;subst c)
      go_loop [3] (λi=> ∃k:Nat,k<=t/\i=vI k/\(s=true->∀i,i<k->AA (d.getD i (0,0)).1 1 4=true)) (λi=>t - (intOf i).toNat)
      case atStart=>exact⟨0,Nat.zero_le _,rfl,λ_ i j=>absurd j (Nat.not_lt_zero i)⟩
      case round=>
       obtain⟨k,m,rfl,F⟩:=hrel;have D:Wy s d k:=F;clear F;by_cases I:k<t
       ·obtain⟨b,o,e,J,Q⟩:=S.o k (by rw[R.o];exact I);subst e;have G:=bLt _ _ J;have Y:b<w.heap.size:=G;have Z:=nn0 k;have i2:(k:Int)<(t:Int):=Ϥ;obtain⟨z,y⟩:=nM ((d.getD k (0,0)).1);have E:Ϣ ((d.getD k (0,0)).1=z):=y;rw[y]at J;clear Q G y
        cases s with
        |false=>
         go_wp2
         go_round
         case rel=>exact⟨k+1,Ϥ,by go_num,λh=>absurd h ϥ⟩
         case measure=>simp[intOf];omega
        |true=>
         cases hf:AA z 1 4 with
         |true=>
          go_wp2_with
           (go_at_call 83;refine(Ap _ _ _ _).mono ?_;rintro e w' ⟨rfl,c⟩;subst c)
          go_round
          case rel=>exact⟨k+1,Ϥ,by go_num,λ_ i j=>by
           rcases Nat.lt_succ_iff_lt_or_eq.1 j with h|h
           ·exact D rfl i h
           ·rw[h,E.o];exact hf⟩
          case measure=>simp[intOf];omega
         |false=>
          have u:Ϣ (f=true):=by
           show f=true;rw[B.o,K.o k I (by rw[E.o];exact hf)];rfl
          go_wp2_with
           (go_at_call 83;refine(Ap _ _ _ _).mono ?_;rintro e w' ⟨rfl,c⟩;subst c)
          go_ret;exact⟨Aa u.o.symm,ϯ⟩
       ·have u:Ϣ (f=false):=by
         show f=false;rw[B.o]
         cases hg:s with
         |false=>rfl
         |true=>rw[M.o (λi j=>D hg i Ϥ)];rfl
        go_wp2;go_ret;exact⟨Aa u.o.symm,ϯ⟩
theorem Iz(p:Pln)(x:PA)(w:Ϡ):
 χ 85 #[Aj p x] w (ψ w (.bool (!decide (BE p)))):=by
 have c:Ϣ ((!decide (BE p))= !(Mn p&&Mo p&&AA p.limit 1 64)):=by show(!decide (BE p))=_;rw[Na]
 have s:Ϣ (Mn p=if p.kind=1 then tm.Bt p.low&&tm.Bt p.high else decide (p.low=0)&&decide (p.high=0)):=rfl;have t:Ϣ (Mo p=if p.kind=2 then AA p.size 1 1099511627776 else decide (p.size=0)):=rfl;obtain⟨T,u⟩:=nM (!decide (BE p));rw[u]at c⊢;rw[s.o,t.o]at c;clear u s t;obtain⟨k,R,q,o,size,M,left,right,Q,W,D,C,A⟩:=p;obtain⟨l,L,r,S,N,O,U,V,g,B,a,z⟩:=x;unfold Aj;dsimp only at c⊢;by_cases f:k=1
 ·subst f;rw[if_pos rfl,if_neg ϥ]at c
  cases j:tm.Bt q<;>rw[j]at c
  ·go_enter func85,ntmps85;go_wp2_with
    (first|(go_at_call 83;refine(Ap _ _ _ _).mono ?_;rintro e w' ⟨rfl,b⟩;subst b)|(go_at_call 148;refine(tm.BD _ _).mono ?_;rintro e w' ⟨rfl,b⟩;subst b))
   go_ret;exact⟨Aa (by rw[c.o];first|rfl|simp),ϯ⟩
  ·cases h:tm.Bt o<;>rw[h]at c
   ·go_enter func85,ntmps85;go_wp2_with
     (first|(go_at_call 83;refine(Ap _ _ _ _).mono ?_;rintro e w' ⟨rfl,b⟩;subst b)|(go_at_call 148;refine(tm.BD _ _).mono ?_;rintro e w' ⟨rfl,b⟩;subst b))
    go_ret;exact⟨Aa (by rw[c.o];first|rfl|simp),ϯ⟩
   ·by_cases d:size=0
    ·subst d;go_enter func85,ntmps85;go_wp2_with
      (first|(go_at_call 83;refine(Ap _ _ _ _).mono ?_;rintro e w' ⟨rfl,b⟩;subst b)|(go_at_call 148;refine(tm.BD _ _).mono ?_;rintro e w' ⟨rfl,b⟩;subst b))
     go_ret;exact⟨Aa (by rw[c.o];first|rfl|simp),ϯ⟩
    ·have y:(size !=0)=true:=by simpa using d
     rw[decide_eq_false d]at c;clear d;go_enter func85,ntmps85;go_wp2_with
      (first|(go_at_call 83;refine(Ap _ _ _ _).mono ?_;rintro e w' ⟨rfl,b⟩;subst b)|(go_at_call 148;refine(tm.BD _ _).mono ?_;rintro e w' ⟨rfl,b⟩;subst b))
     go_ret;exact⟨Aa (by rw[c.o];first|rfl|simp),ϯ⟩
 ·rw[if_neg f]at c;have E:(k==1)=false:=by simpa using f
  have F:(k !=1)=true:=by simpa using f
  by_cases j:q=0
  ·subst j;rw[show decide ((0:Int)=0)=true by decide]at c;by_cases h:o=0
   ·subst h;rw[show decide ((0:Int)=0)=true by decide]at c;by_cases m:k=2
    ·subst m;rw[if_pos rfl]at c
     cases d:AA size 1 1099511627776<;>rw[d]at c
     all_goals
      go_enter func85,ntmps85;go_wp2_with
       (first|(go_at_call 83;refine(Ap _ _ _ _).mono ?_;rintro e w' ⟨rfl,b⟩;subst b)|(go_at_call 148;refine(tm.BD _ _).mono ?_;rintro e w' ⟨rfl,b⟩;subst b))
      go_ret;exact⟨Aa (by rw[c.o];first|rfl|simp),ϯ⟩
    ·rw[if_neg m]at c;have G:(k==2)=false:=by simpa using m
     have I:(k !=2)=true:=by simpa using m
     clear f m;by_cases d:size=0
     ·subst d;go_enter func85,ntmps85;go_wp2_with
       (first|(go_at_call 83;refine(Ap _ _ _ _).mono ?_;rintro e w' ⟨rfl,b⟩;subst b)|(go_at_call 148;refine(tm.BD _ _).mono ?_;rintro e w' ⟨rfl,b⟩;subst b))
      go_ret;exact⟨Aa (by rw[c.o];first|rfl|simp),ϯ⟩
     ·have y:(size !=0)=true:=by simpa using d
      rw[decide_eq_false d]at c;clear d;go_enter func85,ntmps85;go_wp2_with
       (first|(go_at_call 83;refine(Ap _ _ _ _).mono ?_;rintro e w' ⟨rfl,b⟩;subst b)|(go_at_call 148;refine(tm.BD _ _).mono ?_;rintro e w' ⟨rfl,b⟩;subst b))
      go_ret;exact⟨Aa (by rw[c.o];first|rfl|simp),ϯ⟩
   ·have J:(o !=0)=true:=by simpa using h
    rw[decide_eq_false h]at c;clear h f;go_enter func85,ntmps85;go_wp2_with
     (first|(go_at_call 83;refine(Ap _ _ _ _).mono ?_;rintro e w' ⟨rfl,b⟩;subst b)|(go_at_call 148;refine(tm.BD _ _).mono ?_;rintro e w' ⟨rfl,b⟩;subst b))
    go_ret;exact⟨Aa (by rw[c.o];first|rfl|simp),ϯ⟩
  ·have K:(q !=0)=true:=by simpa using j
   rw[decide_eq_false j]at c;clear j f;go_enter func85,ntmps85;go_wp2_with
    (first|(go_at_call 83;refine(Ap _ _ _ _).mono ?_;rintro e w' ⟨rfl,b⟩;subst b)|(go_at_call 148;refine(tm.BD _ _).mono ?_;rintro e w' ⟨rfl,b⟩;subst b))
   go_ret;exact⟨Aa (by rw[c.o];first|rfl|simp),ϯ⟩
theorem OX(p:Pln)(x:PA)(w:Ϡ)(b:wfPlan p):
 χ 86 #[Aj p x] w (ψ w (.bool (!decide (Cl p)))):=by
 have c:Ϣ ((!decide (Cl p))= !(AA p.left.length 1 4&&(AA p.right.length 1 4&&(AA p.lkeys.length 1 4&&AA p.rkeys.length 1 4))&&L4 p)):=by show(!decide (Cl p))=_;rw[RZ];rfl
 have q:Ϣ (L4 p=if p.grouped=true then AA p.aggs.length 1 4&&decide ((p.group.length:Int)<=8 - p.aggs.length)else decide (p.group.length=0)&&decide (p.aggs.length=0)):=rfl;rw[q.o]at c;obtain⟨W,s⟩:=nM (!decide (Cl p));rw[s]at c⊢;have t:=b.g;have u:=b.a;clear s q b;obtain⟨M,T,S,L,size,O,left,right,B,G,A,z,y⟩:=p;obtain⟨l,N,r,V,Q,R,X,Y,g,J,a,I⟩:=x;unfold Aj;dsimp only at c t u⊢;obtain⟨C,h⟩:∃n,left.length=n:=⟨_,rfl⟩;obtain⟨D,j⟩:∃n,right.length=n:=⟨_,rfl⟩;obtain⟨E,k⟩:∃n,B.length=n:=⟨_,rfl⟩;obtain⟨F,m⟩:∃n,G.length=n:=⟨_,rfl⟩;obtain⟨U,f⟩:∃n,z.length=n:=⟨_,rfl⟩;obtain⟨o,d⟩:∃n,y.length=n:=⟨_,rfl⟩;rw[h,j,k,m,f,d]at c;rw[f]at t;rw[d]at u;rw[h,j,k,m,f,d];clear h j k m f d
 cases b6:AA C 1 4<;>rw[b6]at c
 ·go_enter func86,ntmps86;go_wp2_with
   (first|(go_at_call 83;refine(Ap _ _ _ _).mono ?_;rintro e w' ⟨rfl,b⟩;subst b)|(go_at_call 148;refine(tm.BD _ _).mono ?_;rintro e w' ⟨rfl,b⟩;subst b))
  go_ret;exact⟨Aa (by rw[c.o];first|rfl|simp),ϯ⟩
 cases b7:AA D 1 4<;>rw[b7]at c
 ·go_enter func86,ntmps86;go_wp2_with
   (first|(go_at_call 83;refine(Ap _ _ _ _).mono ?_;rintro e w' ⟨rfl,b⟩;subst b)|(go_at_call 148;refine(tm.BD _ _).mono ?_;rintro e w' ⟨rfl,b⟩;subst b))
  go_ret;exact⟨Aa (by rw[c.o];first|rfl|simp),ϯ⟩
 cases b8:AA E 1 4<;>rw[b8]at c
 ·go_enter func86,ntmps86;go_wp2_with
   (first|(go_at_call 83;refine(Ap _ _ _ _).mono ?_;rintro e w' ⟨rfl,b⟩;subst b)|(go_at_call 148;refine(tm.BD _ _).mono ?_;rintro e w' ⟨rfl,b⟩;subst b))
  go_ret;exact⟨Aa (by rw[c.o];first|rfl|simp),ϯ⟩
 cases b9:AA F 1 4<;>rw[b9]at c
 ·go_enter func86,ntmps86;go_wp2_with
   (first|(go_at_call 83;refine(Ap _ _ _ _).mono ?_;rintro e w' ⟨rfl,b⟩;subst b)|(go_at_call 148;refine(tm.BD _ _).mono ?_;rintro e w' ⟨rfl,b⟩;subst b))
  go_ret;exact⟨Aa (by rw[c.o];first|rfl|simp),ϯ⟩
 cases A
 ·rw[if_neg ϥ]at c;by_cases d:o=0
  ·subst d;go_enter func86,ntmps86;go_wp2_with
    (first|(go_at_call 83;refine(Ap _ _ _ _).mono ?_;rintro e w' ⟨rfl,b⟩;subst b)|(go_at_call 148;refine(tm.BD _ _).mono ?_;rintro e w' ⟨rfl,b⟩;subst b))
   go_ret;exact⟨Aa (by rw[c.o];exact Bool.eq_iff_iff.2 (by simp;try omega)),ϯ⟩
  ·have K:(0:Int)<o:=Ϥ;rw[decide_eq_false d,Bool.and_false]at c;clear d;go_enter func86,ntmps86;go_wp2_with
    (first|(go_at_call 83;refine(Ap _ _ _ _).mono ?_;rintro e w' ⟨rfl,b⟩;subst b)|(go_at_call 148;refine(tm.BD _ _).mono ?_;rintro e w' ⟨rfl,b⟩;subst b))
   go_ret;exact⟨Aa (by rw[c.o];first|rfl|simp),ϯ⟩
 ·rw[if_pos rfl]at c
  cases b12:AA o 1 4<;>rw[b12]at c
  ·go_enter func86,ntmps86;go_wp2_with
    (first|(go_at_call 83;refine(Ap _ _ _ _).mono ?_;rintro e w' ⟨rfl,b⟩;subst b)|(go_at_call 148;refine(tm.BD _ _).mono ?_;rintro e w' ⟨rfl,b⟩;subst b))
   go_ret;exact⟨Aa (by rw[c.o];first|rfl|simp),ϯ⟩
  ·obtain⟨u1,u2⟩:=(Bh _ _ _).1 b12;go_enter func86,ntmps86;go_wp2_with
    (first|(go_at_call 83;refine(Ap _ _ _ _).mono ?_;rintro e w' ⟨rfl,b⟩;subst b)|(go_at_call 148;refine(tm.BD _ _).mono ?_;rintro e w' ⟨rfl,b⟩;subst b))
   go_ret;exact⟨Aa (by rw[c.o];exact Bool.eq_iff_iff.2 (by simp;try omega)),ϯ⟩
end pl
end Go.Proofs.YtfkihidbnfkbaaaGreatDoor
