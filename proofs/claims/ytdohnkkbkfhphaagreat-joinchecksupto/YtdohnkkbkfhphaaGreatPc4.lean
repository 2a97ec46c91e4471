import Derived.Test.YtdohnkkbkfhphaaGreatPc3
import Derived.RangeFuncNested
import Derived.RangeFuncBound
import Derived.Shelf.RegionOpen
import Derived.OwnWalkIn
import Derived.LoopNIn
import Derived.LoopIn
set_option linter.all false
set_option maxHeartbeats 1000000
set_option maxRecDepth 100000
namespace Go.Proofs.YtdohnkkbkfhphaaGreat
open Go.Proofs.Tryz
namespace pl
open Go.ChangeShapes Go.WideShapes Go.ChangeAt Go.RowKit
open vl
variable {w w' : World} {a : Option Addr}
def A2(w:World)(a:Option Addr)(l:List Int):Prop:=
 ∀i,i<l.length->∃b off,a=some ⟨b,off,none⟩/\w.cell? ⟨b,off+i,none⟩=some (.int .i64 (l.getD i 0))
def DT(w:World)(a:Option Addr)(l:List (Int×Int)):Prop:=
 ∀i,i<l.length->∃b off,a=some ⟨b,off,none⟩/\w.cell? ⟨b,off+i * 2,none⟩=some (.int .i64 (l.getD i (0,0)).1)/\w.cell? ⟨b,off+i * 2+1,none⟩=some (.int .i64 (l.getD i (0,0)).2)
theorem As{l:List Int}(h:A2 w a l)(hb:Bwz w w'):A2 w' a l:=by
 intro i hi
 obtain⟨b,o,e,x⟩:=h i hi
 exact⟨b,o,e,cLz hb x⟩
theorem CR{l:List (Int×Int)}(h:DT w a l)(hb:Bwz w w'):DT w' a l:=by
 intro i hi
 obtain⟨b,o,e,x,y⟩:=h i hi
 exact⟨b,o,e,cLz hb x,cLz hb y⟩
structure Pln where
 kind:Int
 mode:Int
 low:Int
 high:Int
 size:Int
 limit:Int
 left:List Int
 right:List Int
 lkeys:List Int
 rkeys:List Int
 grouped:Bool
 group:List Int
 aggs:List (Int×Int)
structure PA where
 l:Option Addr
 lc:Nat
 r:Option Addr
 rc:Nat
 lk:Option Addr
 lkc:Nat
 rk:Option Addr
 rkc:Nat
 g:Option Addr
 gc:Nat
 a:Option Addr
 ac:Nat
def Ap(p:Pln)(x:PA):Value:=
 .agg #[.int .i64 p.kind,.int .i64 p.mode,.int .i64 p.low,.int .i64 p.high,.int .i64 p.size,.int .i64 p.limit,
  .slice x.l p.left.length x.lc,.slice x.r p.right.length x.rc,.slice x.lk p.lkeys.length x.lkc,.slice x.rk p.rkeys.length x.rkc,.bool p.grouped,.slice x.g p.group.length x.gc,.slice x.a p.aggs.length x.ac]
structure planAt(w:World)(p:Pln)(x:PA):Prop where
 l:A2 w x.l p.left
 r:A2 w x.r p.right
 lk:A2 w x.lk p.lkeys
 rk:A2 w x.rk p.rkeys
 g:A2 w x.g p.group
 a:DT w x.a p.aggs
theorem Af{p:Pln}{x:PA}(h:planAt w p x)(hb:Bwz w w'):planAt w' p x:=
 ⟨As h.l hb,As h.r hb,As h.lk hb,As h.rk hb,As h.g hb,CR h.a hb⟩
def i64(n:Int):Prop:= -9223372036854775808<=n/\n<=9223372036854775807
structure wfPlan(p:Pln):Prop where
 low:i64 p.low
 high:i64 p.high
 l:p.left.length<=9223372036854775807
 r:p.right.length<=9223372036854775807
 lk:p.lkeys.length<=9223372036854775807
 rk:p.rkeys.length<=9223372036854775807
 g:p.group.length<=9223372036854775807
 a:p.aggs.length<=9223372036854775807
def fit(t:Int):Prop:= -1099511627776<=t/\t<=1099511627776
instance(t:Int):Decidable (fit t):=by unfold fit;infer_instance
def Ba(p:Pln):Prop:=(1<=p.kind/\p.kind<=3)/\(1<=p.mode/\p.mode<=(if p.kind=3 then 2 else 4))/\(p.grouped=true->∀a∈p.aggs,1<=a.1/\a.1<=4)
def Bi(p:Pln):Prop:=(if p.kind=1 then fit p.low/\fit p.high else p.low=0/\p.high=0)/\(if p.kind=2 then 1<=p.size/\p.size<=1099511627776 else p.size=0)/\(1<=p.limit/\p.limit<=64)
def I6(n:Nat):Prop:=1<=n/\n<=4
instance(n:Nat):Decidable (I6 n):=by unfold I6;infer_instance
def BG(p:Pln):Prop:=(I6 p.left.length/\I6 p.right.length/\I6 p.lkeys.length/\I6 p.rkeys.length)/\(if p.grouped=true then I6 p.aggs.length/\p.group.length+p.aggs.length<=8 else p.group.length=0/\p.aggs.length=0)
def Bj(p:Pln):List Int:=p.left++p.right
def Ca(p:Pln):Prop:=∀c∈Bj p,1<=c/\c<=3
def AP(l:List Int)(n:Nat):Prop:=(∀x∈l,0<=x/\x<(n:Int))/\l.Pairwise (· ≠ ·)
def EQ(p:Pln):Prop:=∀i,i<p.lkeys.length->p.left.getD (p.lkeys.getD i 0).toNat 0=p.right.getD (p.rkeys.getD i 0).toNat 0
def Da(c:List Int)(a:Int×Int):Prop:=if a.1=1 then a.2=0 else(0<=a.2/\a.2<(c.length:Int))/\(a.1=2->c.getD a.2.toNat 0=2)
def FX(p:Pln):Prop:=p.lkeys.length=p.rkeys.length/\AP p.lkeys p.left.length/\AP p.rkeys p.right.length/\EQ p
def AG(p:Pln):Prop:=p.low<=p.high/\FX p/\AP p.group (Bj p).length/\(∀a∈p.aggs,Da (Bj p) a)
instance(p:Pln):Decidable (Ba p):=by unfold Ba;infer_instance
instance(p:Pln):Decidable (Bi p):=by unfold Bi;infer_instance
instance(p:Pln):Decidable (BG p):=by unfold BG;infer_instance
instance(p:Pln):Decidable (Ca p):=by unfold Ca;infer_instance
instance(l:List Int)(n:Nat):Decidable (AP l n):=by unfold AP;infer_instance
instance(p:Pln):Decidable (EQ p):=by unfold EQ;infer_instance
instance(c:List Int)(a:Int×Int):Decidable (Da c a):=by unfold Da;infer_instance
instance(p:Pln):Decidable (FX p):=by unfold FX;infer_instance
instance(p:Pln):Decidable (AG p):=by unfold AG;infer_instance
def Al(p:Pln):Int:=
 if¬Ba p then 4 else if¬Bi p then 3 else if¬BG p then 2 else if¬Ca p then 5 else if¬AG p then 1 else 0
theorem BW{p:Pln}(h:Al p=0):Ba p/\Bi p/\BG p/\Ca p/\AG p:=by
 unfold Al at h
 by_cases h1:Ba p
 ·by_cases h2:Bi p
  ·by_cases h3:BG p
   ·by_cases h4:Ca p
    ·by_cases h5:AG p
     ·exact⟨h1,h2,h3,h4,h5⟩
     ·rw[if_neg (by simp[h1]),if_neg (by simp[h2]),if_neg (by simp[h3]),if_neg (by simp[h4]),if_pos h5]at h;cases h
    ·rw[if_neg (by simp[h1]),if_neg (by simp[h2]),if_neg (by simp[h3]),if_pos h4]at h;cases h
   ·rw[if_neg (by simp[h1]),if_neg (by simp[h2]),if_pos h3]at h;cases h
  ·rw[if_neg (by simp[h1]),if_pos h2]at h;cases h
 ·rw[if_pos h1]at h;cases h
end pl
namespace pl
open Go.ChangeShapes Go.WideShapes Go.ChangeAt Go.RowKit Go.Joins Go.Deep
open vl
theorem YT:Tryz.prog.cellsOf 69=2:=by kernel_rfl
theorem YU:Tryz.prog.cellsOf 25=13:=by kernel_rfl
theorem XM:Tryz.prog.cellsOf 22=1:=by kernel_rfl
theorem XN:Tryz.prog.cellsOf 23=1:=by kernel_rfl
theorem YV:Tryz.prog.cellsOf 4=1:=by kernel_rfl
section
variable {H : Type} {enc : TypeId × Value -> H} {w : World} {base : Nat} {spare : Nat -> Bool} {held : Bool}
theorem LE{x:Addr}{cs:List Value}{y:DataW H×List MemPlace}{fuel:Nat}(hc:w.cells? base x 1=some cs)(ht:DataW.trod enc Tryz.prog w base spare held fuel 3 cs=some y):
 ∃(b off:Nat) (n:Int),x=⟨b,off,none⟩/\w.cell? ⟨b,off,none⟩=some (.int .i64 n)/\i64 n:=by
 obtain⟨_,hlen,hat⟩:=World.cells?_some hc
 obtain⟨n,e0,_,wn⟩:=DataW.trod_int underlying3 ht
 subst e0
 obtain⟨b,off,spot⟩:=x
 have g0:=hat 0 (by omega)
 have hspot:spot=none:=by simpa[Addr.add]using World.cell?_spot g0
 subst hspot
 exact⟨b,off,n,rfl,by simpa[Addr.add]using g0,bounds_i64 wn⟩
theorem LF{x:Addr}{cs:List Value}{y:DataW H×List MemPlace}{fuel:Nat}(hc:w.cells? base x 2=some cs)(ht:DataW.trod enc Tryz.prog w base spare held fuel 69 cs=some y):
 ∃(b off:Nat) (n m:Int),x=⟨b,off,none⟩/\w.cell? ⟨b,off,none⟩=some (.int .i64 n)/\w.cell? ⟨b,off+1,none⟩=some (.int .i64 m)/\i64 n/\i64 m:=by
 obtain⟨_,hlen,hat⟩:=World.cells?_some hc
 obtain⟨y0,y1,k,_,_,h0,h1⟩:=trod_struct2 underlying69 ht
 match cs,hlen with
 |[a0,a1],_=>
  obtain⟨n,e0,_,wn⟩:=DataW.trod_int underlying3 h0
  obtain⟨m,e1,_,wm⟩:=DataW.trod_int underlying3 h1
  simp[D8]at e0
  simp[D8]at e1
  subst e0 e1
  obtain⟨b,off,spot⟩:=x
  have g0:=hat 0 (by omega)
  have g1:=hat 1 (by omega)
  have hspot:spot=none:=by simpa[Addr.add]using World.cell?_spot g0
  subst hspot
  exact⟨b,off,n,m,rfl,by simpa[Addr.add]using g0,by simpa[Addr.add]using g1,bounds_i64 wn,bounds_i64 wm⟩
theorem open_ints{v:Value}{y:DataW H×List MemPlace}{fuel:Nat}(hf:DataW.trod enc Tryz.prog w base spare held fuel 22 [v]=some y):
 ∃a cap l,v= .slice a (List.length (α:=Int) l) cap/\A2 w a l/\l.length<=9223372036854775807/\∀n∈l,i64 n:=by
 rcases open_slice underlying22 hf with⟨hcs,_⟩|⟨x,len,cap,m,n,D,Pl,hcs,_,hl,hm,hmm,_,hel⟩
 ·simp at hcs
  subst hcs
  exact⟨none,0,[],rfl,fun i hi=>absurd hi (Nat.not_lt_zero i),by simp,fun n hn=>by cases hn⟩
 ·simp at hcs
  subst hcs
  have hle:len<=m:=by rw[hmm];split<;>omega
  rw[D8]at hel
  obtain⟨f,hfam⟩:=choose_lt (α:=Int) (n:=len) (p:=fun i c=> ∃b off,x=⟨b,off,none⟩/\w.cell? ⟨b,off+i,none⟩=some (.int .i64 c)/\i64 c) (fun i hi=>by
   obtain⟨cs',h1,h2⟩:=hel i (by omega)
   obtain⟨b,off,c,e,g0,hw⟩:=LE h1 h2
   obtain⟨cs0,z1,z2⟩:=hel 0 (by omega)
   obtain⟨b0,off0,c0,e0,_⟩:=LE z1 z2
   have ex:x=⟨b0,off0,none⟩:=by simpa[Addr.add]using e0
   subst ex
   have ea:(⟨b0,off0,none⟩:Addr).add (i * 1)=⟨b0,off0+i,none⟩:=by unfold Addr.add;split<;>simp_all
   rw[ea]at e
   cases e
   exact⟨c,b,off0,rfl,g0,hw⟩)
  refine⟨some x,cap,(List.range len).map f,by simp,?_,by unfold maxLen at hm;simp;omega,?_⟩
  ·intro i hi
   have hi':i<len:=by simpa using hi
   obtain⟨b,off,rfl,g0,_⟩:=hfam i hi'
   have e:((List.range len).map f).getD i 0=f i:=by simp[gDe,hi']
   rw[e]
   exact⟨b,off,rfl,g0⟩
  ·intro c hc
   obtain⟨i,hi,rfl⟩:=List.mem_map.1 hc
   obtain⟨_,_,_,_,hw⟩:=hfam i (by simpa using hi)
   exact hw
theorem Ua{v:Value}{y:DataW H×List MemPlace}{fuel:Nat}(hf:DataW.trod enc Tryz.prog w base spare held fuel 23 [v]=some y):
 ∃a cap l,v= .slice a (List.length (α:=Int×Int) l) cap/\DT w a l/\l.length<=9223372036854775807/\∀n∈l,i64 n.1/\i64 n.2:=by
 rcases open_slice underlying23 hf with⟨hcs,_⟩|⟨x,len,cap,m,n,D,Pl,hcs,_,hl,hm,hmm,_,hel⟩
 ·simp at hcs
  subst hcs
  exact⟨none,0,[],rfl,fun i hi=>absurd hi (Nat.not_lt_zero i),by simp,fun n hn=>by cases hn⟩
 ·simp at hcs
  subst hcs
  have hle:len<=m:=by rw[hmm];split<;>omega
  rw[YT]at hel
  obtain⟨f,hfam⟩:=choose_lt (α:=Int×Int) (n:=len) (p:=fun i c=> ∃b off,x=⟨b,off,none⟩/\w.cell? ⟨b,off+i * 2,none⟩=some (.int .i64 c.1)/\w.cell? ⟨b,off+i * 2+1,none⟩=some (.int .i64 c.2)/\i64 c.1/\i64 c.2) (fun i hi=>by
   obtain⟨cs',h1,h2⟩:=hel i (by omega)
   obtain⟨b,off,c,d,e,g0,g1,hw⟩:=LF h1 h2
   obtain⟨cs0,z1,z2⟩:=hel 0 (by omega)
   obtain⟨b0,off0,c0,d0,e0,_⟩:=LF z1 z2
   have ex:x=⟨b0,off0,none⟩:=by simpa[Addr.add]using e0
   subst ex
   have ea:(⟨b0,off0,none⟩:Addr).add (i * 2)=⟨b0,off0+i * 2,none⟩:=by unfold Addr.add;split<;>simp_all
   rw[ea]at e
   cases e
   exact⟨(c,d),b,off0,rfl,g0,g1,hw⟩)
  refine⟨some x,cap,(List.range len).map f,by simp,?_,by unfold maxLen at hm;simp;omega,?_⟩
  ·intro i hi
   have hi':i<len:=by simpa using hi
   obtain⟨b,off,rfl,g0,g1,_⟩:=hfam i hi'
   have e:((List.range len).map f).getD i (0,0)=f i:=by simp[gDe,hi']
   rw[e]
   exact⟨b,off,rfl,g0,g1⟩
  ·intro c hc
   obtain⟨i,hi,rfl⟩:=List.mem_map.1 hc
   obtain⟨_,_,_,_,_,hw⟩:=hfam i (by simpa using hi)
   exact hw
theorem XO{cs:Array Value}(h:cs.size=13):∃a b c d e f g h i j k l m,cs=#[a,b,c,d,e,f,g,h,i,j,k,l,m]:=by
 obtain⟨l⟩:=cs
 match l,h with
 |[a,b,c,d,e,f,g,h,i,j,k,l,m],_=>exact⟨a,b,c,d,e,f,g,h,i,j,k,l,m,rfl⟩
theorem Ub{r:Reach}{b0:Nat}{v:Value}{d:DataW H}{pl:List MemPlace}(hv:Value.okWide Tryz.prog w r b0 25 v)(h:DataW.Trod enc Tryz.prog w base spare held 25 v d pl):
 ∃p x,v=Ap p x/\planAt w p x/\wfPlan p:=by
 obtain⟨cs,rfl,hsz⟩:=okWide_struct underlying25 hv
 obtain⟨c0,c1,c2,c3,c4,c5,c6,c7,c8,c9,c10,c11,c12,rfl⟩:=XO (hsz.trans YU)
 obtain⟨fuel,hf⟩:=h
 obtain⟨xs,n,_,_,_,hlen,hat⟩:=DataW.trod_struct underlying25 hf
 match xs,hlen with
 |[y0,y1,y2,y3,y4,y5,y6,y7,y8,y9,y10,y11,y12],_=>
  have h0:=hat 0 _ rfl
  have h1:=hat 1 _ rfl
  have h2:=hat 2 _ rfl
  have h3:=hat 3 _ rfl
  have h4:=hat 4 _ rfl
  have h5:=hat 5 _ rfl
  have h6:=hat 6 _ rfl
  have h7:=hat 7 _ rfl
  have h8:=hat 8 _ rfl
  have h9:=hat 9 _ rfl
  have h10:=hat 10 _ rfl
  have h11:=hat 11 _ rfl
  have h12:=hat 12 _ rfl
  simp[Value.cells,D8]at h0 h1 h2 h3 h4 h5
  simp[Value.cells,XM]at h6 h7 h8 h9 h11
  simp[Value.cells,YV]at h10
  simp[Value.cells,XN]at h12
  obtain⟨n0,e0,_,w0⟩:=DataW.trod_int underlying3 h0
  obtain⟨n1,e1,_,w1⟩:=DataW.trod_int underlying3 h1
  obtain⟨n2,e2,_,w2⟩:=DataW.trod_int underlying3 h2
  obtain⟨n3,e3,_,w3⟩:=DataW.trod_int underlying3 h3
  obtain⟨n4,e4,_,w4⟩:=DataW.trod_int underlying3 h4
  obtain⟨n5,e5,_,w5⟩:=DataW.trod_int underlying3 h5
  obtain⟨a6,k6,l6,e6,i6,m6,j6⟩:=open_ints h6
  obtain⟨a7,k7,l7,e7,i7,m7,j7⟩:=open_ints h7
  obtain⟨a8,k8,l8,e8,i8,m8,j8⟩:=open_ints h8
  obtain⟨a9,k9,l9,e9,i9,m9,j9⟩:=open_ints h9
  obtain⟨n10,e10,_⟩:=DataW.trod_bool underlying4 h10
  obtain⟨a11,k11,l11,e11,i11,m11,j11⟩:=open_ints h11
  obtain⟨a12,k12,l12,e12,i12,m12,j12⟩:=Ua h12
  simp only[List.cons.injEq,and_true]at e0 e1 e2 e3 e4 e5 e10
  subst e0 e1 e2 e3 e4 e5 e6 e7 e8 e9 e10 e11 e12
  exact⟨⟨n0,n1,n2,n3,n4,n5,l6,l7,l8,l9,n10,l11,l12⟩,⟨a6,k6,a7,k7,a8,k8,a9,k9,a11,k11,a12,k12⟩,rfl,⟨i6,i7,i8,i9,i11,i12⟩,⟨bounds_i64 w2,bounds_i64 w3,m6,m7,m8,m9,m11,m12⟩⟩
end
end pl
namespace bf
open Go.ChangeShapes Go.WideShapes Go.ChangeAt Go.RowKit
variable {W W' : World} {B B' : Nat}
theorem P6{m m':Nat}{P:Program}{f:FuncId}{args:Array Value}{R:Ending->World->Prop}(h:CallsIn Fence.wide m P f args W R):CallsIn Fence.wide m' P f args W R:=callsIn_wide.2 (callsIn_wide.1 h)
def Wo(P:Program)(gf:Nat)(lb:Array Value)(xs:List (Array Value))(Kp:World->World->Prop)(w:World):Prop:=
 ∀(l:Nat) (J:Nat->World->Prop) (Jx:Unit->World->Prop) (W:World),Bwz w W->OwnFrom W.heap.size J->OwnFrom W.heap.size Jx->
  (∀k x W1,xs[k]? =some x->J k W1->YieldAt Fence.wide 0 P l x W1 fun e W'=>KeepsFrom W.heap.size W1 W'/\((e= .returned (.bool true)/\J (k+1) W'/\Kp W1 W')\/(e= .returned (.bool false)/\Jx () W')))->
  J 0 W->CallsIn Fence.wide 0 P gf (#[.func (.yield l) #[] #[]]++lb) W fun e W'=>(∃v,e= .returned v)/\(J xs.length W'\/Jx () W')
def leftAs(B:Nat)(Kp:World->World->Prop)(I:World->Prop)(Ix:Code->World->Prop)(W:World):Exit->Act->World->Prop
 | .normal,_,W'=>KeepsFrom B W W'/\Kp W W'/\I W'
 | .ret,_,W'=>KeepsFrom B W W'/\Ix .ret W'
 | .exit id,_,W'=>KeepsFrom B W W'/\Ix (.exit id) W'
 | .goto t,_,W'=>KeepsFrom B W W'/\Ix (.goto t) W'
 | .panic _,_,_=>False
 | .outgrown,_,_=>False
theorem F5(h:KeepsFrom B W W')(hB:B<=B'):KeepsFrom B' W W':=⟨h.size,fun k o hk=>h.same k o (Nat.le_trans hB hk)⟩
theorem Fn{l:Nat}(W:World)(o:Obj)(hl:l<B):KeepsFrom B W (W.putObj l o):=⟨by simp,fun k o' hk h _=>(World.putObj_heap_other (by omega)).trans h⟩
theorem Wp{β:Type}{I:β->World->Prop}(h:OwnFrom B I)(hB:B<=B'):OwnFrom B' I:=fun s W W' row hs hg hr=>h s W W' row hs hg (fun r e=>⟨Nat.le_trans hB (hr r e).1,(hr r e).2⟩)
theorem stays{k:Nat}{o:Obj}{row:Option Nat}(hg:W.grownBy W' row)(hr:∀r,row=some r->B<=r)(hk:k<B)(h:W.heap[k]? =some o):W'.heap[k]? =some o:=
 (hg.block k (Array.getElem?_eq_some_iff.1 h).1 (fun e=>by have:=hr k e.symm;omega)).trans h
section
variable {P : Program} {g : Operand} {ps : Array Tmp} {assign body : Code} {Q : Exit -> Act -> World -> Prop} {a : Act} {w : World} {gf : Nat} {lb : Array Value} {xs : List (Array Value)} {Kp : World -> World -> Prop} {w0 : World}
theorem C8(hg:a.eval g= .func (.func gf) #[] lb)(eg:∀args w,(callFunc gf args).run P w= .ok (.enter gf args) w)(hit:Wo P gf lb xs Kp w0)(hb0:Bwz w0 w)(hps:∀x∈xs,x.size=ps.size)
 (hKt:∀{A B C:World},Kp A B->Kp B C->Kp A C) (hKb:∀(W:World) (l:Nat) (o o':Obj),w.heap.size<=l->W.heap[l]? =some o->o.isCells=false->Kp W (W.putObj l o'))
 (I:Nat->World->Prop) (Ix:Code->World->Prop) (hI:OwnFrom w.heap.size I) (hIx:OwnFrom w.heap.size Ix) (h0:I 0 w) (Ax:Nat->Act->World->Prop) (hAx:∀k a',OwnFrom w.heap.size (fun(_:Unit) W=>Ax k a' W))
 (hassign:∀(l k:Nat) (x:Array Value) (W:World) (K:Act->World->Prop),xs[k]? =some x->I k W->(∀a' W',KeepsFrom w.heap.size W W'->Kp W W'->I k W'->Ax k a' W'->K a' W')->
  assign.wpIn (Fence.wide.inRound l) 0 P (Exit.then K (fun _ _ _=>False)) {tmps:=(ps.zip x).foldl (fun t (p,v)=>t.setIfInBounds p v) a.tmps,defers:=[]} W)
 (hbody:∀(l k:Nat) (x:Array Value) (a':Act) (W:World),xs[k]? =some x->w.heap.size<=l->(∃r,W.heap[l]? =some (.loop r))->I k W->Ax k a' W->body.wpIn (Fence.wide.inRound l) 0 P (leftAs w.heap.size Kp (I (k+1)) Ix W) a' W)
 (hdone:∀(D:Nat) (W:World),w.heap.size<=D->I xs.length W->W.heap[D]? =some (.deferred (some []))->Q .normal {a with defers:={target:=.collected D,args:=#[]}::a.defers} W)
 (hstop:∀(D:Nat) (c:Code) (W:World),w.heap.size<=D->Ix c W->W.heap[D]? =some (.deferred (some []))->c.wpIn Fence.wide 0 P Q {a with defers:={target:=.collected D,args:=#[]}::a.defers} W):
 (Code.rangeFunc g ps assign body).wpIn Fence.wide 0 P Q a w:=by
 refine wpIn_rangeFunc fun fn hfn=>?_
 obtain⟨N,hN⟩:∃N,w.heap.size=N:=⟨_,rfl⟩
 -- the loop's record, in each of its states
 obtain⟨rc,hrc⟩:∃rc:LoopState->Option Code->Loop,rc=fun s p=>{state:=s,pending:=p,fn:=fn,tmps:=a.tmps,params:=ps,assign:=assign,body:=body,defers:=w.heap.size}:=⟨_,rfl⟩
 have rec_ps:∀s p,(rc s p).params=ps:=fun s p=>by rw[hrc]
 obtain⟨V,hV⟩:∃V,(w.alloc (.deferred (some []))).alloc (.loop (rc .ready none))=V:=⟨_,rfl⟩
 have hVs:V.heap.size=N+2:=by rw[<-hV];simp[hN]
 have hVr:V.heap[N+1]? =some (.loop (rc .ready none)):=by
  have h:=World.alloc_heap_new (w.alloc (.deferred (some []))) (.loop (rc .ready none))
  rw[World.size_alloc,hN,hV]at h;exact h
 have hVd:V.heap[N]? =some (.deferred (some [])):=by
  rw[<-hV,<-hN];exact(Below.heap_alloc _ _ _ (by simp)).trans (World.alloc_heap_new w _)
 have hVw:Bwz w V:=by rw[<-hV];exact((Below.refl _ _).alloc (Nat.le_refl _) _).alloc (by simp) _
 have hVI:I 0 V:=by rw[<-hV];exact hI.alloc _ (hI.alloc _ h0)
 rw[hN]at hI hIx hAx hKb hbody hassign hdone hstop
 refine⟨N+1,[{target:=.collected N,args:=#[]}],V,{target:=.fn (.func gf) lb,args:=#[.func (.yield (N+1)) #[] #[]]},V,gf,#[.func (.yield (N+1)) #[] #[]]++lb,V,?_,?_,fun _ _=>trivial,?_,fun h=>by simp[Fence.wide]at h,?_⟩
 ·have h:=run_enterLoop_outer (P:=P) (w:=w) fn a.tmps ps assign body
  rw[<-hV,<-hN,hrc];exact h
 ·simp only[resolve,hg]
  simp[go_sem]
 ·simp[invoke,go_sem,eg]
 ·refine P6 ((hit (N+1)
   (fun k W=>I k W/\W.heap[N+1]? =some (.loop (rc .ready none))/\W.heap[N]? =some (.deferred (some [])))
   (fun _ W=> ∃c,Ix c W/\W.heap[N+1]? =some (.loop (rc .done (some c)))/\W.heap[N]? =some (.deferred (some [])))
   V (hb0.trans (hVw.mono hb0.size)) ?_ ?_ ?_ ⟨hVI,hVr,hVd⟩).mono ?_)
  ·rintro k W W' row ⟨h1,h2,h3⟩ hgr hr
   have hr':∀r,row=some r->N+2<=r:=fun r e=>by have:=(hr r e).1;omega
   exact⟨hI k W W' row h1 hgr (fun r e=>⟨by have:=hr' r e;omega,(hr r e).2⟩),stays hgr hr' (by omega) h2,stays hgr hr' (by omega) h3⟩
  ·rintro _ W W' row ⟨c,h1,h2,h3⟩ hgr hr
   have hr':∀r,row=some r->N+2<=r:=fun r e=>by have:=(hr r e).1;omega
   exact⟨c,hIx c W W' row h1 hgr (fun r e=>⟨by have:=hr' r e;omega,(hr r e).2⟩),stays hgr hr' (by omega) h2,stays hgr hr' (by omega) h3⟩
  ·-- a round
   rintro k x W hx ⟨h1,h2,h3⟩
   have hlt:N+1<W.heap.size:=(Array.getElem?_eq_some_iff.1 h2).1
   have hy:=run_yield (P:=P) (args:=x) h2 (by rw[rec_ps];exact hps x (List.mem_of_getElem? hx))
   refine⟨_,_,_,_,hy,roundIn_of_wpIn trivial ?_⟩
   have e1:(rc .ready none).tmps=a.tmps:=by rw[hrc]
   have e2:(rc .ready none).assign=assign:=by rw[hrc]
   have e3:(rc .ready none).body=body:=by rw[hrc]
   rw[rec_ps,e1,e2,e3]
   refine hassign (N+1) k x W _ hx h1 (fun a' W2 kf hk2 hi2 hax=>?_)
   have h2':=kf.same _ _ (by omega) h2 rfl
   have h3':=kf.same _ _ (by omega) h3 rfl
   have hst:(rc .ready none).state= .ready:=by rw[hrc]
   refine⟨_,run_beginRound h2' hst,?_⟩
   have hb:({rc .ready none with state:=.busy}:Loop)=rc .busy none:=by rw[hrc]
   rw[hb]
   obtain⟨X,hX⟩:∃X,W2.putObj (N+1) (.loop (rc .busy none))=X:=⟨_,rfl⟩
   have hlt2:N+1<W2.heap.size:=(Array.getElem?_eq_some_iff.1 h2').1
   have x1:X.heap[N+1]? =some (.loop (rc .busy none)):=by rw[<-hX];exact World.putObj_heap_same hlt2
   have x2:X.heap[N]? =some (.deferred (some [])):=by rw[<-hX];exact(World.putObj_heap_other (by omega)).trans h3'
   have x3:I k X:=by rw[<-hX];exact hI.putObj _ hi2 (by omega) h2' rfl
   have x4:Ax k a' X:=by rw[<-hX];exact(hAx k a').putObj (s:=()) _ hax (by omega) h2' rfl
   have x6:KeepsFrom (N+2) W X:=(F5 kf (by omega)).trans (by rw[<-hX];exact Fn _ _ (by omega))
   have x5:Kp W X:=hKt hk2 (by rw[<-hX];exact hKb _ _ _ _ (by omega) h2' rfl)
   rw[hX]
   clear hX
   -- behind the round
   have fin:∀(j:Option Code) (Y:World),KeepsFrom N X Y->
    (Instr.endRound (N+1) j).run P Y= .ok (.bool j.isNone) (Y.putObj (N+1) (.loop (rc (if j.isNone then .ready else .done) j)))/\Y.heap[N+1]? =some (.loop (rc .busy none))/\
    (Y.putObj (N+1) (.loop (rc (if j.isNone then .ready else .done) j))).heap[N+1]? =some (.loop (rc (if j.isNone then .ready else .done) j))/\
    (Y.putObj (N+1) (.loop (rc (if j.isNone then .ready else .done) j))).heap[N]? =some (.deferred (some [])):=fun j Y hk=>by
    have y1:=hk.same _ _ (by omega) x1 rfl
    have y2:=hk.same _ _ (by omega) x2 rfl
    have hend:=run_endRound (P:=P) j y1
    have e:({rc .busy none with state:=if j.isNone then .ready else .done,pending:=j}:Loop)=rc (if j.isNone then .ready else .done) j:=by rw[hrc]
    rw[e]at hend
    exact⟨hend,y1,World.putObj_heap_same (Array.getElem?_eq_some_iff.1 y1).1,(World.putObj_heap_other (by omega)).trans y2⟩
   refine wpIn_mono (hbody (N+1) k x a' X hx (by omega) ⟨_,x1⟩ x3 x4) ?_
   rintro e a3 Y hp
   cases e with
   |normal=>
    obtain⟨p1,p2,p3⟩:=hp
    obtain⟨q1,q2,q3,q4⟩:=fin none Y p1
    exact⟨_,_,q1,by rw[hVs];exact(x6.trans (F5 p1 (by omega))).trans (Fn _ _ (by omega)),.inl ⟨rfl,⟨hI.putObj _ p3 (by omega) q2 rfl,q3,q4⟩,hKt (hKt x5 p2) (hKb _ _ _ _ (by omega) q2 rfl)⟩⟩
   |ret=>
    obtain⟨p1,p3⟩:=hp
    obtain⟨q1,q2,q3,q4⟩:=fin (some .ret) Y p1
    exact⟨_,_,q1,by rw[hVs];exact(x6.trans (F5 p1 (by omega))).trans (Fn _ _ (by omega)),.inr ⟨rfl,.ret,hIx.putObj _ p3 (by omega) q2 rfl,q3,q4⟩⟩
   |exit id=>
    obtain⟨p1,p3⟩:=hp
    obtain⟨q1,q2,q3,q4⟩:=fin (some (.exit id)) Y p1
    exact⟨_,_,q1,by rw[hVs];exact(x6.trans (F5 p1 (by omega))).trans (Fn _ _ (by omega)),.inr ⟨rfl,.exit id,hIx.putObj _ p3 (by omega) q2 rfl,q3,q4⟩⟩
   |goto t=>
    obtain⟨p1,p3⟩:=hp
    obtain⟨q1,q2,q3,q4⟩:=fin (some (.goto t)) Y p1
    exact⟨_,_,q1,by rw[hVs];exact(x6.trans (F5 p1 (by omega))).trans (Fn _ _ (by omega)),.inr ⟨rfl,.goto t,hIx.putObj _ p3 (by omega) q2 rfl,q3,q4⟩⟩
   |panic ch=>exact hp.elim
   |outgrown=>exact hp.elim
  ·-- behind the iterator
   rintro e W ⟨⟨v,rfl⟩,(⟨h1,h2,h3⟩|⟨c,h1,h2,h3⟩)⟩
   ·refine⟨none,_,?_,hdone N _ (by omega) (hI.putObj (.loop (rc .exhausted none)) h1 (by omega) h2 rfl) ((World.putObj_heap_other (by omega)).trans h3)⟩
    have h:=run_endLoop (P:=P) h2 (by rw[hrc];simp)
    rw[hrc]at h⊢;exact h
   ·refine⟨some c,_,?_,hstop N c _ (by omega) (hIx.putObj (.loop (rc .exhausted (some c))) h1 (by omega) h2 rfl) ((World.putObj_heap_other (by omega)).trans h3)⟩
    have h:=run_endLoop (P:=P) h2 (by rw[hrc];simp)
    rw[hrc]at h⊢;exact h
end
end bf
namespace bf
open Go.ChangeShapes Go.WideShapes Go.ChangeAt Go.RowKit Go.Shelf
attribute [local go_sem] Oper.semAt_some
variable {Pr : Nat -> Obj -> Prop} {W W' : World} {b o : Nat} {v : Value}
def Ao(Pr:Nat->Obj->Prop)(W W':World):Prop:=∀b o,W.heap[b]? =some o->o.isCells=true->Pr b o->W'.heap[b]? =some o
theorem Ao.refl(Pr:Nat->Obj->Prop)(W:World):Ao Pr W W:=fun _ _ h _ _=>h
theorem Ao.trans{A B C:World}(h:Ao Pr A B)(k:Ao Pr B C):Ao Pr A C:=fun b o h1 h2 h3=>k b o (h b o h1 h2 h3) h2 h3
def names(Pr:Nat->Obj->Prop)(W:World)(b:Nat):Prop:=∀o,W.heap[b]? =some o->Pr b o
theorem Wq(hc:W.cell? ⟨b,o,none⟩=some v):∃x,W.heap[b]? =some x/\x.isCells=true:=by
 unfold World.cell? at hc
 cases ho:W.heap[b]? with
 |none=>simp[ho]at hc
 |some x=>exact⟨x,rfl,by cases x<;>simp_all [Obj.isCells]⟩
theorem Ao.block(h:Ao Pr W W')(hb:names Pr W b)(hc:W.cell? ⟨b,o,none⟩=some v):W'.heap[b]? =W.heap[b]? :=by
 obtain⟨x,h1,h2⟩:=Wq hc
 rw[h b x h1 h2 (hb x h1),h1]
theorem Ao.cell(h:Ao Pr W W')(hb:names Pr W b)(hc:W.cell? ⟨b,o,none⟩=some v):W'.cell? ⟨b,o,none⟩=some v:=
 (World.cell?_of_block (w:=W) (a:=⟨b,o,none⟩) (h.block hb hc)).trans hc
theorem Ao.grown{V:World}{row:Option Nat}(h:Ao Pr V W)(hg:W.grownBy W' row)(hr:∀r,row=some r->∃o:Obj,W.heap[r]? =some o/\o.isCells=false):Ao Pr V W':=fun b o h1 h2 h3=>by
 have h4:=h b o h1 h2 h3
 refine(hg.block b (Array.getElem?_eq_some_iff.1 h4).1 (fun e=>?_)).trans h4
 obtain⟨o',h5,h6⟩:=hr b e.symm
 rw[h4]at h5;cases h5;rw[h2]at h6;cases h6
theorem Ao.put(W:World)(l:Nat)(o o':Obj)(h:W.heap[l]? =some o)(ho:o.isCells=false):Ao Pr W (W.putObj l o'):=fun b x h1 h2 _=>by
 by_cases e:b=l
 ·subst e;rw[h]at h1;cases h1;rw[ho]at h2;cases h2
 ·exact(World.putObj_heap_other e).trans h1
theorem Ao.alloc(W:World)(o:Obj):Ao Pr W (W.alloc o):=fun b x h1 _ _=>(Below.heap_alloc W o b (Array.getElem?_eq_some_iff.1 h1).1).trans h1
theorem ET{n:Nat}(h:Below n W W')(hn:b<n)(hb:names Pr W b):names Pr W' b:=fun x hx=>hb x (by rw[<-h.block b hn];exact hx)
abbrev Hdr:=Option Addr×Nat×Nat
def hdV(h:Hdr):Value:=.slice h.1 h.2.1 h.2.2
def EU(w:World)(a:Option Addr)(l:List Hdr):Prop:=
 ∀i,i<l.length->∃b off,a=some ⟨b,off,none⟩/\w.cell? ⟨b,off+i,none⟩=some (hdV (l.getD i (none,0,0)))
theorem LG(BX:Nat)(lim:Int)(m:Hdr)(ra:Option Addr)(rc:Nat)(rs:List Hdr)(Pr:Nat->Obj->Prop)(w:World)(hl:rs.length<=9223372036854775807)
 (h1:w.cell? ⟨BX,1,none⟩=some (hdV m)) (h2:w.cell? ⟨BX,2,none⟩=some (.slice ra rs.length rc)) (hr:EU w ra rs) (hS:names Pr w BX) (hS2:∀x,0<rs.length->ra=some x->names Pr w x.block):
 Wo Tryz.prog 180 #[.pointer (some ⟨BX,0,none⟩)] ((m::rs).map fun h=>#[hdV h]) (Ao Pr) w:=by
 intro l J Jx W hb hJ hJx hY h0
 obtain⟨m1,m2,m3⟩:=m
 have k1:=cell_later hb h1
 have k2:=cell_later hb h2
 have hr':EU W ra rs:=fun i hi=>by obtain⟨b,o,e,x⟩:=hr i hi;exact⟨b,o,e,cell_later hb x⟩
 unfold hdV at k1
 dsimp only at k1
 have HY:Hid (∀k x W1,((((m1,m2,m3):Hdr)::rs).map fun h=>#[hdV h])[k]? =some x->J k W1->YieldAt Fence.wide 0 Tryz.prog l x W1 fun e W'=>KeepsFrom W.heap.size W1 W'/\((e= .returned (.bool true)/\J (k+1) W'/\Ao Pr W1 W')\/(e= .returned (.bool false)/\Jx () W'))):=hY
 have HR:Hid (EU W ra rs):=hr'
 have HS:Hid (names Pr W BX/\∀x,0<rs.length->ra=some x->names Pr W x.block):=⟨ET hb (World.block_lt_of_cell? _ _ h1) hS,fun x h0 hx=>by
  obtain⟨b,o,e,y⟩:=hr 0 h0
  rw[hx]at e;cases e
  exact ET hb (World.block_lt_of_cell? _ _ y) (hS2 _ h0 hx)⟩
 have HL:Hid ((((((m1,m2,m3):Hdr)::rs).map fun h=>#[hdV h])).length=rs.length+1):=by show _=_;simp
 have hyz:=hY 0 #[.slice m1 m2 m3] W (by simp[hdV]) h0
 clear hY hr hr' hS hS2 h1 h2 hb
 obtain⟨n,hn⟩:∃n,rs.length=n:=⟨_,rfl⟩
 have HN:Hid (rs.length=n):=hn
 rw[hn]at k2 hl HL
 clear hn
 rw[HL.out]
 refine callsIn_of_wp func180 rfl trivial ?_ rfl
 simp only[ntmps180,List.size_toArray,List.length_cons,List.length_nil,Nat.reduceAdd,Nat.reduceSub,Array.replicate_succ,Array.replicate_zero,List.push_toArray,List.append_toArray,List.nil_append,List.cons_append]
 obtain⟨fn,tmps,assign,body,hy,hR⟩:=hyz
 gi_wp2
 refine⟨rfl,hR.mono ?_⟩
 rintro e W1 ⟨_,(⟨rfl,hJ1,hk1⟩|⟨rfl,hJx1⟩)⟩
 ·have c2:=hk1.cell HS.out.1 k2
  gi_wp2
  gi_loopw [13] (fun i wr=> ∃k:Nat,k<=n/\i= .int .i64 k/\J (k+1) wr/\Ao Pr W wr) (fun i _=>n - (intOf i).toNat)
  case atStart=>exact⟨0,Nat.zero_le _,rfl,hJ1,hk1⟩
  case round=>
   obtain⟨k,hk,rfl,hJk,hkk⟩:=hrel
   by_cases hlt:k<n
   ·obtain⟨b,o,e,x1⟩:=HR.out k (by rw[HN.out];exact hlt)
    subst e
    have q1:=hkk.cell (HS.out.2 _ (by rw[HN.out];omega) rfl) x1
    obtain⟨⟨z1,z2,z3⟩,hz⟩:∃z,rs.getD k (none,0,0)=z:=⟨_,rfl⟩
    have hyk:=HY.out (k+1) #[.slice z1 z2 z3] wr (by
     rw[List.map_cons,List.getElem?_cons_succ,List.getElem?_map,List.getElem?_eq_getElem (by rw[HN.out];exact hlt)]
     rw[List.getD_eq_getElem?_getD,List.getElem?_eq_getElem (by rw[HN.out];exact hlt)]at hz
     simp at hz
     simp[hz,hdV]) hJk
    rw[hz]at q1
    unfold hdV at q1
    dsimp only at q1
    clear hz x1
    obtain⟨fn2,tmps2,assign2,body2,hy2,hR2⟩:=hyk
    have i1:(0:Int)<=(k:Int):=by omega
    have i2:(k:Int)<(n:Int):=by omega
    gi_wp2
    refine⟨rfl,hR2.mono ?_⟩
    rintro e W2 ⟨_,(⟨rfl,hJ2,hk2⟩|⟨rfl,hJx2⟩)⟩
    ·gi_wp2
     go_roundw
     case rel=>exact⟨k+1,by omega,by go_num,hJ2,hkk.trans hk2⟩
     case measure=>simp[intOf];omega
    ·gi_wp2
     refine bodyPost_ret (results_none rfl _ _ _) rfl ?_
     exact⟨⟨_,rfl⟩,.inr hJx2⟩
   ·have hkn:k=n:=by omega
    subst hkn
    gi_wp2
    go_end0
    exact⟨⟨_,rfl⟩,.inl hJk⟩
 ·gi_wp2
  refine bodyPost_ret (results_none rfl _ _ _) rfl ?_
  exact⟨⟨_,rfl⟩,.inr hJx1⟩
end bf
end Go.Proofs.YtdohnkkbkfhphaaGreat
