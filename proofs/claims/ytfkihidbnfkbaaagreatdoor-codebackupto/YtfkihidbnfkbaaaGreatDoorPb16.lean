import Derived.Test.YtfkihidbnfkbaaaGreatDoorPb9
import Derived.Test.YtfkihidbnfkbaaaGreatDoorPb15
set_option linter.all false
set_option maxHeartbeats 8000000
set_option maxRecDepth 100000
open Go.ChangeShapes Go.WideShapes Go.ChangeAt Go.RowKit Go.Maps Go.WideMaps Go.Shelf List
open Inhabited renaming default->ϰ
namespace Go.Proofs.YtfkihidbnfkbaaaGreatDoor
open Go.Proofs.Tryz
namespace jn
open vl
variable {U U' W W' w w' : ϙ} {B b n o : Nat} {p : pl.Pln} {x : pl.PA}
structure Jn where
 L:bf.Buf
 R:bf.Buf
 lm:Int
 rm:Int
 seq:Int
structure JX where
 l:bf.BX
 r:bf.BX
def joinV(s:Jn)(x:JX):Value:=.agg #[vI s.L.lim,bf.hdV x.l.m.1,vS x.l.ra x.l.rs.length x.l.rc,vI s.R.lim,bf.hdV x.r.m.1,vS x.r.ra x.r.rs.length x.r.rc,vI s.lm,vI s.rm,vI s.seq]
structure joinAt(w:World)(s:Jn)(x:JX):Prop where
 l:bf.bufAt w s.L x.l
 r:bf.bufAt w s.R x.r
theorem joinAt.below{s:Jn}{x:JX}(h:joinAt w s x)(a:Ϝ w w'):joinAt w' s x:=⟨bf.An h.l a,bf.An h.r a⟩
structure wfB(b:bf.Buf):Prop where
 ents:∀y∈bf.Ac b,bf.wfE y/\bf.wfP (bf.Bd y)
 size:(bf.Ac b).length<=4611686018427387904
structure wfJ(s:Jn):Prop where
 l:wfB s.L
 r:wfB s.R
 seq:pl.i64 s.seq
def Ak(s:Jn)(side:Int):bf.Buf:=if side=2 then s.R else s.L
def B7(x:JX)(side:Int):bf.BX:=if side=2 then x.r else x.l
def B8(s:Jn)(side:Int):Int:=if side=2 then s.rm else s.lm
theorem wfJ.of{s:Jn}(h:wfJ s)(side:Int):wfB (Ak s side):=by
 unfold Ak;split
 ·exact h.r
 ·exact h.l
theorem joinAt.of{s:Jn}{x:JX}(h:joinAt w s x)(side:Int):bf.bufAt w (Ak s side) (B7 x side):=by
 unfold Ak B7;split
 ·exact h.r
 ·exact h.l
structure Ev where
 kind:Int
 side:Int
 time:Int
 row:List Cel
def evV(v:Ev)(ra:Option Addr)(rc:Nat):Value:=.agg #[vI v.kind,vI v.side,vI v.time,vS ra v.row.length rc]
structure evAt(w:World)(v:Ev)(ra:Option Addr):Prop where
 row:vl.rowAt w ra v.row
 wf:B9 v.row
 len:v.row.length<=χ
theorem evAt.below{v:Ev}{a:Ϛ}(h:evAt w v a)(c:Ϝ w w'):evAt w' v a:=⟨vl.Ab h.row c,h.wf,h.len⟩
def noMark:Int:= -1099511627777
def Ei(m:Int):Bool:=decide (m=noMark)||tm.Br m
def E7(s:Jn):Bool:=Ei s.lm&&Ei s.rm&&bf.BG s.seq 0 1099511627776
def EO(n:Int)(l:List bf.Ent):Prop:=(∀y∈l,y.seq<n)/\(l.map (·.seq)).Nodup
instance(n:Int)(l:List bf.Ent):Decidable (EO n l):=by unfold EO;infer_instance
def MN(s:Jn):Bool:=decide (EO s.seq (bf.Ac s.L++bf.Ac s.R))
def Hs(p:pl.Pln)(side:Int)(y:bf.Ent):Bool:=decide (pl.Bn p side y.row=0)&&pl.hasB p side y.row&&decide (pl.As p side y.row=y.key)
def L2(p:pl.Pln)(side:Int)(b:bf.Buf):Bool:=(bf.Ac b).all (Hs p side)
def Ht(p:pl.Pln)(s:Jn):Bool:=decide (s.L.lim=p.limit)&&decide (s.R.lim=p.limit)&&MN s&&L2 p 1 s.L&&L2 p 2 s.R
noncomputable def AQ(p:pl.Pln)(s:Jn):Int:=
 if pl.Ag p≠0 then pl.Ag p else if bf.FV s.L≠0 then bf.FV s.L else if bf.FV s.R≠0 then bf.FV s.R else if E7 s=false then 3 else if Ht p s=false then 1 else 0
def A8(p:pl.Pln)(s:Jn)(v:Ev):Int:=
 if¬(v.kind=1\/v.kind=2)\/pl.Bm v.side=false then 4 else if tm.Br v.time=false then 3
 else if v.kind=2 then(if 0<v.row.length then 1 else if v.time<B8 s v.side then 8 else 0)
 else if pl.Bn p v.side v.row≠0 then pl.Bn p v.side v.row else if v.time<=B8 s v.side then 7 else if s.seq=1099511627776\/(bf.Ac (Ak s v.side)).length=4096 then 2 else 0
def Bh(U:World)(b:Nat)(p:pl.Pln)(x:pl.PA):Prop:=ϑ U b (vI p.kind) (vI p.mode) (vI p.low) (vI p.high) (vI p.size) (vI p.limit) (vS x.l p.left.length x.lc) (vS x.r p.right.length x.rc) (vS x.lk p.lkeys.length x.lkc) (vS x.rk p.rkeys.length x.rkc) (.bool p.grouped) (vS x.g p.group.length x.gc) (vS x.a p.aggs.length x.ac)
theorem Cg(w:ϙ)(p:pl.Pln)(x:pl.PA)(t:TypeId):Bh (ξ w (Φ p x) t) w.heap.size p x:=by
 unfold Bh;refine⟨?_,?_,?_,?_,?_,?_,?_,?_,?_,?_,?_,?_,?_⟩<;>go_simp
theorem Ah(h:Bh U b p x)(a:Ϝ U U'):Bh U' b p x:=by
 obtain⟨c,d,i,j,k,m,q,r,t,u,e,f,g⟩:=h;exact⟨cLz a c,cLz a d,cLz a i,cLz a j,cLz a k,cLz a m,cLz a q,cLz a r,cLz a t,cLz a u,cLz a e,cLz a f,cLz a g⟩
theorem PM(h:Bh U b p x):b<U.heap.size:=bLt _ _ h.1
def Cb(U:World)(b:Nat)(s:Jn)(y:JX):Prop:=ϗ U b (vI s.L.lim) (vS y.l.m.1.1 y.l.m.1.2.1 y.l.m.1.2.2) (vS y.l.ra y.l.rs.length y.l.rc) (vI s.R.lim) (vS y.r.m.1.1 y.r.m.1.2.1 y.r.m.1.2.2) (vS y.r.ra y.r.rs.length y.r.rc) (vI s.lm) (vI s.rm) (vI s.seq)
theorem Cs(w:ϙ)(s:Jn)(y:JX)(t:TypeId):Cb (ξ w #[vI s.L.lim,vS y.l.m.1.1 y.l.m.1.2.1 y.l.m.1.2.2,vS y.l.ra y.l.rs.length y.l.rc,vI s.R.lim,vS y.r.m.1.1 y.r.m.1.2.1 y.r.m.1.2.2,vS y.r.ra y.r.rs.length y.r.rc,vI s.lm,vI s.rm,vI s.seq] t) w.heap.size s y:=by
 unfold Cb;refine⟨?_,?_,?_,?_,?_,?_,?_,?_,?_⟩<;>go_simp
theorem Az{s:Jn}{y:JX}(h:Cb U b s y)(a:Ϝ U U'):Cb U' b s y:=by
 obtain⟨c,d,e,f,g,i,j,k,m⟩:=h;exact⟨cLz a c,cLz a d,cLz a e,cLz a f,cLz a g,cLz a i,cLz a j,cLz a k,cLz a m⟩
def noJ(W:World)(B:Nat):Prop:=W.there B 0 9
theorem PN(w:ϙ):noJ (ξ w #[ω,ψ,ψ,ω,ψ,ψ,ω,ω,ω] 38) w.heap.size:=by
 intro j a
 match j,a with
 |0,_=>exact⟨ϡ,ϡ⟩
 |1,_=>exact⟨ϡ,ϡ⟩
 |2,_=>exact⟨ϡ,ϡ⟩
 |3,_=>exact⟨ϡ,ϡ⟩
 |4,_=>exact⟨ϡ,ϡ⟩
 |5,_=>exact⟨ϡ,ϡ⟩
 |6,_=>exact⟨ϡ,ϡ⟩
 |7,_=>exact⟨ϡ,ϡ⟩
 |8,_=>exact⟨ϡ,ϡ⟩
theorem Rs(h:W.there B o n)(a:0<n):B<W.heap.size:=by
 obtain⟨u,c⟩:=Option.isSome_iff_exists.1 (h 0 a).1;exact bLt _ _ c
theorem BQ(h:W.there B o n)(a:Ϝ W W'):W'.there B o n:=λj c=>by
 obtain⟨u,d⟩:=Option.isSome_iff_exists.1 (h j c).1;exact⟨by rw[cLz a d];rfl,(a.frozen (p:=⟨B,o+j,none⟩) (bLt _ _ d)).trans (h j c).2⟩
theorem Dc(h:noJ W B)(a:Ϝ W W'):noJ W' B:=BQ h a
theorem Z6(h:noJ W B):B<W.heap.size:=Rs h Ϟ
theorem below_setCells{k B:Nat}{w:ϙ}(a:k<=B):∀(l:List Value) (o:Nat) (W:ϙ),Below k w W->Below k w (W.setCells B o l)
 |[],_,_,h=>h
 |v::l,o,W,h=>below_setCells a l (o+1) _ (h.setCell a v)
theorem MO:(Tryz.prog.info? 38).map (·.size)=some 9:=Ϡ
theorem GL(h:noJ W B){l:List Value}(a:l.length=9):(W.setCells B 0 l).rangeAt B 0 l:=World.rangeAt_setCells_same W B 0 l (by rw[a];exact h)
def jx0:JX:=⟨⟨none,0,((none,0,0),[]),[]⟩,⟨none,0,((none,0,0),[]),[]⟩⟩
def j0:Jn:=⟨⟨0,[],[]⟩,⟨0,[],[]⟩,0,0,0⟩
theorem AK(s:Jn)(y:JX):joinV s y= .agg #[vI s.L.lim,vS y.l.m.1.1 y.l.m.1.2.1 y.l.m.1.2.2,vS y.l.ra y.l.rs.length y.l.rc,vI s.R.lim,vS y.r.m.1.1 y.r.m.1.2.1 y.r.m.1.2.2,vS y.r.ra y.r.rs.length y.r.rc,vI s.lm,vI s.rm,vI s.seq]:=rfl
end jn
def Θ(v:jn.Ev)(a:Option Addr)(c:Nat):Mmz (#[.int .i64 v.kind,.int .i64 v.side,.int .i64 v.time,.slice a v.row.length c]:Array Value):=⟨⟩
def Ψ(s:jn.Jn)(y:jn.JX):Mmz (#[.int .i64 s.L.lim,.slice y.l.m.1.1 y.l.m.1.2.1 y.l.m.1.2.2,.slice y.l.ra y.l.rs.length y.l.rc,.int .i64 s.R.lim,.slice y.r.m.1.1 y.r.m.1.2.1 y.r.m.1.2.2,.slice y.r.ra y.r.rs.length y.r.rc,.int .i64 s.lm,.int .i64 s.rm,.int .i64 s.seq]:Array Value):=⟨⟩
def Γ(s:jn.Jn)(y:jn.JX):Mmz ([.int .i64 s.L.lim,.slice y.l.m.1.1 y.l.m.1.2.1 y.l.m.1.2.2,.slice y.l.ra y.l.rs.length y.l.rc,.int .i64 s.R.lim,.slice y.r.m.1.1 y.r.m.1.2.1 y.r.m.1.2.2,.slice y.r.ra y.r.rs.length y.r.rc,.int .i64 s.lm,.int .i64 s.rm,.int .i64 s.seq]:List Value):=⟨⟩
namespace jn
open vl
attribute [local go_sem] Oper.semAt_some
variable {U : ϙ} {b : Nat}
def BD(side:Int):Nat:=if side=2 then 7 else 6
def Au(side:Int):Nat:=if side=2 then 3 else 0
theorem MP(b:Nat)(side:Int)(w:ϙ):η 250 #[μ b,vI side] w λe w'=>e= .returned (.pointer (some ⟨b,BD side,none⟩))/\w'=w:=by
 unfold BD;by_cases h:side=2
 ·subst h;go_enter func250,ntmps250;go_wp2;go_ret;exact⟨rfl,rfl⟩
 ·have a:(side==2)=false:=by simpa using h
  rw[if_neg h];go_enter func250,ntmps250;go_wp2;go_ret;exact⟨rfl,rfl⟩
theorem PO(b:Nat)(side:Int)(w:ϙ):η 252 #[μ b,vI side] w λe w'=>e= .returned (.pointer (some ⟨b,Au side,none⟩))/\w'=w:=by
 unfold Au;by_cases h:side=2
 ·subst h;go_enter func252,ntmps252;go_wp2;go_ret;exact⟨rfl,rfl⟩
 ·have a:(side==2)=false:=by simpa using h
  rw[if_neg h];go_enter func252,ntmps252;go_wp2;go_ret;exact⟨rfl,rfl⟩
theorem OA{s:Jn}{y:JX}(h:Cb U b s y)(side:Int):Δ U b (BD side) (vI (B8 s side)):=by
 obtain⟨u0,u1,u2,u3,u4,u5,u6,u7,u8⟩:=h;unfold BD B8;split
 ·exact u7
 ·exact u6
def Is(s:Jn)(v:Ev):Int:=if 0<v.row.length then 1 else if v.time<B8 s v.side then 8 else 0
theorem Ob(s:Jn)(y:JX)(v:Ev)(z:Ϛ)(A:Nat)(w:ϙ):
 η 211 #[joinV s y,evV v z A] w (θ w (vI (Is s v))):=by
 obtain⟨R,r⟩:=nM (Is s v);have c:=hqz r;rw[r];clear r;unfold Is at c;have q:ϛ (∀m,CT 250 #[μ w,vI v.side] m λe w'=>e= .returned (.pointer (some ⟨w,BD v.side,none⟩))/\w'=m):=λm=>MP _ _ m;have j:ϛ (∀(U:ϙ) (b:Nat),Cb U b s y->Δ U b (BD v.side) (vI (B8 s v.side))):=λU b h=>OA h v.side;obtain⟨k,F⟩:=nM (BD v.side);obtain⟨M,E⟩:=nM (B8 s v.side);rw[F]at q j;rw[E]at j c;clear F E;rw[AK];unfold evV;obtain⟨H,f,tm,J⟩:=v;dsimp only at *;obtain⟨n,G⟩:=nM J.length;rw[G]at c⊢;clear G;have a:ϛ (Ϝ w (ξ (ξ w (Ψ s y) 38) #[vI H,vI f,vI tm,vS z n A] 90)):=Ϩ.alloc ϟ _;have i:=j.o _ _ (Az (Cs w s y 38) (bR.alloc nR (.cells #[vI H,vI f,vI tm,vS z n A] 90)));clear j;go_enter func211,ntmps211;by_cases C:0<n
 ·have I:(0:Int)<(n:Int):=ϝ;have g:ϛ ((1:Int)=R):=by show _=_;rw[<-c.o,if_pos C]
  go_wp2;go_ret;exact⟨Aj g.o,a.o⟩
 ·have I:¬(0:Int)<(n:Int):=ϝ;rw[if_neg C]at c;by_cases D:tm<M
  ·have g:ϛ ((8:Int)=R):=by show _=_;rw[<-c.o,if_pos D]
   go_wp2;generalize d:(World.alloc (World.alloc w _) _)=V at i a⊢;have t:Δ V (w+1) 1 (vI f):=by subst d;go_simp
   have u:Δ V (w+1) 2 (vI tm):=by subst d;go_simp
   clear d
   go_region_held3 (λw'=>Δ w' (w+1) 1 (vI f)/\Δ w' (w+1) 2 (vI tm)/\Δ w' w k (vI M)) (first|go_keep|exact⟨t,u,i⟩) (first|(go_at_call 250;refine(q.o _).mono ?_;rintro e K ⟨rfl,rfl⟩))
   all_goals
    go_wp2;go_ret;exact⟨Aj g.o,by first|exact a.o|exact a.o.drew⟩
  ·have g:ϛ ((0:Int)=R):=by show _=_;rw[<-c.o,if_neg D]
   go_wp2;generalize d:(World.alloc (World.alloc w _) _)=V at i a⊢;have t:Δ V (w+1) 1 (vI f):=by subst d;go_simp
   have u:Δ V (w+1) 2 (vI tm):=by subst d;go_simp
   clear d
   go_region_held3 (λw'=>Δ w' (w+1) 1 (vI f)/\Δ w' (w+1) 2 (vI tm)/\Δ w' w k (vI M)) (first|go_keep|exact⟨t,u,i⟩) (first|(go_at_call 250;refine(q.o _).mono ?_;rintro e K ⟨rfl,rfl⟩))
   all_goals
    go_wp2;go_ret;exact⟨Aj g.o,by first|exact a.o|exact a.o.drew⟩
theorem PQ{s:Jn}{y:JX}(h:Cb U b s y)(side:Int):Δ U b (Au side) (vI (Ak s side).lim)/\Δ U b (Au side+1) (vS (B7 y side).m.1.1 (B7 y side).m.1.2.1 (B7 y side).m.1.2.2)/\Δ U b (Au side+2) (vS (B7 y side).ra (B7 y side).rs.length (B7 y side).rc):=by
 obtain⟨u0,u1,u2,u3,u4,u5,u6,u7,u8⟩:=h;unfold Au Ak B7;split
 ·exact⟨u3,u4,u5⟩
 ·exact⟨u0,u1,u2⟩
def Gh(p:pl.Pln)(s:Jn)(v:Ev):Int:=if pl.Bn p v.side v.row≠0 then pl.Bn p v.side v.row else if v.time<=B8 s v.side then 7 else if s.seq=1099511627776\/(bf.Ac (Ak s v.side)).length=4096 then 2 else 0
theorem PR(p:pl.Pln)(x:pl.PA)(s:Jn)(y:JX)(v:Ev)(P:Ϛ)(rc:Nat)(w:ϙ)(hw:pl.wfPlan p)(hp:pl.planAt w p x)(h:joinAt w s y)(ac:wfJ s)(J:evAt w v P):
 η 212 #[pl.Ap p x,joinV s y,evV v P rc] w (θ w (vI (Gh p s v))):=by
 have u:=hIz (λ(a:ϙ) (I:Ϝ w a)=>pl.GI p x v.side P rc v.row a hw (pl.Ae hp I) (vl.Ab J.row I) J.wf J.len);have t:ϛ (∀a,CT 250 #[μ (w+1),vI v.side] a λe w'=>e= .returned (.pointer (some ⟨w+1,BD v.side,none⟩))/\w'=a):=λa=>MP _ _ a;have K:ϛ (∀a,CT 252 #[μ (w+1),vI v.side] a λe w'=>e= .returned (.pointer (some ⟨w+1,Au v.side,none⟩))/\w'=a):=λa=>PO _ _ a;have g:ϛ (∀a,Ϝ w a->CT 232 #[bf.AZ (Ak s v.side) (B7 y v.side)] a (θ a (vI ((bf.Ac (Ak s v.side)).length:Nat)))):=λa I=>bf.MH _ _ a (bf.An (h.of v.side) I) (ac.of v.side).size;have G:ϛ (∀(U:ϙ) (b:Nat),Cb U b s y->Δ U b (BD v.side) (vI (B8 s v.side))):=λU b h=>OA h v.side;have m:ϛ (∀(U:ϙ) (b:Nat),Cb U b s y->Δ U b (Au v.side) (vI (Ak s v.side).lim)/\Δ U b (Au v.side+1) (vS (B7 y v.side).m.1.1 (B7 y v.side).m.1.2.1 (B7 y v.side).m.1.2.2)/\Δ U b (Au v.side+2) (vS (B7 y v.side).ra (B7 y v.side).rs.length (B7 y v.side).rc)):=λU b h=>PQ h v.side;obtain⟨R,L⟩:=nM (Gh p s v);have d:=hqz L;rw[L];clear L hw hp h ac J;unfold Gh at d;obtain⟨k,hk⟩:=nM (BD v.side);obtain⟨M,Y⟩:=nM (B8 s v.side);obtain⟨kb,ab⟩:=nM (Au v.side);obtain⟨E,X⟩:=nM (pl.Bn p v.side v.row);obtain⟨q,hq⟩:=nM ((bf.Ac (Ak s v.side)).length);obtain⟨bb,Z⟩:=nM (Ak s v.side);obtain⟨bx,aa⟩:=nM (B7 y v.side);rw[hk]at t G;rw[Y]at G d;rw[ab]at K m;rw[X]at u d;rw[hq]at g d;rw[Z,aa]at g m;clear hk Y ab X hq Z aa;unfold pl.Ap at u⊢;unfold bf.AZ bf.hdV at g;rw[AK];unfold evV;obtain⟨kd,D,tm,af⟩:=v;dsimp only at *;obtain⟨n,hn⟩:=nM af.length;rw[hn]at u⊢;clear hn;obtain⟨bl,bm,br⟩:=bb;obtain⟨xa,xc,⟨⟨x1,x2,x3⟩,xl⟩,xs⟩:=bx;dsimp only at *;obtain⟨xn,ad⟩:=nM xs.length;rw[ad]at g m;clear ad;go_enter func212,ntmps212;go_wp2_with fail;generalize z:(World.alloc (World.alloc (World.alloc w _) _) _)=V;have N:Ϝ w V:=by rw[<-z];exact(Ϩ.alloc ϟ _).alloc Ϣ _
 have r:ϛ (Cb V (w+1) s y):=by
  subst z;have:=Cs (ξ w (Φ p x) 32) s y 38;rw[World.size_alloc]at this;exact Az this Ϩ
 have i:Δ V (w+1+1) 1 (vI D):=by subst z;go_simp
 have j:Δ V (w+1+1) 2 (vI tm):=by subst z;go_simp
 clear z;refine(u.o _ N).mono ?_;rintro e a ⟨rfl,A⟩;have c:Ϝ w a:=bT N A;replace r:ϛ (Cb a (w+1) s y):=Az r.o A;replace i:=cLz A i;replace j:=cLz A j;clear A N u;by_cases O:E=0
 rotate_left
 ·have ah:(E !=0)=true:=by simpa using O
  have f:ϛ (E=R):=by show _=_;rw[<-d.o,if_pos O]
  go_wp2;go_ret;exact⟨Aj f.o,c⟩
 subst O;rw[if_neg Ϟ]at d;have F:=G.o _ _ r.o;have HQ:=m.o _ _ r.o;have u8:=r.o.2.2.2.2.2.2.2.2;obtain⟨g0,g1,g2⟩:=HQ;clear G m;by_cases S:tm<=M
 ·have f:ϛ ((7:Int)=R):=by show _=_;rw[<-d.o,if_pos S]
  go_wp2
  go_region_held3 (λw'=>Δ w' (w+1+1) 1 (vI D)/\Δ w' (w+1+1) 2 (vI tm)/\Δ w' (w+1) k (vI M)) (first|go_keep|exact⟨i,j,F⟩) (first|(go_at_call 250;refine(t.o _).mono ?_;rintro e Q ⟨rfl,rfl⟩))
  all_goals
   go_wp2;go_ret;exact⟨Aj f.o,by first|exact c|exact c.drew⟩
 ·rw[if_neg S]at d;by_cases H:s.seq=1099511627776
  ·have ae:(s.seq==1099511627776)=true:=by simpa using H
   have f:ϛ ((2:Int)=R):=by show _=_;rw[<-d.o,if_pos (.inl H)]
   go_wp2
   go_region_held3 (λw'=>Δ w' (w+1+1) 1 (vI D)/\Δ w' (w+1+1) 2 (vI tm)/\Δ w' (w+1) k (vI M)) (first|go_keep|exact⟨i,j,F⟩) (first|(go_at_call 250;refine(t.o _).mono ?_;rintro e Q ⟨rfl,rfl⟩))
   all_goals
    go_wp2;go_ret;exact⟨Aj f.o,by first|exact c|exact c.drew⟩
  ·have ae:(s.seq==1099511627776)=false:=by simpa using H
   by_cases T:q=4096
   ·subst T;have f:ϛ ((2:Int)=R):=by show _=_;rw[<-d.o,if_pos (.inr rfl)]
    go_wp2
    go_region_held3 (λw'=>Δ w' (w+1+1) 1 (vI D)/\Δ w' (w+1+1) 2 (vI tm)/\Δ w' (w+1) k (vI M)) (first|go_keep|exact⟨i,j,F⟩) (first|(go_at_call 250;refine(t.o _).mono ?_;rintro e Q ⟨rfl,rfl⟩))
    all_goals
     go_wp2_with (first
      |(go_at_call 252;refine(K.o _).mono ?_;rintro e w3 ⟨rfl,rfl⟩)
      |(go_at_call 232;refine(g.o _ (by first|exact c|exact c.drew)).mono ?_;rintro e w4 ⟨rfl,C⟩))
     go_ret;exact⟨Aj f.o,by first|exact bT c C|exact c.drew.trans (C.mono c.size)⟩
   ·have ag:((q:Int)==4096)=false:=by rw[beq_eq_false_iff_ne];omega
    have f:ϛ ((0:Int)=R):=by show _=_;rw[<-d.o,if_neg (λk=>k.elim H T)]
    go_wp2
    go_region_held3 (λw'=>Δ w' (w+1+1) 1 (vI D)/\Δ w' (w+1+1) 2 (vI tm)/\Δ w' (w+1) k (vI M)) (first|go_keep|exact⟨i,j,F⟩) (first|(go_at_call 250;refine(t.o _).mono ?_;rintro e Q ⟨rfl,rfl⟩))
    all_goals
     go_wp2_with (first
      |(go_at_call 252;refine(K.o _).mono ?_;rintro e w3 ⟨rfl,rfl⟩)
      |(go_at_call 232;refine(g.o _ (by first|exact c|exact c.drew)).mono ?_;rintro e w4 ⟨rfl,C⟩))
     go_ret;exact⟨Aj f.o,by first|exact bT c C|exact c.drew.trans (C.mono c.size)⟩
end jn
namespace jn
open vl bf
variable {w w' : ϙ} {M nn : Nat} {l : List Int} {s : Int}
theorem AdE:Keyed Tryz.prog 3:=int_keyed underlying3
def DR(w:World)(M nn:Nat)(l:List Int):Prop:=∃D:DataW Unit,w.ownsMap Tryz.prog 3 (plainElem (H:=Unit) Tryz.prog 3) M nn D/\∀s,pl.i64 s->D.atKey (.int .i64 s) (.lit (.int .i64 0))= .lit (.int .i64 (l.count s:Nat))
theorem Rt(w:ϙ):DR (w.alloc (.map #[] 0)) w.heap.size 0 []:=⟨_,World.ownsMap_made _ _ _ _,λs a=>by simp;rfl⟩
theorem UY(h:DR w M nn l):M<w.heap.size:=by
 obtain⟨D,a,_⟩:=h;exact a.lt
theorem Lc{a:Option Nat}(h:DR w M nn l)(e:w.grownBy w' a)(f:some M≠a):DR w' M nn l:=by
 obtain⟨D,c,d⟩:=h;exact⟨D,c.kept e f,d⟩
theorem OD(h:DR w M nn l)(i:w'.heap[M]? =w.heap[M]?):DR w' M nn l:=by
 obtain⟨D,⟨c,a,g,F,f,e⟩,d⟩:=h;exact⟨D,⟨c,a,i.trans g,F,f,e⟩,d⟩
theorem Ch(h:DR w M nn l)(a:Ϝ w w'):DR w' M nn l:=OD h (a.block M (UY h))
theorem wfi(a:pl.i64 s):(Lit.int .i64 s).wf=true:=MI a
theorem Ex(h:DR w M nn l)(d:pl.i64 s):(Instr.lookup 298 (.map (some M)) (.int .i64 s) false).run Tryz.prog w= .ok (.int .i64 (l.count s:Nat)) w:=by
 obtain⟨D,f,g⟩:=h;obtain⟨c,k,i,_⟩:=f.lookup_int AdE underlying298 underlying3 (Tryz.zeroValue3 w) (keyOf_int_mk underlying3 (wfi d));have j:=(g s d).symm.trans i;have e:∀a b:Int,(DataW.lit (Lit.int .i64 a):DataW Unit)= .lit (.int .i64 b)->a=b:=λa b h=>(Lit.int.inj (DataW.lit.inj h)).2;rw[k,e _ _ j]
theorem MQ(h:DR w M nn l)(d:pl.i64 s)(i:nn<maxLen)(u:l.length<9223372036854775807):
 ∃w',(Instr.mapUpdate 298 (.map (some M)) (vI s) (vI ((l.count s:Nat)+1))).run Tryz.prog w= .ok () w'/\DR w' M (nn+1) (l++[s])/\w.grownBy w' (some M):=by
 obtain⟨D,c,f⟩:=h;have r:=count_le_length (a:=s) (l:=l);obtain⟨w',m,j,g⟩:=c.update AdE underlying298 i (keyOf_int_mk underlying3 (wfi d)) (plainElem_int (H:=Unit) (a:=(l.count s:Nat)+1) underlying3 (MI ⟨ϝ,ϝ⟩));refine⟨w',m,⟨_,j,λt q=>?_⟩,g⟩;by_cases e:t=s
 ·subst e;rw[atKey_put_same c.isMap (AdE.key (keyOf_int_mk underlying3 (wfi d)))];simp[count_append]
 ·rw[atKey_put_other (λk=>e (by injection k)),f t q];have:s≠t:=λk=>e k.symm;simp[count_append,count_singleton,this]
theorem JQ(h:DR w M nn l):∃o:Obj,w.heap[M]? =some o/\o.isCells=false:=by
 obtain⟨D,⟨d,c,a,_⟩,_⟩:=h;exact⟨_,a,rfl⟩
theorem MR(l:List Int)(s:Int):(l++[s]).count s=l.count s+1:=by simp[count_append]
end jn
namespace jn
open vl bf
attribute [local go_sem] Oper.semAt_some
theorem IF(p:pl.Pln)(x:pl.PA)(side:Int)(b:Buf)(y:BX)(w:ϙ)(hw:pl.wfPlan p)(hp:pl.planAt w p x)(h:bufAt w b y)(ao:∀z∈Ac b,wfE z):
 η 171 #[pl.Ap p x,vI side,AZ b y] w (θ w (.bool (L2 p side b))):=by
 have HB:=hqz h;have aa:ϛ (ERs w (ems (y.m::y.rs)) (Ac b)):=D8 h;have HK:ϛ (∀(r:List Cel) (n:Nat) (a:Ϛ) (c:Nat) (I:ϙ),n=r.length->Ϝ w I->vl.rowAt w a r->B9 r->r.length<=χ->CT 214 #[pl.Ap p x,vI side,vS a n c] I (θ I (.tuple #[.string (pl.As p side r),.bool (pl.hasB p side r),vI (pl.Bn p side r)]))):=λr n a c I hn hb T h2 h3=>by
  subst hn;exact pl.Ow p x side a c r I hw (pl.Ae hp hb) (vl.Ab T hb) h2 h3
 obtain⟨L,hL⟩:=nM (Ac b);have am:ϛ (∀z∈L,wfE z):=by rw[<-hL];exact ao
 unfold L2;rw[hL]at aa⊢;clear hL h ao hw hp;obtain⟨R,hR⟩:=nM (L.all (Hs p side));have al:=hqz hR;rw[hR];clear hR;obtain⟨t,v,⟨⟨f,g,m⟩,ml⟩,rs⟩:=y;obtain⟨q,a0,a1⟩:=b;unfold AZ hdV;unfold pl.Ap at HK⊢;dsimp only at aa⊢;obtain⟨n,hn⟩:∃n,rs.length=n:=⟨_,rfl⟩;have HN:=hqz hn;rw[hn];clear hn;refine(callsIn_wide (n:=0)).1 ?_;refine callsIn_of_wp_marks func171 rfl trivial ?_ rfl;simp only[ntmps171,size_toArray,length_cons,length_nil,Nat.reduceAdd,Nat.reduceSub,Array.replicate_succ,Array.replicate_zero,push_toArray,append_toArray,nil_append,cons_append]
 gi_wp2_with (refine⟨trivial,rfl,?_⟩;gi_at_call 237;refine(callsIn_wide.2 (Ir _ _ _ rfl rfl rfl _)).mono ?_;rintro e w' ⟨rfl,rfl⟩)
 have V0:Bh (ξ (ξ (ξ (ξ (ξ w (Φ p x) 32) #[vI side] 3) (ν q f g m t n v) 36) #[ϋ] 4) (ν q f g m t n v) 36) w.heap.size p x:=by
  unfold Bh;refine⟨?_,?_,?_,?_,?_,?_,?_,?_,?_,?_,?_,?_,?_⟩<;>go_simp
 have V2:Δ (ξ (ξ (ξ (ξ (ξ w (Φ p x) 32) #[vI side] 3) (ν q f g m t n v) 36) #[ϋ] 4) (ν q f g m t n v) 36) (w+1) 0 (vI side):=ϡ;have V3:Δ (ξ (ξ (ξ (ξ (ξ w (Φ p x) 32) #[vI side] 3) (ν q f g m t n v) 36) #[ϋ] 4) (ν q f g m t n v) 36) (w+1+1+1) 0 (.bool false):=ϡ;have V4:Ξ (ξ (ξ (ξ (ξ (ξ w (Φ p x) 32) #[vI side] 3) (ν q f g m t n v) 36) #[ϋ] 4) (ν q f g m t n v) 36) (w+1+1+1) 0:=ϡ;have V5:Δ (ξ (ξ (ξ (ξ (ξ w (Φ p x) 32) #[vI side] 3) (ν q f g m t n v) 36) #[ϋ] 4) (ν q f g m t n v) 36) (w+1+1+1+1) 0 (vI q):=ϡ;have V6:Δ (ξ (ξ (ξ (ξ (ξ w (Φ p x) 32) #[vI side] 3) (ν q f g m t n v) 36) #[ϋ] 4) (ν q f g m t n v) 36) (w+1+1+1+1) 1 (vS f g m):=ϡ;have V7:Δ (ξ (ξ (ξ (ξ (ξ w (Φ p x) 32) #[vI side] 3) (ν q f g m t n v) 36) #[ϋ] 4) (ν q f g m t n v) 36) (w+1+1+1+1) 2 (vS t n v):=ϡ;have V8:Ϝ w (ξ (ξ (ξ (ξ (ξ w (Φ p x) 32) #[vI side] 3) (ν q f g m t n v) 36) #[ϋ] 4) (ν q f g m t n v) 36):=by
  repeat (first|exact bR|(refine Below.alloc ?_ Ϥ _))
 have V9:(((((w.alloc (.cells (Φ p x) 32)).alloc (.cells #[vI side] 3)).alloc (.cells (ν q f g m t n v) 36)).alloc (.cells #[ϋ] 4)).alloc (.cells (ν q f g m t n v) 36)).heap.size=w.heap.size+1+1+1+1+1:=ϟ;generalize (((((w.alloc (.cells (Φ p x) 32)).alloc (.cells #[vI side] 3)).alloc (.cells (ν q f g m t n v) 36)).alloc (.cells #[ϋ] 4)).alloc (.cells (ν q f g m t n v) 36))=V at *;have ai:=Gs HB.o V8 (w.heap.size+1+1+1+1) Fy V5 V6 (by rw[HN.o];exact V7) Af (λ_ _=>Af) (λ_ _ _ _=>trivial) (λ_ _ _ _=>trivial);dsimp only at ai;obtain⟨E,hE⟩:=nM (ems ((((f,g,m):Hdr),ml)::rs));rw[hE]at ai aa;clear hE;refine Db (gf:=276) (lb:=#[.pointer (some ⟨w+1+1+1+1,0,none⟩)]) rfl (enters_of func276 Ϡ rfl) ai bR (λx Y=>by obtain⟨p,_,rfl⟩:=mem_map.1 Y;rfl) (λh k=>Aq.trans h k) (λW l o o' _ h ho=>Aq.put W l o o' h ho)
  (λi X=>(∀j,j<i->Hs p side (L.getD j ϰ)=true)/\Aq Fy V X/\Ξ X (w+1+1+1) 0/\Ϝ w X) (λc X=>c= .ret/\false=R/\Δ X (w+1+1+1) 0 (.bool false)/\Ϝ w X)
  (λi X X' aq H F G=>⟨H.1,H.2.1.grown F (λr e=>(G r e).2),(frozen_kept (H.2.1.cell Af V3) F (λr e=>(G r e).2)).trans H.2.2.1,CU H.2.2.2 nR ϝ F G⟩)
  (λc X X' aq H F G=>⟨H.1,H.2.1,cell_kept H.2.2.1 F (λr e=>(G r e).2),CU H.2.2.2 nR ϝ F G⟩)
  ⟨λj hj=>absurd hj (Nat.not_lt_zero j),Aq.refl _ _,V4,V8⟩
  (λi a' X=> ∃B,a'={tmps:=#[.agg #[vI p.kind,vI p.mode,vI p.low,vI p.high,vI p.size,vI p.limit,vS x.l p.left.length x.lc,vS x.r p.right.length x.rc,vS x.lk p.lkeys.length x.lkc,vS x.rk p.rkeys.length x.rkc,.bool p.grouped,vS x.g p.group.length x.gc,vS x.a p.aggs.length x.ac],vI side,.agg #[vI q,vS f g m,vS t n v],.pointer (some ⟨w,0,none⟩),.pointer (some ⟨w+1,0,none⟩),.pointer (some ⟨w+1+1,0,none⟩),.pointer (some ⟨w+1+1+1,0,none⟩),.pointer (some ⟨B,0,none⟩),undef,undef,undef,.agg #[vI q,vS f g m,vS t n v],.func (.func 276) #[] #[.pointer (some ⟨w+1+1+1+1,0,none⟩)],(E.getD i ϰ).val,undef,undef,undef,undef,undef,undef,undef,undef,undef,undef,undef,undef,undef,undef,undef,undef,undef,undef,undef,undef,undef],defers:=[]}/\ώ X B (.string (E.getD i ϰ).key) (vI (E.getD i ϰ).time) (vI (E.getD i ϰ).seq) (hdV (E.getD i ϰ).row) (.bool (E.getD i ϰ).met))
  (λi a' u X X' aq H F G=>by
   obtain⟨B,T,h2,h3,h4,h5,h6⟩:=H;exact⟨B,T,cell_kept h2 F (λr e=>(G r e).2),cell_kept h3 F (λr e=>(G r e).2),cell_kept h4 F (λr e=>(G r e).2),cell_kept h5 F (λr e=>(G r e).2),cell_kept h6 F (λr e=>(G r e).2)⟩) ?assign ?body ?done ?stop
 case assign=>
  intro l' k z X K Y hi P;obtain⟨hk,ap⟩:=List.getElem?_eq_some_iff.1 Y;rw[lMp]at hk;rw[getElem_map]at ap;subst ap;have hd:E.getD k ϰ=E[k]:=by rw[gDe,gEe hk];rfl
  have J:=P;rw[hd]at J;clear P hd Y;obtain⟨⟨S,et,es,⟨r1,r2,r3⟩,em⟩,hz⟩:∃z,E[k]=z:=⟨_,rfl⟩;rw[hz]at J⊢;unfold EM.val hdV at J⊢;dsimp only at J⊢;obtain⟨j1,A,j3,C⟩:=hi
  gi_wp2
  have lX:w.heap.size+1+1+1<X.heap.size:=bLt _ _ (A.cell Af V3);exact J _ _ ((KeepsOthers.alloc _ _).from _) (Aq.alloc _ _) ⟨j1,A.trans (Aq.alloc _ _),ϡ,C.alloc C.size _⟩ ⟨X.heap.size,rfl,ϡ,ϡ,ϡ,ϡ,ϡ⟩
 case body=>
  intro l' i z a' X Y ay az ax ag;obtain⟨j1,A,j3,C⟩:=ax;obtain⟨B,ag,b0,b1,b2,b3,b4⟩:=ag;subst ag;obtain⟨hi,_⟩:=List.getElem?_eq_some_iff.1 Y;rw[lMp]at hi;have aw:=aa.o.1;have ad:=aa.o.2 i ϝ;have ae:ϛ (L.getD i ϰ∈L):=by show _∈_;rw[gDe,gEe ϝ];simp
  have N:ϛ (∀I,Ϝ w I->CT 214 #[pl.Ap p x,vI side,hdV (E.getD i ϰ).row] I (θ I (.tuple #[.string (pl.As p side (L.getD i ϰ).row),.bool (pl.hasB p side (L.getD i ϰ).row),vI (pl.Bn p side (L.getD i ϰ).row)]))):=λI hb=>HK.o (L.getD i ϰ).row _ _ _ I ad.len hb ad.row (am.o _ ae.o).row (am.o _ ae.o).len;have ac:ϛ ((E.getD i ϰ).key=(L.getD i ϰ).key):=ad.key;obtain⟨Z,aj⟩:=nM (pl.As p side (L.getD i ϰ).row);obtain⟨an,ah⟩:=nM (pl.hasB p side (L.getD i ϰ).row);obtain⟨re,ak⟩:=nM (pl.Bn p side (L.getD i ϰ).row);have ab:ϛ (Hs p side (L.getD i ϰ)=(decide (re=0)&&an&&decide (Z=(L.getD i ϰ).key))):=by
   show _=_;unfold Hs;rw[aj,ah,ak]
  rw[aj,ah,ak]at N;clear aj ah ak;obtain⟨⟨S,et,es,⟨r1,r2,r3⟩,em⟩,hz⟩:∃z,E.getD i ϰ=z:=⟨_,rfl⟩;rw[hz]at N b0 b1 b2 b3 b4 ac⊢;unfold hdV at N b3;dsimp only at N b0 b1 b2 b3 b4 ac;rw[<-ac.o]at ab;have O:=A.cell Af V3;have c2:=A.cell Af V2;have c0:Bh X w p x:=by
   obtain⟨v0,v1,v2,v3,v4,v5,v6,v7,v8,v9,ar,au,av⟩:=V0;exact⟨A.cell Af v0,A.cell Af v1,A.cell Af v2,A.cell Af v3,A.cell Af v4,A.cell Af v5,A.cell Af v6,A.cell Af v7,A.cell Af v8,A.cell Af v9,A.cell Af ar,A.cell Af au,A.cell Af av⟩
  obtain⟨v0,v1,v2,v3,v4,v5,v6,v7,v8,v9,ar,au,av⟩:=c0;have lX:w.heap.size+1+1+1<X.heap.size:=bLt _ _ O;have af:ϛ (Hs p side (L.getD i ϰ)=false->false=R):=λhb=>by
   rw[<-al.o]
   symm
   rw[all_eq_false];exact⟨_,ae.o,by rw[hb];decide⟩
  clear hz ad aw Y ac;by_cases T:re=0
  ·subst T
   cases an with
   |true=>
    by_cases t1:Z.toList=S.toList
    ·have hY:ϛ (Hs p side (L.getD i ϰ)=true):=by
      show _=_;rw[ab.o];have e1:Z=S:=by have:=bytes_beq Z S;rw[t1]at this;simpa using this.symm
      simp[e1]
     gi_wp2_with (refine⟨trivial,rfl,?_⟩;gi_at_call 214;refine(CallsIn.inRound l' (callsIn_wide.2 (N.o _ C))).mono ?_;rintro e w2 ⟨rfl,d⟩;have k0:=cLz d b0)
     exact⟨BH d,bf.Cf d nR,λj hj=>by
      rcases Nat.lt_succ_iff_lt_or_eq.1 hj with h|h
      ·exact j1 j h
      ·rw[h];exact hY.o,A.trans (bf.Cf d nR),by rw[d.frozen (p:=⟨w+1+1+1,0,none⟩) lX];exact j3,bT C d⟩
    ·have Q:ϛ (false=R):=af.o (by
      rw[ab.o];have e1:Z≠S:=λe=>t1 (by rw[e]);simp[e1])
     have t2:(Z.toList==S.toList)=false:=by simpa using t1
     have t3:(Z.toList !=S.toList)=true:=by simpa using t1
     gi_wp2_with (refine⟨trivial,rfl,?_⟩;gi_at_call 214;refine(CallsIn.inRound l' (callsIn_wide.2 (N.o _ C))).mono ?_;rintro e w2 ⟨rfl,d⟩;have k0:=cLz d b0;have k3:=cLz d O;have kf:Ξ w2 (w+1+1+1) 0:=(by rw[d.frozen (p:=⟨w+1+1+1,0,none⟩) lX];exact j3))
     exact⟨(BH d).trans ((KeepsOthers.setCell _ _ _).from _),rfl,Q.o,World.cell?_setCell_same _ _ _ k3,(bT C d).setCell ϣ _⟩
   |false=>
    have Q:ϛ (false=R):=af.o (by rw[ab.o];simp)
    gi_wp2_with (refine⟨trivial,rfl,?_⟩;gi_at_call 214;refine(CallsIn.inRound l' (callsIn_wide.2 (N.o _ C))).mono ?_;rintro e w2 ⟨rfl,d⟩;have k0:=cLz d b0;have k3:=cLz d O;have kf:Ξ w2 (w+1+1+1) 0:=(by rw[d.frozen (p:=⟨w+1+1+1,0,none⟩) lX];exact j3))
    exact⟨(BH d).trans ((KeepsOthers.setCell _ _ _).from _),rfl,Q.o,World.cell?_setCell_same _ _ _ k3,(bT C d).setCell ϣ _⟩
  ·have Q:ϛ (false=R):=af.o (by rw[ab.o];simp[T]);have h2:(re !=0)=true:=by simpa using T
   gi_wp2_with (refine⟨trivial,rfl,?_⟩;gi_at_call 214;refine(CallsIn.inRound l' (callsIn_wide.2 (N.o _ C))).mono ?_;rintro e w2 ⟨rfl,d⟩;have k0:=cLz d b0;have k3:=cLz d O;have kf:Ξ w2 (w+1+1+1) 0:=(by rw[d.frozen (p:=⟨w+1+1+1,0,none⟩) lX];exact j3))
   exact⟨(BH d).trans ((KeepsOthers.setCell _ _ _).from _),rfl,Q.o,World.cell?_setCell_same _ _ _ k3,(bT C d).setCell ϣ _⟩
 case done=>
  rintro D X hD ⟨j1,A,j3,C⟩ P;have O:=A.cell Af V3;have Q:ϛ (true=R):=by
   show _=_;rw[<-al.o]
   symm
   rw[lMp]at j1;refine all_eq_true.2 (λz hz=>?_);obtain⟨j,hj,rfl⟩:=getElem_of_mem hz;have:=j1 j (by rw[aa.o.1];exact hj);rw[gDe,gEe hj]at this;exact this
  gi_wp2
  have J:(X.setCell ⟨w+1+1+1,0,none⟩ (.bool true)).heap[D]? =some (.deferred (some [])):=(heap_setCell_other _ _ _ _ ϣ).trans P;refine⟨ϟ,.inl ⟨_,_,rfl,run_takeDeferred J,?_⟩⟩;have y3:=Cu (World.cell?_setCell_same _ _ (.bool true) O) J rfl (.deferred none);exact⟨.bool true,(by simp[results,results171,go_sem,y3]),Aa Q.o,Cq (C.setCell ϣ _) ϝ J _⟩
 case stop=>
  rintro D c X hD ⟨rfl,hE,O,C⟩ P
  gi_wp2
  refine⟨ϟ,.inl ⟨_,_,rfl,run_takeDeferred P,?_⟩⟩;have y3:=Cu O P rfl (.deferred none);exact⟨.bool false,(by simp[results,results171,go_sem,y3]),Aa hE,Cq C ϝ P _⟩
end jn
namespace jn
open vl
variable {U W : ϙ} {B b : Nat}
structure Eng where
 j:Jn
 v:List ch.Cnt
structure EX where
 y:JX
 va:Option Addr
 vc:Nat
def enV(e:Eng)(x:EX):Value:=.agg #[vI e.j.L.lim,vS x.y.l.m.1.1 x.y.l.m.1.2.1 x.y.l.m.1.2.2,vS x.y.l.ra x.y.l.rs.length x.y.l.rc,vI e.j.R.lim,vS x.y.r.m.1.1 x.y.r.m.1.2.1 x.y.r.m.1.2.2,vS x.y.r.ra x.y.r.rs.length x.y.r.rc,vI e.j.lm,vI e.j.rm,vI e.j.seq,ψ,vS x.va e.v.length x.vc]
structure enAt(w:World)(e:Eng)(x:EX):Prop where
 j:joinAt w e.j x.y
 v:ch.viewAt w x.va e.v
theorem enAt.below{w w':ϙ}{e:Eng}{x:EX}(h:enAt w e x)(a:Ϝ w w'):enAt w' e x:=⟨h.j.below a,ch.Bg h.v a⟩
structure wfEn(e:Eng):Prop where
 j:wfJ e.j
 v:ch.BJ e.v
 n:e.v.length<=χ
noncomputable def Dt(p:pl.Pln)(e:Eng):Int:=if AQ p e.j≠0 then AQ p e.j else if ch.Ar e.v≠0 then ch.Ar e.v else bt.Ej (pl.Dv p) e.v
def Dp(U:World)(b:Nat)(e:Eng)(x:EX):Prop:=Δ U b 0 (vI e.j.L.lim)/\Δ U b 1 (vS x.y.l.m.1.1 x.y.l.m.1.2.1 x.y.l.m.1.2.2)/\Δ U b 2 (vS x.y.l.ra x.y.l.rs.length x.y.l.rc)/\Δ U b 3 (vI e.j.R.lim)/\Δ U b 4 (vS x.y.r.m.1.1 x.y.r.m.1.2.1 x.y.r.m.1.2.2)/\Δ U b 5 (vS x.y.r.ra x.y.r.rs.length x.y.r.rc)/\Δ U b 6 (vI e.j.lm)/\Δ U b 7 (vI e.j.rm)/\Δ U b 8 (vI e.j.seq)/\Δ U b 9 (vS none 0 0)/\Δ U b 10 (vS x.va e.v.length x.vc)
theorem Ey(w:ϙ)(e:Eng)(x:EX)(t:TypeId):Dp (ξ w #[vI e.j.L.lim,vS x.y.l.m.1.1 x.y.l.m.1.2.1 x.y.l.m.1.2.2,vS x.y.l.ra x.y.l.rs.length x.y.l.rc,vI e.j.R.lim,vS x.y.r.m.1.1 x.y.r.m.1.2.1 x.y.r.m.1.2.2,vS x.y.r.ra x.y.r.rs.length x.y.r.rc,vI e.j.lm,vI e.j.rm,vI e.j.seq,ψ,vS x.va e.v.length x.vc] t) w.heap.size e x:=by
 unfold Dp;refine⟨?_,?_,?_,?_,?_,?_,?_,?_,?_,?_,?_⟩<;>go_simp
theorem Bl{U':ϙ}{e:Eng}{x:EX}(h:Dp U b e x)(a:Ϝ U U'):Dp U' b e x:=by
 obtain⟨c,d,g,i,j,k,m,q,r,t,f⟩:=h;exact⟨cLz a c,cLz a d,cLz a g,cLz a i,cLz a j,cLz a k,cLz a m,cLz a q,cLz a r,cLz a t,cLz a f⟩
theorem Ru{e:Eng}{x:EX}(h:Dp U b e x):b<U.heap.size:=bLt _ _ h.1
def Fx(W:World)(B:Nat):Prop:=W.there B 0 11
theorem Hu(w:ϙ):Fx (ξ w #[ω,ψ,ψ,ω,ψ,ψ,ω,ω,ω,ψ,ψ] 42) w.heap.size:=by
 intro j a
 match j,a with
 |0,_=>exact⟨ϡ,ϡ⟩
 |1,_=>exact⟨ϡ,ϡ⟩
 |2,_=>exact⟨ϡ,ϡ⟩
 |3,_=>exact⟨ϡ,ϡ⟩
 |4,_=>exact⟨ϡ,ϡ⟩
 |5,_=>exact⟨ϡ,ϡ⟩
 |6,_=>exact⟨ϡ,ϡ⟩
 |7,_=>exact⟨ϡ,ϡ⟩
 |8,_=>exact⟨ϡ,ϡ⟩
 |9,_=>exact⟨ϡ,ϡ⟩
 |10,_=>exact⟨ϡ,ϡ⟩
theorem BK{W':ϙ}(h:Fx W B)(a:Ϝ W W'):Fx W' B:=BQ h a
theorem AbF(h:Fx W B):B<W.heap.size:=Rs h Ϟ
theorem Jg:(Tryz.prog.info? 42).map (·.size)=some 11:=Ϡ
theorem Fs(h:Fx W B){l:List Value}(a:l.length=11):(W.setCells B 0 l).rangeAt B 0 l:=World.rangeAt_setCells_same W B 0 l (by rw[a];exact h)
def e0:Eng:=⟨j0,[]⟩
def ex0:EX:=⟨jx0,none,0⟩
theorem ET(e:Eng)(x:EX):enV e x= .agg #[vI e.j.L.lim,vS x.y.l.m.1.1 x.y.l.m.1.2.1 x.y.l.m.1.2.2,vS x.y.l.ra x.y.l.rs.length x.y.l.rc,vI e.j.R.lim,vS x.y.r.m.1.1 x.y.r.m.1.2.1 x.y.r.m.1.2.2,vS x.y.r.ra x.y.r.rs.length x.y.r.rc,vI e.j.lm,vI e.j.rm,vI e.j.seq,ψ,vS x.va e.v.length x.vc]:=rfl
end jn
end Go.Proofs.YtfkihidbnfkbaaaGreatDoor
