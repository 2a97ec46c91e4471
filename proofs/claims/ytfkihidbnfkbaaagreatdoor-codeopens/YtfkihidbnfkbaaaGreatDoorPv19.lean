import Derived.Test.YtfkihidbnfkbaaaGreatDoorPv16
import Derived.Test.YtfkihidbnfkbaaaGreatDoorPv10
set_option linter.all false
set_option maxHeartbeats 8000000
set_option maxRecDepth 100000
open Go.ChangeShapes Go.WideShapes Go.ChangeAt Go.RowKit Go.Maps Go.WideMaps Go.Shelf List
open Inhabited renaming default->ϰ
namespace Go.Proofs.YtfkihidbnfkbaaaGreatDoor
open Go.Proofs.Tryz
namespace jn
open vl
variable {U U' W W' w w' : Ϙ} {B b n o : Nat} {p : pl.Pln} {x : pl.PA}
structure Jn where
 L:bf.Buf
 R:bf.Buf
 lm:Int
 rm:Int
 seq:Int
structure JX where
 l:bf.BX
 r:bf.BX
def joinV(s:Jn)(x:JX):Value:=.agg #[vI s.L.lim,bf.hdV x.l.m.1,vS x.l.ra x.l.rs.length x.l.rc,vI s.R.lim,bf.hdV x.r.m.1,vS x.r.ra x.r.rs.length x.r.rc,vI s.lm,vI s.rm,vI s.seq]
structure joinAt(w:World)(s:Jn)(x:JX):Prop where
 l:bf.bufAt w s.L x.l
 r:bf.bufAt w s.R x.r
theorem joinAt.below{s:Jn}{x:JX}(h:joinAt w s x)(a:ϛ w w'):joinAt w' s x:=⟨bf.Al h.l a,bf.Al h.r a⟩
structure wfB(b:bf.Buf):Prop where
 ents:∀y∈bf.Ab b,bf.wfE y/\bf.wfP (bf.AZ y)
 size:(bf.Ab b).length<=4611686018427387904
structure wfJ(s:Jn):Prop where
 l:wfB s.L
 r:wfB s.R
 seq:pl.i64 s.seq
def Aj(s:Jn)(side:Int):bf.Buf:=if side=2 then s.R else s.L
def Br(x:JX)(side:Int):bf.BX:=if side=2 then x.r else x.l
def Bs(s:Jn)(side:Int):Int:=if side=2 then s.rm else s.lm
theorem wfJ.of{s:Jn}(h:wfJ s)(side:Int):wfB (Aj s side):=by
 unfold Aj;split
 ·exact h.r
 ·exact h.l
theorem joinAt.of{s:Jn}{x:JX}(h:joinAt w s x)(side:Int):bf.bufAt w (Aj s side) (Br x side):=by
 unfold Aj Br;split
 ·exact h.r
 ·exact h.l
structure Ev where
 kind:Int
 side:Int
 time:Int
 row:List Cel
def evV(v:Ev)(ra:Option Addr)(rc:Nat):Value:=.agg #[vI v.kind,vI v.side,vI v.time,vS ra v.row.length rc]
structure evAt(w:World)(v:Ev)(ra:Option Addr):Prop where
 row:vl.rowAt w ra v.row
 wf:Cb v.row
 len:v.row.length<=χ
theorem evAt.below{v:Ev}{a:ϙ}(h:evAt w v a)(c:ϛ w w'):evAt w' v a:=⟨vl.Ac h.row c,h.wf,h.len⟩
def noMark:Int:= -1099511627777
def Ex(m:Int):Bool:=decide (m=noMark)||tm.Bm m
def Ej(s:Jn):Bool:=Ex s.lm&&Ex s.rm&&bf.B9 s.seq 0 1099511627776
def Es(n:Int)(l:List bf.Ent):Prop:=(∀y∈l,y.seq<n)/\(l.map (·.seq)).Nodup
instance(n:Int)(l:List bf.Ent):Decidable (Es n l):=by unfold Es;infer_instance
def LY(s:Jn):Bool:=decide (Es s.seq (bf.Ab s.L++bf.Ab s.R))
def GK(p:pl.Pln)(side:Int)(y:bf.Ent):Bool:=decide (pl.Bg p side y.row=0)&&pl.hasB p side y.row&&decide (pl.Ar p side y.row=y.key)
def Kt(p:pl.Pln)(side:Int)(b:bf.Buf):Bool:=(bf.Ab b).all (GK p side)
def GL(p:pl.Pln)(s:Jn):Bool:=decide (s.L.lim=p.limit)&&decide (s.R.lim=p.limit)&&LY s&&Kt p 1 s.L&&Kt p 2 s.R
noncomputable def Bh(p:pl.Pln)(s:Jn):Int:=
 if pl.An p≠0 then pl.An p else if bf.Fx s.L≠0 then bf.Fx s.L else if bf.Fx s.R≠0 then bf.Fx s.R else if Ej s=false then 3 else if GL p s=false then 1 else 0
def A9(p:pl.Pln)(s:Jn)(v:Ev):Int:=
 if¬(v.kind=1\/v.kind=2)\/pl.Bf v.side=false then 4 else if tm.Bm v.time=false then 3
 else if v.kind=2 then(if 0<v.row.length then 1 else if v.time<Bs s v.side then 8 else 0)
 else if pl.Bg p v.side v.row≠0 then pl.Bg p v.side v.row else if v.time<=Bs s v.side then 7 else if s.seq=1099511627776\/(bf.Ab (Aj s v.side)).length=4096 then 2 else 0
def Bp(U:World)(b:Nat)(p:pl.Pln)(x:pl.PA):Prop:=ϒ U b (vI p.kind) (vI p.mode) (vI p.low) (vI p.high) (vI p.size) (vI p.limit) (vS x.l p.left.length x.lc) (vS x.r p.right.length x.rc) (vS x.lk p.lkeys.length x.lkc) (vS x.rk p.rkeys.length x.rkc) (.bool p.grouped) (vS x.g p.group.length x.gc) (vS x.a p.aggs.length x.ac)
theorem CH(w:Ϙ)(p:pl.Pln)(x:pl.PA)(t:TypeId):Bp (ξ w (Φ p x) t) w.heap.size p x:=by
 unfold Bp;refine⟨?_,?_,?_,?_,?_,?_,?_,?_,?_,?_,?_,?_,?_⟩<;>go_simp
theorem Ak(h:Bp U b p x)(a:ϛ U U'):Bp U' b p x:=by
 obtain⟨c,d,i,j,k,m,q,r,t,u,e,f,g⟩:=h;exact⟨cLz a c,cLz a d,cLz a i,cLz a j,cLz a k,cLz a m,cLz a q,cLz a r,cLz a t,cLz a u,cLz a e,cLz a f,cLz a g⟩
theorem Ot(h:Bp U b p x):b<U.heap.size:=bLt _ _ h.1
def BS(U:World)(b:Nat)(s:Jn)(y:JX):Prop:=ϖ U b (vI s.L.lim) (vS y.l.m.1.1 y.l.m.1.2.1 y.l.m.1.2.2) (vS y.l.ra y.l.rs.length y.l.rc) (vI s.R.lim) (vS y.r.m.1.1 y.r.m.1.2.1 y.r.m.1.2.2) (vS y.r.ra y.r.rs.length y.r.rc) (vI s.lm) (vI s.rm) (vI s.seq)
theorem Ck(w:Ϙ)(s:Jn)(y:JX)(t:TypeId):BS (ξ w #[vI s.L.lim,vS y.l.m.1.1 y.l.m.1.2.1 y.l.m.1.2.2,vS y.l.ra y.l.rs.length y.l.rc,vI s.R.lim,vS y.r.m.1.1 y.r.m.1.2.1 y.r.m.1.2.2,vS y.r.ra y.r.rs.length y.r.rc,vI s.lm,vI s.rm,vI s.seq] t) w.heap.size s y:=by
 unfold BS;refine⟨?_,?_,?_,?_,?_,?_,?_,?_,?_⟩<;>go_simp
theorem A1{s:Jn}{y:JX}(h:BS U b s y)(a:ϛ U U'):BS U' b s y:=by
 obtain⟨c,d,e,f,g,i,j,k,m⟩:=h;exact⟨cLz a c,cLz a d,cLz a e,cLz a f,cLz a g,cLz a i,cLz a j,cLz a k,cLz a m⟩
def noJ(W:World)(B:Nat):Prop:=W.there B 0 9
theorem Ou(w:Ϙ):noJ (ξ w #[ω,ψ,ψ,ω,ψ,ψ,ω,ω,ω] 38) w.heap.size:=by
 intro j a
 match j,a with
 |0,_=>exact⟨Ϡ,Ϡ⟩
 |1,_=>exact⟨Ϡ,Ϡ⟩
 |2,_=>exact⟨Ϡ,Ϡ⟩
 |3,_=>exact⟨Ϡ,Ϡ⟩
 |4,_=>exact⟨Ϡ,Ϡ⟩
 |5,_=>exact⟨Ϡ,Ϡ⟩
 |6,_=>exact⟨Ϡ,Ϡ⟩
 |7,_=>exact⟨Ϡ,Ϡ⟩
 |8,_=>exact⟨Ϡ,Ϡ⟩
theorem PO(h:W.there B o n)(a:0<n):B<W.heap.size:=by
 obtain⟨u,c⟩:=Option.isSome_iff_exists.1 (h 0 a).1;exact bLt _ _ c
theorem Bz(h:W.there B o n)(a:ϛ W W'):W'.there B o n:=λj c=>by
 obtain⟨u,d⟩:=Option.isSome_iff_exists.1 (h j c).1;exact⟨by rw[cLz a d];rfl,(a.frozen (p:=⟨B,o+j,none⟩) (bLt _ _ d)).trans (h j c).2⟩
theorem CL(h:noJ W B)(a:ϛ W W'):noJ W' B:=Bz h a
theorem W7(h:noJ W B):B<W.heap.size:=PO h ϝ
theorem below_setCells{k B:Nat}{w:Ϙ}(a:k<=B):∀(l:List Value) (o:Nat) (W:Ϙ),Below k w W->Below k w (W.setCells B o l)
 |[],_,_,h=>h
 |v::l,o,W,h=>below_setCells a l (o+1) _ (h.setCell a v)
theorem IV:(Tryz.prog.info? 38).map (·.size)=some 9:=ϟ
theorem FZ(h:noJ W B){l:List Value}(a:l.length=9):(W.setCells B 0 l).rangeAt B 0 l:=World.rangeAt_setCells_same W B 0 l (by rw[a];exact h)
def jx0:JX:=⟨⟨none,0,((none,0,0),[]),[]⟩,⟨none,0,((none,0,0),[]),[]⟩⟩
def j0:Jn:=⟨⟨0,[],[]⟩,⟨0,[],[]⟩,0,0,0⟩
theorem AP(s:Jn)(y:JX):joinV s y= .agg #[vI s.L.lim,vS y.l.m.1.1 y.l.m.1.2.1 y.l.m.1.2.2,vS y.l.ra y.l.rs.length y.l.rc,vI s.R.lim,vS y.r.m.1.1 y.r.m.1.2.1 y.r.m.1.2.2,vS y.r.ra y.r.rs.length y.r.rc,vI s.lm,vI s.rm,vI s.seq]:=rfl
end jn
def Θ(v:jn.Ev)(a:Option Addr)(c:Nat):Mmz (#[.int .i64 v.kind,.int .i64 v.side,.int .i64 v.time,.slice a v.row.length c]:Array Value):=⟨⟩
def Ψ(s:jn.Jn)(y:jn.JX):Mmz (#[.int .i64 s.L.lim,.slice y.l.m.1.1 y.l.m.1.2.1 y.l.m.1.2.2,.slice y.l.ra y.l.rs.length y.l.rc,.int .i64 s.R.lim,.slice y.r.m.1.1 y.r.m.1.2.1 y.r.m.1.2.2,.slice y.r.ra y.r.rs.length y.r.rc,.int .i64 s.lm,.int .i64 s.rm,.int .i64 s.seq]:Array Value):=⟨⟩
def Γ(s:jn.Jn)(y:jn.JX):Mmz ([.int .i64 s.L.lim,.slice y.l.m.1.1 y.l.m.1.2.1 y.l.m.1.2.2,.slice y.l.ra y.l.rs.length y.l.rc,.int .i64 s.R.lim,.slice y.r.m.1.1 y.r.m.1.2.1 y.r.m.1.2.2,.slice y.r.ra y.r.rs.length y.r.rc,.int .i64 s.lm,.int .i64 s.rm,.int .i64 s.seq]:List Value):=⟨⟩
namespace jn
open vl
attribute [local go_sem] Oper.semAt_some
variable {U : Ϙ} {b : Nat}
def B7(side:Int):Nat:=if side=2 then 7 else 6
def Au(side:Int):Nat:=if side=2 then 3 else 0
theorem LZ(b:Nat)(side:Int)(w:Ϙ):η 250 #[μ b,vI side] w λe w'=>e= .returned (.pointer (some ⟨b,B7 side,none⟩))/\w'=w:=by
 unfold B7;by_cases h:side=2
 ·subst h;go_enter func250,ntmps250;go_wp2;go_ret;exact⟨rfl,rfl⟩
 ·have a:(side==2)=false:=by simpa using h
  rw[if_neg h];go_enter func250,ntmps250;go_wp2;go_ret;exact⟨rfl,rfl⟩
theorem Ov(b:Nat)(side:Int)(w:Ϙ):η 252 #[μ b,vI side] w λe w'=>e= .returned (.pointer (some ⟨b,Au side,none⟩))/\w'=w:=by
 unfold Au;by_cases h:side=2
 ·subst h;go_enter func252,ntmps252;go_wp2;go_ret;exact⟨rfl,rfl⟩
 ·have a:(side==2)=false:=by simpa using h
  rw[if_neg h];go_enter func252,ntmps252;go_wp2;go_ret;exact⟨rfl,rfl⟩
theorem Ny{s:Jn}{y:JX}(h:BS U b s y)(side:Int):Δ U b (B7 side) (vI (Bs s side)):=by
 obtain⟨u0,u1,u2,u3,u4,u5,u6,u7,u8⟩:=h;unfold B7 Bs;split
 ·exact u7
 ·exact u6
def Hi(s:Jn)(v:Ev):Int:=if 0<v.row.length then 1 else if v.time<Bs s v.side then 8 else 0
theorem MR(s:Jn)(y:JX)(v:Ev)(z:ϙ)(A:Nat)(w:Ϙ):
 η 211 #[joinV s y,evV v z A] w (θ w (vI (Hi s v))):=by
 obtain⟨R,r⟩:=nM (Hi s v);have c:=hqz r;rw[r];clear r;unfold Hi at c;have q:Ϛ (∀m,CT 250 #[μ w,vI v.side] m λe w'=>e= .returned (.pointer (some ⟨w,B7 v.side,none⟩))/\w'=m):=λm=>LZ _ _ m;have j:Ϛ (∀(U:Ϙ) (b:Nat),BS U b s y->Δ U b (B7 v.side) (vI (Bs s v.side))):=λU b h=>Ny h v.side;obtain⟨k,F⟩:=nM (B7 v.side);obtain⟨M,E⟩:=nM (Bs s v.side);rw[F]at q j;rw[E]at j c;clear F E;rw[AP];unfold evV;obtain⟨H,f,tm,J⟩:=v;dsimp only at *;obtain⟨n,G⟩:=nM J.length;rw[G]at c⊢;clear G;have a:Ϛ (ϛ w (ξ (ξ w (Ψ s y) 38) #[vI H,vI f,vI tm,vS z n A] 90)):=ϧ.alloc Ϟ _;have i:=j.o _ _ (A1 (Ck w s y 38) (bR.alloc nR (.cells #[vI H,vI f,vI tm,vS z n A] 90)));clear j;go_enter func211,ntmps211;by_cases C:0<n
 ·have I:(0:Int)<(n:Int):=Ϝ;have g:Ϛ ((1:Int)=R):=by show _=_;rw[<-c.o,if_pos C]
  go_wp2;go_ret;exact⟨Am g.o,a.o⟩
 ·have I:¬(0:Int)<(n:Int):=Ϝ;rw[if_neg C]at c;by_cases D:tm<M
  ·have g:Ϛ ((8:Int)=R):=by show _=_;rw[<-c.o,if_pos D]
   go_wp2;generalize d:(World.alloc (World.alloc w _) _)=V at i a⊢;have t:Δ V (w+1) 1 (vI f):=by subst d;go_simp
   have u:Δ V (w+1) 2 (vI tm):=by subst d;go_simp
   clear d
   go_region_held3 (λw'=>Δ w' (w+1) 1 (vI f)/\Δ w' (w+1) 2 (vI tm)/\Δ w' w k (vI M)) (first|go_keep|exact⟨t,u,i⟩) (first|(go_at_call 250;refine(q.o _).mono ?_;rintro e K ⟨rfl,rfl⟩))
   all_goals
    go_wp2;go_ret;exact⟨Am g.o,by first|exact a.o|exact a.o.drew⟩
  ·have g:Ϛ ((0:Int)=R):=by show _=_;rw[<-c.o,if_neg D]
   go_wp2;generalize d:(World.alloc (World.alloc w _) _)=V at i a⊢;have t:Δ V (w+1) 1 (vI f):=by subst d;go_simp
   have u:Δ V (w+1) 2 (vI tm):=by subst d;go_simp
   clear d
   go_region_held3 (λw'=>Δ w' (w+1) 1 (vI f)/\Δ w' (w+1) 2 (vI tm)/\Δ w' w k (vI M)) (first|go_keep|exact⟨t,u,i⟩) (first|(go_at_call 250;refine(q.o _).mono ?_;rintro e K ⟨rfl,rfl⟩))
   all_goals
    go_wp2;go_ret;exact⟨Am g.o,by first|exact a.o|exact a.o.drew⟩
theorem Ow{s:Jn}{y:JX}(h:BS U b s y)(side:Int):Δ U b (Au side) (vI (Aj s side).lim)/\Δ U b (Au side+1) (vS (Br y side).m.1.1 (Br y side).m.1.2.1 (Br y side).m.1.2.2)/\Δ U b (Au side+2) (vS (Br y side).ra (Br y side).rs.length (Br y side).rc):=by
 obtain⟨u0,u1,u2,u3,u4,u5,u6,u7,u8⟩:=h;unfold Au Aj Br;split
 ·exact⟨u3,u4,u5⟩
 ·exact⟨u0,u1,u2⟩
def FC(p:pl.Pln)(s:Jn)(v:Ev):Int:=if pl.Bg p v.side v.row≠0 then pl.Bg p v.side v.row else if v.time<=Bs s v.side then 7 else if s.seq=1099511627776\/(bf.Ab (Aj s v.side)).length=4096 then 2 else 0
theorem Ox(p:pl.Pln)(x:pl.PA)(s:Jn)(y:JX)(v:Ev)(P:ϙ)(rc:Nat)(w:Ϙ)(hw:pl.wfPlan p)(hp:pl.planAt w p x)(h:joinAt w s y)(ac:wfJ s)(J:evAt w v P):
 η 212 #[pl.Aq p x,joinV s y,evV v P rc] w (θ w (vI (FC p s v))):=by
 have u:=hIz (λ(a:Ϙ) (I:ϛ w a)=>pl.IM p x v.side P rc v.row a hw (pl.Ag hp I) (vl.Ac J.row I) J.wf J.len);have t:Ϛ (∀a,CT 250 #[μ (w+1),vI v.side] a λe w'=>e= .returned (.pointer (some ⟨w+1,B7 v.side,none⟩))/\w'=a):=λa=>LZ _ _ a;have K:Ϛ (∀a,CT 252 #[μ (w+1),vI v.side] a λe w'=>e= .returned (.pointer (some ⟨w+1,Au v.side,none⟩))/\w'=a):=λa=>Ov _ _ a;have g:Ϛ (∀a,ϛ w a->CT 232 #[bf.AY (Aj s v.side) (Br y v.side)] a (θ a (vI ((bf.Ab (Aj s v.side)).length:Nat)))):=λa I=>bf.Lq _ _ a (bf.Al (h.of v.side) I) (ac.of v.side).size;have G:Ϛ (∀(U:Ϙ) (b:Nat),BS U b s y->Δ U b (B7 v.side) (vI (Bs s v.side))):=λU b h=>Ny h v.side;have m:Ϛ (∀(U:Ϙ) (b:Nat),BS U b s y->Δ U b (Au v.side) (vI (Aj s v.side).lim)/\Δ U b (Au v.side+1) (vS (Br y v.side).m.1.1 (Br y v.side).m.1.2.1 (Br y v.side).m.1.2.2)/\Δ U b (Au v.side+2) (vS (Br y v.side).ra (Br y v.side).rs.length (Br y v.side).rc)):=λU b h=>Ow h v.side;obtain⟨R,L⟩:=nM (FC p s v);have d:=hqz L;rw[L];clear L hw hp h ac J;unfold FC at d;obtain⟨k,hk⟩:=nM (B7 v.side);obtain⟨M,Y⟩:=nM (Bs s v.side);obtain⟨kb,ab⟩:=nM (Au v.side);obtain⟨E,X⟩:=nM (pl.Bg p v.side v.row);obtain⟨q,hq⟩:=nM ((bf.Ab (Aj s v.side)).length);obtain⟨bb,Z⟩:=nM (Aj s v.side);obtain⟨bx,aa⟩:=nM (Br y v.side);rw[hk]at t G;rw[Y]at G d;rw[ab]at K m;rw[X]at u d;rw[hq]at g d;rw[Z,aa]at g m;clear hk Y ab X hq Z aa;unfold pl.Aq at u⊢;unfold bf.AY bf.hdV at g;rw[AP];unfold evV;obtain⟨kd,D,tm,af⟩:=v;dsimp only at *;obtain⟨n,hn⟩:=nM af.length;rw[hn]at u⊢;clear hn;obtain⟨bl,bm,br⟩:=bb;obtain⟨xa,xc,⟨⟨x1,x2,x3⟩,xl⟩,xs⟩:=bx;dsimp only at *;obtain⟨xn,ad⟩:=nM xs.length;rw[ad]at g m;clear ad;go_enter func212,ntmps212;go_wp2_with fail;generalize z:(World.alloc (World.alloc (World.alloc w _) _) _)=V;have N:ϛ w V:=by rw[<-z];exact(ϧ.alloc Ϟ _).alloc ϡ _
 have r:Ϛ (BS V (w+1) s y):=by
  subst z;have:=Ck (ξ w (Φ p x) 32) s y 38;rw[World.size_alloc]at this;exact A1 this ϧ
 have i:Δ V (w+1+1) 1 (vI D):=by subst z;go_simp
 have j:Δ V (w+1+1) 2 (vI tm):=by subst z;go_simp
 clear z;refine(u.o _ N).mono ?_;rintro e a ⟨rfl,A⟩;have c:ϛ w a:=bT N A;replace r:Ϛ (BS a (w+1) s y):=A1 r.o A;replace i:=cLz A i;replace j:=cLz A j;clear A N u;by_cases O:E=0
 rotate_left
 ·have ah:(E !=0)=true:=by simpa using O
  have f:Ϛ (E=R):=by show _=_;rw[<-d.o,if_pos O]
  go_wp2;go_ret;exact⟨Am f.o,c⟩
 subst O;rw[if_neg ϝ]at d;have F:=G.o _ _ r.o;have HQ:=m.o _ _ r.o;have u8:=r.o.2.2.2.2.2.2.2.2;obtain⟨g0,g1,g2⟩:=HQ;clear G m;by_cases S:tm<=M
 ·have f:Ϛ ((7:Int)=R):=by show _=_;rw[<-d.o,if_pos S]
  go_wp2
  go_region_held3 (λw'=>Δ w' (w+1+1) 1 (vI D)/\Δ w' (w+1+1) 2 (vI tm)/\Δ w' (w+1) k (vI M)) (first|go_keep|exact⟨i,j,F⟩) (first|(go_at_call 250;refine(t.o _).mono ?_;rintro e Q ⟨rfl,rfl⟩))
  all_goals
   go_wp2;go_ret;exact⟨Am f.o,by first|exact c|exact c.drew⟩
 ·rw[if_neg S]at d;by_cases H:s.seq=1099511627776
  ·have ae:(s.seq==1099511627776)=true:=by simpa using H
   have f:Ϛ ((2:Int)=R):=by show _=_;rw[<-d.o,if_pos (.inl H)]
   go_wp2
   go_region_held3 (λw'=>Δ w' (w+1+1) 1 (vI D)/\Δ w' (w+1+1) 2 (vI tm)/\Δ w' (w+1) k (vI M)) (first|go_keep|exact⟨i,j,F⟩) (first|(go_at_call 250;refine(t.o _).mono ?_;rintro e Q ⟨rfl,rfl⟩))
   all_goals
    go_wp2;go_ret;exact⟨Am f.o,by first|exact c|exact c.drew⟩
  ·have ae:(s.seq==1099511627776)=false:=by simpa using H
   by_cases T:q=4096
   ·subst T;have f:Ϛ ((2:Int)=R):=by show _=_;rw[<-d.o,if_pos (.inr rfl)]
    go_wp2
    go_region_held3 (λw'=>Δ w' (w+1+1) 1 (vI D)/\Δ w' (w+1+1) 2 (vI tm)/\Δ w' (w+1) k (vI M)) (first|go_keep|exact⟨i,j,F⟩) (first|(go_at_call 250;refine(t.o _).mono ?_;rintro e Q ⟨rfl,rfl⟩))
    all_goals
     go_wp2_with (first
      |(go_at_call 252;refine(K.o _).mono ?_;rintro e w3 ⟨rfl,rfl⟩)
      |(go_at_call 232;refine(g.o _ (by first|exact c|exact c.drew)).mono ?_;rintro e w4 ⟨rfl,C⟩))
     go_ret;exact⟨Am f.o,by first|exact bT c C|exact c.drew.trans (C.mono c.size)⟩
   ·have ag:((q:Int)==4096)=false:=by rw[beq_eq_false_iff_ne];omega
    have f:Ϛ ((0:Int)=R):=by show _=_;rw[<-d.o,if_neg (λk=>k.elim H T)]
    go_wp2
    go_region_held3 (λw'=>Δ w' (w+1+1) 1 (vI D)/\Δ w' (w+1+1) 2 (vI tm)/\Δ w' (w+1) k (vI M)) (first|go_keep|exact⟨i,j,F⟩) (first|(go_at_call 250;refine(t.o _).mono ?_;rintro e Q ⟨rfl,rfl⟩))
    all_goals
     go_wp2_with (first
      |(go_at_call 252;refine(K.o _).mono ?_;rintro e w3 ⟨rfl,rfl⟩)
      |(go_at_call 232;refine(g.o _ (by first|exact c|exact c.drew)).mono ?_;rintro e w4 ⟨rfl,C⟩))
     go_ret;exact⟨Am f.o,by first|exact bT c C|exact c.drew.trans (C.mono c.size)⟩
end jn
namespace jn
open vl bf
variable {w w' : Ϙ} {M nn : Nat} {l : List Int} {s : Int}
theorem Aau:Keyed Tryz.prog 3:=int_keyed underlying3
def Dz(w:World)(M nn:Nat)(l:List Int):Prop:=∃D:DataW Unit,w.ownsMap Tryz.prog 3 (plainElem (H:=Unit) Tryz.prog 3) M nn D/\∀s,pl.i64 s->D.atKey (.int .i64 s) (.lit (.int .i64 0))= .lit (.int .i64 (l.count s:Nat))
theorem PQ(w:Ϙ):Dz (w.alloc (.map #[] 0)) w.heap.size 0 []:=⟨_,World.ownsMap_made _ _ _ _,λs a=>by simp;rfl⟩
theorem Ta(h:Dz w M nn l):M<w.heap.size:=by
 obtain⟨D,a,_⟩:=h;exact a.lt
theorem JQ{a:Option Nat}(h:Dz w M nn l)(e:w.grownBy w' a)(f:some M≠a):Dz w' M nn l:=by
 obtain⟨D,c,d⟩:=h;exact⟨D,c.kept e f,d⟩
theorem Nz(h:Dz w M nn l)(i:w'.heap[M]? =w.heap[M]?):Dz w' M nn l:=by
 obtain⟨D,⟨c,a,g,F,f,e⟩,d⟩:=h;exact⟨D,⟨c,a,i.trans g,F,f,e⟩,d⟩
theorem BW(h:Dz w M nn l)(a:ϛ w w'):Dz w' M nn l:=Nz h (a.block M (Ta h))
theorem wfi(a:pl.i64 s):(Lit.int .i64 s).wf=true:=Lr a
theorem DY(h:Dz w M nn l)(d:pl.i64 s):(Instr.lookup 298 (.map (some M)) (.int .i64 s) false).run Tryz.prog w= .ok (.int .i64 (l.count s:Nat)) w:=by
 obtain⟨D,f,g⟩:=h;obtain⟨c,k,i,_⟩:=f.lookup_int Aau underlying298 underlying3 (Tryz.zeroValue3 w) (keyOf_int_mk underlying3 (wfi d));have j:=(g s d).symm.trans i;have e:∀a b:Int,(DataW.lit (Lit.int .i64 a):DataW Unit)= .lit (.int .i64 b)->a=b:=λa b h=>(Lit.int.inj (DataW.lit.inj h)).2;rw[k,e _ _ j]
theorem Ma(h:Dz w M nn l)(d:pl.i64 s)(i:nn<maxLen)(u:l.length<9223372036854775807):
 ∃w',(Instr.mapUpdate 298 (.map (some M)) (vI s) (vI ((l.count s:Nat)+1))).run Tryz.prog w= .ok () w'/\Dz w' M (nn+1) (l++[s])/\w.grownBy w' (some M):=by
 obtain⟨D,c,f⟩:=h;have r:=count_le_length (a:=s) (l:=l);obtain⟨w',m,j,g⟩:=c.update Aau underlying298 i (keyOf_int_mk underlying3 (wfi d)) (plainElem_int (H:=Unit) (a:=(l.count s:Nat)+1) underlying3 (Lr ⟨Ϝ,Ϝ⟩));refine⟨w',m,⟨_,j,λt q=>?_⟩,g⟩;by_cases e:t=s
 ·subst e;rw[atKey_put_same c.isMap (Aau.key (keyOf_int_mk underlying3 (wfi d)))];simp[count_append]
 ·rw[atKey_put_other (λk=>e (by injection k)),f t q];have:s≠t:=λk=>e k.symm;simp[count_append,count_singleton,this]
theorem IW(h:Dz w M nn l):∃o:Obj,w.heap[M]? =some o/\o.isCells=false:=by
 obtain⟨D,⟨d,c,a,_⟩,_⟩:=h;exact⟨_,a,rfl⟩
theorem Mb(l:List Int)(s:Int):(l++[s]).count s=l.count s+1:=by simp[count_append]
end jn
namespace jn
open vl bf
attribute [local go_sem] Oper.semAt_some
theorem Ia(p:pl.Pln)(x:pl.PA)(side:Int)(b:Buf)(y:BX)(w:Ϙ)(hw:pl.wfPlan p)(hp:pl.planAt w p x)(h:bufAt w b y)(ao:∀z∈Ab b,wfE z):
 η 171 #[pl.Aq p x,vI side,AY b y] w (θ w (.bool (Kt p side b))):=by
 have HB:=hqz h;have aa:Ϛ (ERs w (ems (y.m::y.rs)) (Ab b)):=Dl h;have HK:Ϛ (∀(r:List Cel) (n:Nat) (a:ϙ) (c:Nat) (I:Ϙ),n=r.length->ϛ w I->vl.rowAt w a r->Cb r->r.length<=χ->CT 214 #[pl.Aq p x,vI side,vS a n c] I (θ I (.tuple #[.string (pl.Ar p side r),.bool (pl.hasB p side r),vI (pl.Bg p side r)]))):=λr n a c I hn hb T h2 h3=>by
  subst hn;exact pl.Nv p x side a c r I hw (pl.Ag hp hb) (vl.Ac T hb) h2 h3
 obtain⟨L,hL⟩:=nM (Ab b);have am:Ϛ (∀z∈L,wfE z):=by rw[<-hL];exact ao
 unfold Kt;rw[hL]at aa⊢;clear hL h ao hw hp;obtain⟨R,hR⟩:=nM (L.all (GK p side));have al:=hqz hR;rw[hR];clear hR;obtain⟨t,v,⟨⟨f,g,m⟩,ml⟩,rs⟩:=y;obtain⟨q,a0,a1⟩:=b;unfold AY hdV;unfold pl.Aq at HK⊢;dsimp only at aa⊢;obtain⟨n,hn⟩:∃n,rs.length=n:=⟨_,rfl⟩;have HN:=hqz hn;rw[hn];clear hn;refine(callsIn_wide (n:=0)).1 ?_;refine callsIn_of_wp_marks func171 rfl trivial ?_ rfl;simp only[ntmps171,size_toArray,length_cons,length_nil,Nat.reduceAdd,Nat.reduceSub,Array.replicate_succ,Array.replicate_zero,push_toArray,append_toArray,nil_append,cons_append]
 gi_wp2_with (refine⟨trivial,rfl,?_⟩;gi_at_call 237;refine(callsIn_wide.2 (Hp _ _ _ rfl rfl rfl _)).mono ?_;rintro e w' ⟨rfl,rfl⟩)
 have V0:Bp (ξ (ξ (ξ (ξ (ξ w (Φ p x) 32) #[vI side] 3) (ν q f g m t n v) 36) #[ϋ] 4) (ν q f g m t n v) 36) w.heap.size p x:=by
  unfold Bp;refine⟨?_,?_,?_,?_,?_,?_,?_,?_,?_,?_,?_,?_,?_⟩<;>go_simp
 have V2:Δ (ξ (ξ (ξ (ξ (ξ w (Φ p x) 32) #[vI side] 3) (ν q f g m t n v) 36) #[ϋ] 4) (ν q f g m t n v) 36) (w+1) 0 (vI side):=Ϡ;have V3:Δ (ξ (ξ (ξ (ξ (ξ w (Φ p x) 32) #[vI side] 3) (ν q f g m t n v) 36) #[ϋ] 4) (ν q f g m t n v) 36) (w+1+1+1) 0 (.bool false):=Ϡ;have V4:Ξ (ξ (ξ (ξ (ξ (ξ w (Φ p x) 32) #[vI side] 3) (ν q f g m t n v) 36) #[ϋ] 4) (ν q f g m t n v) 36) (w+1+1+1) 0:=Ϡ;have V5:Δ (ξ (ξ (ξ (ξ (ξ w (Φ p x) 32) #[vI side] 3) (ν q f g m t n v) 36) #[ϋ] 4) (ν q f g m t n v) 36) (w+1+1+1+1) 0 (vI q):=Ϡ;have V6:Δ (ξ (ξ (ξ (ξ (ξ w (Φ p x) 32) #[vI side] 3) (ν q f g m t n v) 36) #[ϋ] 4) (ν q f g m t n v) 36) (w+1+1+1+1) 1 (vS f g m):=Ϡ;have V7:Δ (ξ (ξ (ξ (ξ (ξ w (Φ p x) 32) #[vI side] 3) (ν q f g m t n v) 36) #[ϋ] 4) (ν q f g m t n v) 36) (w+1+1+1+1) 2 (vS t n v):=Ϡ;have V8:ϛ w (ξ (ξ (ξ (ξ (ξ w (Φ p x) 32) #[vI side] 3) (ν q f g m t n v) 36) #[ϋ] 4) (ν q f g m t n v) 36):=by
  repeat (first|exact bR|(refine Below.alloc ?_ ϣ _))
 have V9:(((((w.alloc (.cells (Φ p x) 32)).alloc (.cells #[vI side] 3)).alloc (.cells (ν q f g m t n v) 36)).alloc (.cells #[ϋ] 4)).alloc (.cells (ν q f g m t n v) 36)).heap.size=w.heap.size+1+1+1+1+1:=Ϟ;generalize (((((w.alloc (.cells (Φ p x) 32)).alloc (.cells #[vI side] 3)).alloc (.cells (ν q f g m t n v) 36)).alloc (.cells #[ϋ] 4)).alloc (.cells (ν q f g m t n v) 36))=V at *;have ai:=F9 HB.o V8 (w.heap.size+1+1+1+1) ES V5 V6 (by rw[HN.o];exact V7) Af (λ_ _=>Af) (λ_ _ _ _=>trivial) (λ_ _ _ _=>trivial);dsimp only at ai;obtain⟨E,hE⟩:=nM (ems ((((f,g,m):Hdr),ml)::rs));rw[hE]at ai aa;clear hE;refine CM (gf:=276) (lb:=#[.pointer (some ⟨w+1+1+1+1,0,none⟩)]) rfl (enters_of func276 ϟ rfl) ai bR (λx Y=>by obtain⟨p,_,rfl⟩:=mem_map.1 Y;rfl) (λh k=>Ap.trans h k) (λW l o o' _ h ho=>Ap.put W l o o' h ho)
  (λi X=>(∀j,j<i->GK p side (L.getD j ϰ)=true)/\Ap ES V X/\Ξ X (w+1+1+1) 0/\ϛ w X) (λc X=>c= .ret/\false=R/\Δ X (w+1+1+1) 0 (.bool false)/\ϛ w X)
  (λi X X' aq H F G=>⟨H.1,H.2.1.grown F (λr e=>(G r e).2),(frozen_kept (H.2.1.cell Af V3) F (λr e=>(G r e).2)).trans H.2.2.1,C6 H.2.2.2 nR Ϝ F G⟩)
  (λc X X' aq H F G=>⟨H.1,H.2.1,cell_kept H.2.2.1 F (λr e=>(G r e).2),C6 H.2.2.2 nR Ϝ F G⟩)
  ⟨λj hj=>absurd hj (Nat.not_lt_zero j),Ap.refl _ _,V4,V8⟩
  (λi a' X=> ∃B,a'={tmps:=#[.agg #[vI p.kind,vI p.mode,vI p.low,vI p.high,vI p.size,vI p.limit,vS x.l p.left.length x.lc,vS x.r p.right.length x.rc,vS x.lk p.lkeys.length x.lkc,vS x.rk p.rkeys.length x.rkc,.bool p.grouped,vS x.g p.group.length x.gc,vS x.a p.aggs.length x.ac],vI side,.agg #[vI q,vS f g m,vS t n v],.pointer (some ⟨w,0,none⟩),.pointer (some ⟨w+1,0,none⟩),.pointer (some ⟨w+1+1,0,none⟩),.pointer (some ⟨w+1+1+1,0,none⟩),.pointer (some ⟨B,0,none⟩),undef,undef,undef,.agg #[vI q,vS f g m,vS t n v],.func (.func 276) #[] #[.pointer (some ⟨w+1+1+1+1,0,none⟩)],(E.getD i ϰ).val,undef,undef,undef,undef,undef,undef,undef,undef,undef,undef,undef,undef,undef,undef,undef,undef,undef,undef,undef,undef,undef],defers:=[]}/\ό X B (.string (E.getD i ϰ).key) (vI (E.getD i ϰ).time) (vI (E.getD i ϰ).seq) (hdV (E.getD i ϰ).row) (.bool (E.getD i ϰ).met))
  (λi a' u X X' aq H F G=>by
   obtain⟨B,T,h2,h3,h4,h5,h6⟩:=H;exact⟨B,T,cell_kept h2 F (λr e=>(G r e).2),cell_kept h3 F (λr e=>(G r e).2),cell_kept h4 F (λr e=>(G r e).2),cell_kept h5 F (λr e=>(G r e).2),cell_kept h6 F (λr e=>(G r e).2)⟩) ?assign ?body ?done ?stop
 case assign=>
  intro l' k z X K Y hi P;obtain⟨hk,ap⟩:=List.getElem?_eq_some_iff.1 Y;rw[lMp]at hk;rw[getElem_map]at ap;subst ap;have hd:E.getD k ϰ=E[k]:=by rw[gDe,gEe hk];rfl
  have J:=P;rw[hd]at J;clear P hd Y;obtain⟨⟨S,et,es,⟨r1,r2,r3⟩,em⟩,hz⟩:∃z,E[k]=z:=⟨_,rfl⟩;rw[hz]at J⊢;unfold EM.val hdV at J⊢;dsimp only at J⊢;obtain⟨j1,A,j3,C⟩:=hi
  gi_wp2
  have lX:w.heap.size+1+1+1<X.heap.size:=bLt _ _ (A.cell Af V3);exact J _ _ ((KeepsOthers.alloc _ _).from _) (Ap.alloc _ _) ⟨j1,A.trans (Ap.alloc _ _),Ϡ,C.alloc C.size _⟩ ⟨X.heap.size,rfl,Ϡ,Ϡ,Ϡ,Ϡ,Ϡ⟩
 case body=>
  intro l' i z a' X Y ay az ax ag;obtain⟨j1,A,j3,C⟩:=ax;obtain⟨B,ag,b0,b1,b2,b3,b4⟩:=ag;subst ag;obtain⟨hi,_⟩:=List.getElem?_eq_some_iff.1 Y;rw[lMp]at hi;have aw:=aa.o.1;have ad:=aa.o.2 i Ϝ;have ae:Ϛ (L.getD i ϰ∈L):=by show _∈_;rw[gDe,gEe Ϝ];simp
  have N:Ϛ (∀I,ϛ w I->CT 214 #[pl.Aq p x,vI side,hdV (E.getD i ϰ).row] I (θ I (.tuple #[.string (pl.Ar p side (L.getD i ϰ).row),.bool (pl.hasB p side (L.getD i ϰ).row),vI (pl.Bg p side (L.getD i ϰ).row)]))):=λI hb=>HK.o (L.getD i ϰ).row _ _ _ I ad.len hb ad.row (am.o _ ae.o).row (am.o _ ae.o).len;have ac:Ϛ ((E.getD i ϰ).key=(L.getD i ϰ).key):=ad.key;obtain⟨Z,aj⟩:=nM (pl.Ar p side (L.getD i ϰ).row);obtain⟨an,ah⟩:=nM (pl.hasB p side (L.getD i ϰ).row);obtain⟨re,ak⟩:=nM (pl.Bg p side (L.getD i ϰ).row);have ab:Ϛ (GK p side (L.getD i ϰ)=(decide (re=0)&&an&&decide (Z=(L.getD i ϰ).key))):=by
   show _=_;unfold GK;rw[aj,ah,ak]
  rw[aj,ah,ak]at N;clear aj ah ak;obtain⟨⟨S,et,es,⟨r1,r2,r3⟩,em⟩,hz⟩:∃z,E.getD i ϰ=z:=⟨_,rfl⟩;rw[hz]at N b0 b1 b2 b3 b4 ac⊢;unfold hdV at N b3;dsimp only at N b0 b1 b2 b3 b4 ac;rw[<-ac.o]at ab;have O:=A.cell Af V3;have c2:=A.cell Af V2;have c0:Bp X w p x:=by
   obtain⟨v0,v1,v2,v3,v4,v5,v6,v7,v8,v9,ar,au,av⟩:=V0;exact⟨A.cell Af v0,A.cell Af v1,A.cell Af v2,A.cell Af v3,A.cell Af v4,A.cell Af v5,A.cell Af v6,A.cell Af v7,A.cell Af v8,A.cell Af v9,A.cell Af ar,A.cell Af au,A.cell Af av⟩
  obtain⟨v0,v1,v2,v3,v4,v5,v6,v7,v8,v9,ar,au,av⟩:=c0;have lX:w.heap.size+1+1+1<X.heap.size:=bLt _ _ O;have af:Ϛ (GK p side (L.getD i ϰ)=false->false=R):=λhb=>by
   rw[<-al.o]
   symm
   rw[all_eq_false];exact⟨_,ae.o,by rw[hb];decide⟩
  clear hz ad aw Y ac;by_cases T:re=0
  ·subst T
   cases an with
   |true=>
    by_cases t1:Z.toList=S.toList
    ·have hY:Ϛ (GK p side (L.getD i ϰ)=true):=by
      show _=_;rw[ab.o];have e1:Z=S:=by have:=bytes_beq Z S;rw[t1]at this;simpa using this.symm
      simp[e1]
     gi_wp2_with (refine⟨trivial,rfl,?_⟩;gi_at_call 214;refine(CallsIn.inRound l' (callsIn_wide.2 (N.o _ C))).mono ?_;rintro e w2 ⟨rfl,d⟩;have k0:=cLz d b0)
     exact⟨BA d,bf.BV d nR,λj hj=>by
      rcases Nat.lt_succ_iff_lt_or_eq.1 hj with h|h
      ·exact j1 j h
      ·rw[h];exact hY.o,A.trans (bf.BV d nR),by rw[d.frozen (p:=⟨w+1+1+1,0,none⟩) lX];exact j3,bT C d⟩
    ·have Q:Ϛ (false=R):=af.o (by
      rw[ab.o];have e1:Z≠S:=λe=>t1 (by rw[e]);simp[e1])
     have t2:(Z.toList==S.toList)=false:=by simpa using t1
     have t3:(Z.toList !=S.toList)=true:=by simpa using t1
     gi_wp2_with (refine⟨trivial,rfl,?_⟩;gi_at_call 214;refine(CallsIn.inRound l' (callsIn_wide.2 (N.o _ C))).mono ?_;rintro e w2 ⟨rfl,d⟩;have k0:=cLz d b0;have k3:=cLz d O;have kf:Ξ w2 (w+1+1+1) 0:=(by rw[d.frozen (p:=⟨w+1+1+1,0,none⟩) lX];exact j3))
     exact⟨(BA d).trans ((KeepsOthers.setCell _ _ _).from _),rfl,Q.o,World.cell?_setCell_same _ _ _ k3,(bT C d).setCell Ϣ _⟩
   |false=>
    have Q:Ϛ (false=R):=af.o (by rw[ab.o];simp)
    gi_wp2_with (refine⟨trivial,rfl,?_⟩;gi_at_call 214;refine(CallsIn.inRound l' (callsIn_wide.2 (N.o _ C))).mono ?_;rintro e w2 ⟨rfl,d⟩;have k0:=cLz d b0;have k3:=cLz d O;have kf:Ξ w2 (w+1+1+1) 0:=(by rw[d.frozen (p:=⟨w+1+1+1,0,none⟩) lX];exact j3))
    exact⟨(BA d).trans ((KeepsOthers.setCell _ _ _).from _),rfl,Q.o,World.cell?_setCell_same _ _ _ k3,(bT C d).setCell Ϣ _⟩
  ·have Q:Ϛ (false=R):=af.o (by rw[ab.o];simp[T]);have h2:(re !=0)=true:=by simpa using T
   gi_wp2_with (refine⟨trivial,rfl,?_⟩;gi_at_call 214;refine(CallsIn.inRound l' (callsIn_wide.2 (N.o _ C))).mono ?_;rintro e w2 ⟨rfl,d⟩;have k0:=cLz d b0;have k3:=cLz d O;have kf:Ξ w2 (w+1+1+1) 0:=(by rw[d.frozen (p:=⟨w+1+1+1,0,none⟩) lX];exact j3))
   exact⟨(BA d).trans ((KeepsOthers.setCell _ _ _).from _),rfl,Q.o,World.cell?_setCell_same _ _ _ k3,(bT C d).setCell Ϣ _⟩
 case done=>
  rintro D X hD ⟨j1,A,j3,C⟩ P;have O:=A.cell Af V3;have Q:Ϛ (true=R):=by
   show _=_;rw[<-al.o]
   symm
   rw[lMp]at j1;refine all_eq_true.2 (λz hz=>?_);obtain⟨j,hj,rfl⟩:=getElem_of_mem hz;have:=j1 j (by rw[aa.o.1];exact hj);rw[gDe,gEe hj]at this;exact this
  gi_wp2
  have J:(X.setCell ⟨w+1+1+1,0,none⟩ (.bool true)).heap[D]? =some (.deferred (some [])):=(heap_setCell_other _ _ _ _ Ϣ).trans P;refine⟨Ϟ,.inl ⟨_,_,rfl,run_takeDeferred J,?_⟩⟩;have y3:=Cj (World.cell?_setCell_same _ _ (.bool true) O) J rfl (.deferred none);exact⟨.bool true,(by simp[results,results171,go_sem,y3]),Aa Q.o,Ch (C.setCell Ϣ _) Ϝ J _⟩
 case stop=>
  rintro D c X hD ⟨rfl,hE,O,C⟩ P
  gi_wp2
  refine⟨Ϟ,.inl ⟨_,_,rfl,run_takeDeferred P,?_⟩⟩;have y3:=Cj O P rfl (.deferred none);exact⟨.bool false,(by simp[results,results171,go_sem,y3]),Aa hE,Ch C Ϝ P _⟩
end jn
end Go.Proofs.YtfkihidbnfkbaaaGreatDoor
