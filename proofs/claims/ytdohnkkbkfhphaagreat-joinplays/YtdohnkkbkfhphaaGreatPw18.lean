import Derived.Test.YtdohnkkbkfhphaaGreatPw8
import Derived.Test.YtdohnkkbkfhphaaGreatPw15
set_option linter.all false
set_option maxHeartbeats 8000000
set_option maxRecDepth 100000
open Go.ChangeShapes Go.WideShapes Go.ChangeAt Go.RowKit Go.Maps Go.WideMaps Go.Shelf List
open Inhabited renaming default->ϰ
namespace Go.Proofs.YtdohnkkbkfhphaaGreat
open Go.Proofs.Tryz
namespace jn
open vl
variable {U U' W W' w w' : ϛ} {B b n o : Nat} {p : pl.Pln} {x : pl.PA}
structure Jn where
 L:bf.Buf
 R:bf.Buf
 lm:Int
 rm:Int
 seq:Int
structure JX where
 l:bf.BX
 r:bf.BX
def joinV(s:Jn)(x:JX):Value:=.agg #[vI s.L.lim,bf.hdV x.l.m.1,vS x.l.ra x.l.rs.length x.l.rc,vI s.R.lim,bf.hdV x.r.m.1,vS x.r.ra x.r.rs.length x.r.rc,vI s.lm,vI s.rm,vI s.seq]
structure joinAt(w:World)(s:Jn)(x:JX):Prop where
 l:bf.bufAt w s.L x.l
 r:bf.bufAt w s.R x.r
theorem joinAt.below{s:Jn}{x:JX}(h:joinAt w s x)(a:Ϟ w w'):joinAt w' s x:=⟨bf.Ag h.l a,bf.Ag h.r a⟩
structure wfB(b:bf.Buf):Prop where
 ents:∀y∈bf.Aa b,bf.wfE y/\bf.wfP (bf.Az y)
 size:(bf.Aa b).length<=4611686018427387904
structure wfJ(s:Jn):Prop where
 l:wfB s.L
 r:wfB s.R
 seq:pl.i64 s.seq
def bufOf(s:Jn)(side:Int):bf.Buf:=if side=2 then s.R else s.L
def Bl(x:JX)(side:Int):bf.BX:=if side=2 then x.r else x.l
def Bs(s:Jn)(side:Int):Int:=if side=2 then s.rm else s.lm
theorem wfJ.of{s:Jn}(h:wfJ s)(side:Int):wfB (bufOf s side):=by
 unfold bufOf;split
 ·exact h.r
 ·exact h.l
theorem joinAt.of{s:Jn}{x:JX}(h:joinAt w s x)(side:Int):bf.bufAt w (bufOf s side) (Bl x side):=by
 unfold bufOf Bl;split
 ·exact h.r
 ·exact h.l
structure Ev where
 kind:Int
 side:Int
 time:Int
 row:List Cel
def evV(v:Ev)(ra:Option Addr)(rc:Nat):Value:=.agg #[vI v.kind,vI v.side,vI v.time,vS ra v.row.length rc]
structure evAt(w:World)(v:Ev)(ra:Option Addr):Prop where
 row:vl.rowAt w ra v.row
 wf:Cj v.row
 len:v.row.length<=χ
theorem evAt.below{v:Ev}{a:Ϝ}(h:evAt w v a)(c:Ϟ w w'):evAt w' v a:=⟨vl.Ac h.row c,h.wf,h.len⟩
def noMark:Int:= -1099511627777
def CW(m:Int):Bool:=decide (m=noMark)||tm.Bc m
def Eg(s:Jn):Bool:=CW s.lm&&CW s.rm&&bf.A8 s.seq 0 1099511627776
def EC(n:Int)(l:List bf.Ent):Prop:=(∀y∈l,y.seq<n)/\(l.map (·.seq)).Nodup
instance(n:Int)(l:List bf.Ent):Decidable (EC n l):=by unfold EC;infer_instance
def Ji(s:Jn):Bool:=decide (EC s.seq (bf.Aa s.L++bf.Aa s.R))
def EW(p:pl.Pln)(side:Int)(y:bf.Ent):Bool:=decide (pl.Be p side y.row=0)&&pl.hasB p side y.row&&decide (pl.Ap p side y.row=y.key)
def Hr(p:pl.Pln)(side:Int)(b:bf.Buf):Bool:=(bf.Aa b).all (EW p side)
def C4(p:pl.Pln)(s:Jn):Bool:=decide (s.L.lim=p.limit)&&decide (s.R.lim=p.limit)&&Ji s&&Hr p 1 s.L&&Hr p 2 s.R
noncomputable def B6(p:pl.Pln)(s:Jn):Int:=
 if pl.Al p≠0 then pl.Al p else if bf.Dy s.L≠0 then bf.Dy s.L else if bf.Dy s.R≠0 then bf.Dy s.R else if Eg s=false then 3 else if C4 p s=false then 1 else 0
def AB(p:pl.Pln)(s:Jn)(v:Ev):Int:=
 if¬(v.kind=1\/v.kind=2)\/pl.Bz v.side=false then 4 else if tm.Bc v.time=false then 3
 else if v.kind=2 then(if 0<v.row.length then 1 else if v.time<Bs s v.side then 8 else 0)
 else if pl.Be p v.side v.row≠0 then pl.Be p v.side v.row else if v.time<=Bs s v.side then 7 else if s.seq=1099511627776\/(bf.Aa (bufOf s v.side)).length=4096 then 2 else 0
def boxP(U:World)(b:Nat)(p:pl.Pln)(x:pl.PA):Prop:=ώ U b (vI p.kind) (vI p.mode) (vI p.low) (vI p.high) (vI p.size) (vI p.limit) (vS x.l p.left.length x.lc) (vS x.r p.right.length x.rc) (vS x.lk p.lkeys.length x.lkc) (vS x.rk p.rkeys.length x.rkc) (.bool p.grouped) (vS x.g p.group.length x.gc) (vS x.a p.aggs.length x.ac)
theorem BL(w:ϛ)(p:pl.Pln)(x:pl.PA)(t:TypeId):boxP (ξ w (Φ p x) t) w.heap.size p x:=by
 unfold boxP;refine⟨?_,?_,?_,?_,?_,?_,?_,?_,?_,?_,?_,?_,?_⟩<;>go_simp
theorem Ad(h:boxP U b p x)(a:Ϟ U U'):boxP U' b p x:=by
 obtain⟨c,d,i,j,k,m,q,r,t,u,e,f,g⟩:=h;exact⟨cLz a c,cLz a d,cLz a i,cLz a j,cLz a k,cLz a m,cLz a q,cLz a r,cLz a t,cLz a u,cLz a e,cLz a f,cLz a g⟩
theorem Qb(h:boxP U b p x):b<U.heap.size:=bLt _ _ h.1
def AK(U:World)(b:Nat)(s:Jn)(y:JX):Prop:=ϒ U b (vI s.L.lim) (vS y.l.m.1.1 y.l.m.1.2.1 y.l.m.1.2.2) (vS y.l.ra y.l.rs.length y.l.rc) (vI s.R.lim) (vS y.r.m.1.1 y.r.m.1.2.1 y.r.m.1.2.2) (vS y.r.ra y.r.rs.length y.r.rc) (vI s.lm) (vI s.rm) (vI s.seq)
theorem AL(w:ϛ)(s:Jn)(y:JX)(t:TypeId):AK (ξ w #[vI s.L.lim,vS y.l.m.1.1 y.l.m.1.2.1 y.l.m.1.2.2,vS y.l.ra y.l.rs.length y.l.rc,vI s.R.lim,vS y.r.m.1.1 y.r.m.1.2.1 y.r.m.1.2.2,vS y.r.ra y.r.rs.length y.r.rc,vI s.lm,vI s.rm,vI s.seq] t) w.heap.size s y:=by
 unfold AK;refine⟨?_,?_,?_,?_,?_,?_,?_,?_,?_⟩<;>go_simp
theorem Ah{s:Jn}{y:JX}(h:AK U b s y)(a:Ϟ U U'):AK U' b s y:=by
 obtain⟨c,d,e,f,g,i,j,k,m⟩:=h;exact⟨cLz a c,cLz a d,cLz a e,cLz a f,cLz a g,cLz a i,cLz a j,cLz a k,cLz a m⟩
theorem Vw{s:Jn}{y:JX}(h:AK U b s y):b<U.heap.size:=bLt _ _ h.1
def noJ(W:World)(B:Nat):Prop:=W.there B 0 9
theorem EP(w:ϛ):noJ (ξ w #[ω,ψ,ψ,ω,ψ,ψ,ω,ω,ω] 31) w.heap.size:=by
 intro j a
 match j,a with
 |0,_=>exact⟨ϣ,ϣ⟩
 |1,_=>exact⟨ϣ,ϣ⟩
 |2,_=>exact⟨ϣ,ϣ⟩
 |3,_=>exact⟨ϣ,ϣ⟩
 |4,_=>exact⟨ϣ,ϣ⟩
 |5,_=>exact⟨ϣ,ϣ⟩
 |6,_=>exact⟨ϣ,ϣ⟩
 |7,_=>exact⟨ϣ,ϣ⟩
 |8,_=>exact⟨ϣ,ϣ⟩
theorem Zd(h:W.there B o n)(a:0<n):B<W.heap.size:=by
 obtain⟨u,c⟩:=Option.isSome_iff_exists.1 (h 0 a).1;exact bLt _ _ c
theorem Cu(h:W.there B o n)(a:Ϟ W W'):W'.there B o n:=λj c=>by
 obtain⟨u,d⟩:=Option.isSome_iff_exists.1 (h j c).1;exact⟨by rw[cLz a d];rfl,(a.frozen (p:=⟨B,o+j,none⟩) (bLt _ _ d)).trans (h j c).2⟩
theorem Ay(h:noJ W B)(a:Ϟ W W'):noJ W' B:=Cu h a
theorem TI(h:noJ W B):B<W.heap.size:=Zd h Ϡ
theorem below_setCells{k B:Nat}{w:ϛ}(a:k<=B):∀(l:List Value) (o:Nat) (W:ϛ),Below k w W->Below k w (W.setCells B o l)
 |[],_,_,h=>h
 |v::l,o,W,h=>below_setCells a l (o+1) _ (h.setCell a v)
theorem BU:(Tryz.prog.info? 31).map (·.size)=some 9:=Ϣ
theorem CX(h:noJ W B){l:List Value}(a:l.length=9):(W.setCells B 0 l).rangeAt B 0 l:=World.rangeAt_setCells_same W B 0 l (by rw[a];exact h)
def jx0:JX:=⟨⟨none,0,((none,0,0),[]),[]⟩,⟨none,0,((none,0,0),[]),[]⟩⟩
def j0:Jn:=⟨⟨0,[],[]⟩,⟨0,[],[]⟩,0,0,0⟩
theorem A0(s:Jn)(y:JX):joinV s y= .agg #[vI s.L.lim,vS y.l.m.1.1 y.l.m.1.2.1 y.l.m.1.2.2,vS y.l.ra y.l.rs.length y.l.rc,vI s.R.lim,vS y.r.m.1.1 y.r.m.1.2.1 y.r.m.1.2.2,vS y.r.ra y.r.rs.length y.r.rc,vI s.lm,vI s.rm,vI s.seq]:=rfl
end jn
def Θ(v:jn.Ev)(a:Option Addr)(c:Nat):Mmz (#[.int .i64 v.kind,.int .i64 v.side,.int .i64 v.time,.slice a v.row.length c]:Array Value):=⟨⟩
def Ψ(s:jn.Jn)(y:jn.JX):Mmz (#[.int .i64 s.L.lim,.slice y.l.m.1.1 y.l.m.1.2.1 y.l.m.1.2.2,.slice y.l.ra y.l.rs.length y.l.rc,.int .i64 s.R.lim,.slice y.r.m.1.1 y.r.m.1.2.1 y.r.m.1.2.2,.slice y.r.ra y.r.rs.length y.r.rc,.int .i64 s.lm,.int .i64 s.rm,.int .i64 s.seq]:Array Value):=⟨⟩
def Γ(s:jn.Jn)(y:jn.JX):Mmz ([.int .i64 s.L.lim,.slice y.l.m.1.1 y.l.m.1.2.1 y.l.m.1.2.2,.slice y.l.ra y.l.rs.length y.l.rc,.int .i64 s.R.lim,.slice y.r.m.1.1 y.r.m.1.2.1 y.r.m.1.2.2,.slice y.r.ra y.r.rs.length y.r.rc,.int .i64 s.lm,.int .i64 s.rm,.int .i64 s.seq]:List Value):=⟨⟩
namespace jn
open vl
attribute [local go_sem] Oper.semAt_some
variable {U : ϛ} {b : Nat}
def BC(side:Int):Nat:=if side=2 then 7 else 6
def A1(side:Int):Nat:=if side=2 then 3 else 0
theorem MP(b:Nat)(side:Int)(w:ϛ):η 143 #[μ b,vI side] w λe w'=>e= .returned (.pointer (some ⟨b,BC side,none⟩))/\w'=w:=by
 unfold BC;by_cases h:side=2
 ·subst h;go_enter func143,ntmps143;go_wp2;go_ret;exact⟨rfl,rfl⟩
 ·have a:(side==2)=false:=by simpa using h
  rw[if_neg h];go_enter func143,ntmps143;go_wp2;go_ret;exact⟨rfl,rfl⟩
theorem Qc(b:Nat)(side:Int)(w:ϛ):η 144 #[μ b,vI side] w λe w'=>e= .returned (.pointer (some ⟨b,A1 side,none⟩))/\w'=w:=by
 unfold A1;by_cases h:side=2
 ·subst h;go_enter func144,ntmps144;go_wp2;go_ret;exact⟨rfl,rfl⟩
 ·have a:(side==2)=false:=by simpa using h
  rw[if_neg h];go_enter func144,ntmps144;go_wp2;go_ret;exact⟨rfl,rfl⟩
theorem OQ{s:Jn}{y:JX}(h:AK U b s y)(side:Int):Δ U b (BC side) (vI (Bs s side)):=by
 obtain⟨u0,u1,u2,u3,u4,u5,u6,u7,u8⟩:=h;unfold BC Bs;split
 ·exact u7
 ·exact u6
def IC(s:Jn)(v:Ev):Int:=if 0<v.row.length then 1 else if v.time<Bs s v.side then 8 else 0
theorem Oq(s:Jn)(y:JX)(v:Ev)(z:Ϝ)(A:Nat)(w:ϛ):
 η 89 #[joinV s y,evV v z A] w (θ w (vI (IC s v))):=by
 obtain⟨R,r⟩:=nM (IC s v);have c:=hV0 r;rw[r];clear r;unfold IC at c;have q:ϝ (∀m,CT 143 #[μ w,vI v.side] m λe w'=>e= .returned (.pointer (some ⟨w,BC v.side,none⟩))/\w'=m):=λm=>MP _ _ m;have j:ϝ (∀(U:ϛ) (b:Nat),AK U b s y->Δ U b (BC v.side) (vI (Bs s v.side))):=λU b h=>OQ h v.side;obtain⟨k,F⟩:=nM (BC v.side);obtain⟨M,E⟩:=nM (Bs s v.side);rw[F]at q j;rw[E]at j c;clear F E;rw[A0];unfold evV;obtain⟨H,f,tm,J⟩:=v;dsimp only at *;obtain⟨n,G⟩:=nM J.length;rw[G]at c⊢;clear G;have a:ϝ (Ϟ w (ξ (ξ w (Ψ s y) 31) #[vI H,vI f,vI tm,vS z n A] 43)):=Ϫ.alloc ϡ _;have i:=j.o _ _ (Ah (AL w s y 31) (bR.alloc nR (.cells #[vI H,vI f,vI tm,vS z n A] 43)));clear j;go_enter func89,ntmps89;by_cases C:0<n
 ·have I:(0:Int)<(n:Int):=ϟ;have g:ϝ ((1:Int)=R):=by show _=_;rw[<-c.o,if_pos C]
  go_wp2;go_ret;exact⟨Af g.o,a.o⟩
 ·have I:¬(0:Int)<(n:Int):=ϟ;rw[if_neg C]at c;by_cases D:tm<M
  ·have g:ϝ ((8:Int)=R):=by show _=_;rw[<-c.o,if_pos D]
   go_wp2;generalize d:(World.alloc (World.alloc w _) _)=V at i a⊢;have t:Δ V (w+1) 1 (vI f):=by subst d;go_simp
   have u:Δ V (w+1) 2 (vI tm):=by subst d;go_simp
   clear d
   go_region_held3 (λw'=>Δ w' (w+1) 1 (vI f)/\Δ w' (w+1) 2 (vI tm)/\Δ w' w k (vI M)) (first|go_keep|exact⟨t,u,i⟩) (first|(go_at_call 143;refine(q.o _).mono ?_;rintro e K ⟨rfl,rfl⟩))
   all_goals
    go_wp2;go_ret;exact⟨Af g.o,by first|exact a.o|exact a.o.drew⟩
  ·have g:ϝ ((0:Int)=R):=by show _=_;rw[<-c.o,if_neg D]
   go_wp2;generalize d:(World.alloc (World.alloc w _) _)=V at i a⊢;have t:Δ V (w+1) 1 (vI f):=by subst d;go_simp
   have u:Δ V (w+1) 2 (vI tm):=by subst d;go_simp
   clear d
   go_region_held3 (λw'=>Δ w' (w+1) 1 (vI f)/\Δ w' (w+1) 2 (vI tm)/\Δ w' w k (vI M)) (first|go_keep|exact⟨t,u,i⟩) (first|(go_at_call 143;refine(q.o _).mono ?_;rintro e K ⟨rfl,rfl⟩))
   all_goals
    go_wp2;go_ret;exact⟨Af g.o,by first|exact a.o|exact a.o.drew⟩
theorem Qd{s:Jn}{y:JX}(h:AK U b s y)(side:Int):Δ U b (A1 side) (vI (bufOf s side).lim)/\Δ U b (A1 side+1) (vS (Bl y side).m.1.1 (Bl y side).m.1.2.1 (Bl y side).m.1.2.2)/\Δ U b (A1 side+2) (vS (Bl y side).ra (Bl y side).rs.length (Bl y side).rc):=by
 obtain⟨u0,u1,u2,u3,u4,u5,u6,u7,u8⟩:=h;unfold A1 bufOf Bl;split
 ·exact⟨u3,u4,u5⟩
 ·exact⟨u0,u1,u2⟩
def Gz(p:pl.Pln)(s:Jn)(v:Ev):Int:=if pl.Be p v.side v.row≠0 then pl.Be p v.side v.row else if v.time<=Bs s v.side then 7 else if s.seq=1099511627776\/(bf.Aa (bufOf s v.side)).length=4096 then 2 else 0
theorem Qe(p:pl.Pln)(x:pl.PA)(s:Jn)(y:JX)(v:Ev)(P:Ϝ)(rc:Nat)(w:ϛ)(hw:pl.wfPlan p)(hp:pl.planAt w p x)(h:joinAt w s y)(ac:wfJ s)(J:evAt w v P):
 η 90 #[pl.Ak p x,joinV s y,evV v P rc] w (θ w (vI (Gz p s v))):=by
 have u:=hIz (λ(a:ϛ) (I:Ϟ w a)=>pl.Wd p x v.side P rc v.row a hw (pl.Aj hp I) (vl.Ac J.row I) J.wf J.len);have t:ϝ (∀a,CT 143 #[μ (w+1),vI v.side] a λe w'=>e= .returned (.pointer (some ⟨w+1,BC v.side,none⟩))/\w'=a):=λa=>MP _ _ a;have K:ϝ (∀a,CT 144 #[μ (w+1),vI v.side] a λe w'=>e= .returned (.pointer (some ⟨w+1,A1 v.side,none⟩))/\w'=a):=λa=>Qc _ _ a;have g:ϝ (∀a,Ϟ w a->CT 135 #[bf.AF (bufOf s v.side) (Bl y v.side)] a (θ a (vI ((bf.Aa (bufOf s v.side)).length:Nat)))):=λa I=>bf.Nx _ _ a (bf.Ag (h.of v.side) I) (ac.of v.side).size;have G:ϝ (∀(U:ϛ) (b:Nat),AK U b s y->Δ U b (BC v.side) (vI (Bs s v.side))):=λU b h=>OQ h v.side;have m:ϝ (∀(U:ϛ) (b:Nat),AK U b s y->Δ U b (A1 v.side) (vI (bufOf s v.side).lim)/\Δ U b (A1 v.side+1) (vS (Bl y v.side).m.1.1 (Bl y v.side).m.1.2.1 (Bl y v.side).m.1.2.2)/\Δ U b (A1 v.side+2) (vS (Bl y v.side).ra (Bl y v.side).rs.length (Bl y v.side).rc)):=λU b h=>Qd h v.side;obtain⟨R,L⟩:=nM (Gz p s v);have d:=hV0 L;rw[L];clear L hw hp h ac J;unfold Gz at d;obtain⟨k,hk⟩:=nM (BC v.side);obtain⟨M,Y⟩:=nM (Bs s v.side);obtain⟨kb,ab⟩:=nM (A1 v.side);obtain⟨E,X⟩:=nM (pl.Be p v.side v.row);obtain⟨q,hq⟩:=nM ((bf.Aa (bufOf s v.side)).length);obtain⟨bb,Z⟩:=nM (bufOf s v.side);obtain⟨bx,aa⟩:=nM (Bl y v.side);rw[hk]at t G;rw[Y]at G d;rw[ab]at K m;rw[X]at u d;rw[hq]at g d;rw[Z,aa]at g m;clear hk Y ab X hq Z aa;unfold pl.Ak at u⊢;unfold bf.AF bf.hdV at g;rw[A0];unfold evV;obtain⟨kd,D,tm,af⟩:=v;dsimp only at *;obtain⟨n,hn⟩:=nM af.length;rw[hn]at u⊢;clear hn;obtain⟨bl,bm,br⟩:=bb;obtain⟨xa,xc,⟨⟨x1,x2,x3⟩,xl⟩,xs⟩:=bx;dsimp only at *;obtain⟨xn,ad⟩:=nM xs.length;rw[ad]at g m;clear ad;go_enter func90,ntmps90;go_wp2_with fail;generalize z:(World.alloc (World.alloc (World.alloc w _) _) _)=V;have N:Ϟ w V:=by rw[<-z];exact(Ϫ.alloc ϡ _).alloc Ϥ _
 have r:ϝ (AK V (w+1) s y):=by
  subst z;have:=AL (ξ w (Φ p x) 25) s y 31;rw[World.size_alloc]at this;exact Ah this Ϫ
 have i:Δ V (w+1+1) 1 (vI D):=by subst z;go_simp
 have j:Δ V (w+1+1) 2 (vI tm):=by subst z;go_simp
 clear z;refine(u.o _ N).mono ?_;rintro e a ⟨rfl,A⟩;have c:Ϟ w a:=bT N A;replace r:ϝ (AK a (w+1) s y):=Ah r.o A;replace i:=cLz A i;replace j:=cLz A j;clear A N u;by_cases O:E=0
 rotate_left
 ·have ah:(E !=0)=true:=by simpa using O
  have f:ϝ (E=R):=by show _=_;rw[<-d.o,if_pos O]
  go_wp2;go_ret;exact⟨Af f.o,c⟩
 subst O;rw[if_neg Ϡ]at d;have F:=G.o _ _ r.o;have HQ:=m.o _ _ r.o;have u8:=r.o.2.2.2.2.2.2.2.2;obtain⟨g0,g1,g2⟩:=HQ;clear G m;by_cases S:tm<=M
 ·have f:ϝ ((7:Int)=R):=by show _=_;rw[<-d.o,if_pos S]
  go_wp2
  go_region_held3 (λw'=>Δ w' (w+1+1) 1 (vI D)/\Δ w' (w+1+1) 2 (vI tm)/\Δ w' (w+1) k (vI M)) (first|go_keep|exact⟨i,j,F⟩) (first|(go_at_call 143;refine(t.o _).mono ?_;rintro e Q ⟨rfl,rfl⟩))
  all_goals
   go_wp2;go_ret;exact⟨Af f.o,by first|exact c|exact c.drew⟩
 ·rw[if_neg S]at d;by_cases H:s.seq=1099511627776
  ·have ae:(s.seq==1099511627776)=true:=by simpa using H
   have f:ϝ ((2:Int)=R):=by show _=_;rw[<-d.o,if_pos (.inl H)]
   go_wp2
   go_region_held3 (λw'=>Δ w' (w+1+1) 1 (vI D)/\Δ w' (w+1+1) 2 (vI tm)/\Δ w' (w+1) k (vI M)) (first|go_keep|exact⟨i,j,F⟩) (first|(go_at_call 143;refine(t.o _).mono ?_;rintro e Q ⟨rfl,rfl⟩))
   all_goals
    go_wp2;go_ret;exact⟨Af f.o,by first|exact c|exact c.drew⟩
  ·have ae:(s.seq==1099511627776)=false:=by simpa using H
   by_cases T:q=4096
   ·subst T;have f:ϝ ((2:Int)=R):=by show _=_;rw[<-d.o,if_pos (.inr rfl)]
    go_wp2
    go_region_held3 (λw'=>Δ w' (w+1+1) 1 (vI D)/\Δ w' (w+1+1) 2 (vI tm)/\Δ w' (w+1) k (vI M)) (first|go_keep|exact⟨i,j,F⟩) (first|(go_at_call 143;refine(t.o _).mono ?_;rintro e Q ⟨rfl,rfl⟩))
    all_goals
     go_wp2_with (first
      |(go_at_call 144;refine(K.o _).mono ?_;rintro e w3 ⟨rfl,rfl⟩)
      |(go_at_call 135;refine(g.o _ (by first|exact c|exact c.drew)).mono ?_;rintro e w4 ⟨rfl,C⟩))
     go_ret;exact⟨Af f.o,by first|exact bT c C|exact c.drew.trans (C.mono c.size)⟩
   ·have ag:((q:Int)==4096)=false:=by rw[beq_eq_false_iff_ne];omega
    have f:ϝ ((0:Int)=R):=by show _=_;rw[<-d.o,if_neg (λk=>k.elim H T)]
    go_wp2
    go_region_held3 (λw'=>Δ w' (w+1+1) 1 (vI D)/\Δ w' (w+1+1) 2 (vI tm)/\Δ w' (w+1) k (vI M)) (first|go_keep|exact⟨i,j,F⟩) (first|(go_at_call 143;refine(t.o _).mono ?_;rintro e Q ⟨rfl,rfl⟩))
    all_goals
     go_wp2_with (first
      |(go_at_call 144;refine(K.o _).mono ?_;rintro e w3 ⟨rfl,rfl⟩)
      |(go_at_call 135;refine(g.o _ (by first|exact c|exact c.drew)).mono ?_;rintro e w4 ⟨rfl,C⟩))
     go_ret;exact⟨Af f.o,by first|exact bT c C|exact c.drew.trans (C.mono c.size)⟩
end jn
namespace jn
open vl bf
variable {w w' : ϛ} {M nn : Nat} {l : List Int} {s : Int}
theorem AcB:Keyed Tryz.prog 3:=int_keyed underlying3
def Eu(w:World)(M nn:Nat)(l:List Int):Prop:=∃D:DataW Unit,w.ownsMap Tryz.prog 3 (plainElem (H:=Unit) Tryz.prog 3) M nn D/\∀s,pl.i64 s->D.atKey (.int .i64 s) (.lit (.int .i64 0))= .lit (.int .i64 (l.count s:Nat))
theorem Rx(w:ϛ):Eu (w.alloc (.map #[] 0)) w.heap.size 0 []:=⟨_,World.ownsMap_made _ _ _ _,λs a=>by simp;rfl⟩
theorem Vx(h:Eu w M nn l):M<w.heap.size:=by
 obtain⟨D,a,_⟩:=h;exact a.lt
theorem Ln{row:Option Nat}(h:Eu w M nn l)(d:w.grownBy w' row)(e:some M≠row):Eu w' M nn l:=by
 obtain⟨D,a,c⟩:=h;exact⟨D,a.kept d e,c⟩
theorem OS(h:Eu w M nn l)(i:w'.heap[M]? =w.heap[M]?):Eu w' M nn l:=by
 obtain⟨D,⟨c,a,g,F,f,e⟩,d⟩:=h;exact⟨D,⟨c,a,i.trans g,F,f,e⟩,d⟩
theorem CF(h:Eu w M nn l)(a:Ϟ w w'):Eu w' M nn l:=OS h (a.block M (Vx h))
theorem wfi(a:pl.i64 s):(Lit.int .i64 s).wf=true:=NR a
theorem ED(h:Eu w M nn l)(d:pl.i64 s):(Instr.lookup 187 (.map (some M)) (.int .i64 s) false).run Tryz.prog w= .ok (.int .i64 (l.count s:Nat)) w:=by
 obtain⟨D,f,g⟩:=h;obtain⟨c,k,i,_⟩:=f.lookup_int AcB underlying187 underlying3 (Tryz.zeroValue3 w) (keyOf_int_mk underlying3 (wfi d));have j:=(g s d).symm.trans i;have e:∀a b:Int,(DataW.lit (Lit.int .i64 a):DataW Unit)= .lit (.int .i64 b)->a=b:=λa b h=>(Lit.int.inj (DataW.lit.inj h)).2;rw[k,e _ _ j]
theorem MQ(h:Eu w M nn l)(d:pl.i64 s)(i:nn<maxLen)(u:l.length<9223372036854775807):
 ∃w',(Instr.mapUpdate 187 (.map (some M)) (vI s) (vI ((l.count s:Nat)+1))).run Tryz.prog w= .ok () w'/\Eu w' M (nn+1) (l++[s])/\w.grownBy w' (some M):=by
 obtain⟨D,c,f⟩:=h;have r:=count_le_length (a:=s) (l:=l);obtain⟨w',m,j,g⟩:=c.update AcB underlying187 i (keyOf_int_mk underlying3 (wfi d)) (plainElem_int (H:=Unit) (a:=(l.count s:Nat)+1) underlying3 (NR ⟨ϟ,ϟ⟩));refine⟨w',m,⟨_,j,λt q=>?_⟩,g⟩;by_cases e:t=s
 ·subst e;rw[atKey_put_same c.isMap (AcB.key (keyOf_int_mk underlying3 (wfi d)))];simp[count_append]
 ·rw[atKey_put_other (λk=>e (by injection k)),f t q];have:s≠t:=λk=>e k.symm;simp[count_append,count_singleton,this]
theorem JP(h:Eu w M nn l):∃o:Obj,w.heap[M]? =some o/\o.isCells=false:=by
 obtain⟨D,⟨d,c,a,_⟩,_⟩:=h;exact⟨_,a,rfl⟩
theorem MR(l:List Int)(s:Int):(l++[s]).count s=l.count s+1:=by simp[count_append]
end jn
namespace jn
open vl bf
attribute [local go_sem] Oper.semAt_some
theorem Jj(p:pl.Pln)(x:pl.PA)(side:Int)(b:Buf)(y:BX)(w:ϛ)(hw:pl.wfPlan p)(hp:pl.planAt w p x)(h:bufAt w b y)(ao:∀z∈Aa b,wfE z):
 η 79 #[pl.Ak p x,vI side,AF b y] w (θ w (.bool (Hr p side b))):=by
 have HB:=hV0 h;have aa:ϝ (ERs w (ems (y.m::y.rs)) (Aa b)):=Ek h;have HK:ϝ (∀(r:List Cel) (n:Nat) (a:Ϝ) (c:Nat) (I:ϛ),n=r.length->Ϟ w I->vl.rowAt w a r->Cj r->r.length<=χ->CT 56 #[pl.Ak p x,vI side,vS a n c] I (θ I (.tuple #[.string (pl.Ap p side r),.bool (pl.hasB p side r),vI (pl.Be p side r)]))):=λr n a c I hn hb T h2 h3=>by
  subst hn;exact pl.Py p x side a c r I hw (pl.Aj hp hb) (vl.Ac T hb) h2 h3
 obtain⟨L,hL⟩:=nM (Aa b);have am:ϝ (∀z∈L,wfE z):=by rw[<-hL];exact ao
 unfold Hr;rw[hL]at aa⊢;clear hL h ao hw hp;obtain⟨R,hR⟩:=nM (L.all (EW p side));have al:=hV0 hR;rw[hR];clear hR;obtain⟨t,v,⟨⟨f,g,m⟩,ml⟩,rs⟩:=y;obtain⟨q,a0,a1⟩:=b;unfold AF hdV;unfold pl.Ak at HK⊢;dsimp only at aa⊢;obtain⟨n,hn⟩:∃n,rs.length=n:=⟨_,rfl⟩;have HN:=hV0 hn;rw[hn];clear hn;refine(callsIn_wide (n:=0)).1 ?_;refine callsIn_of_wp_marks func79 rfl trivial ?_ rfl;simp only[ntmps79,size_toArray,length_cons,length_nil,Nat.reduceAdd,Nat.reduceSub,Array.replicate_succ,Array.replicate_zero,push_toArray,append_toArray,nil_append,cons_append]
 gi_wp2_with (refine⟨trivial,rfl,?_⟩;gi_at_call 113;refine(callsIn_wide.2 (II _ _ _ rfl rfl rfl _)).mono ?_;rintro e w' ⟨rfl,rfl⟩)
 have V0:boxP (ξ (ξ (ξ (ξ (ξ w (Φ p x) 25) #[vI side] 3) (ν q f g m t n v) 29) #[ϋ] 4) (ν q f g m t n v) 29) w.heap.size p x:=by
  unfold boxP;refine⟨?_,?_,?_,?_,?_,?_,?_,?_,?_,?_,?_,?_,?_⟩<;>go_simp
 have V2:Δ (ξ (ξ (ξ (ξ (ξ w (Φ p x) 25) #[vI side] 3) (ν q f g m t n v) 29) #[ϋ] 4) (ν q f g m t n v) 29) (w+1) 0 (vI side):=ϣ;have V3:Δ (ξ (ξ (ξ (ξ (ξ w (Φ p x) 25) #[vI side] 3) (ν q f g m t n v) 29) #[ϋ] 4) (ν q f g m t n v) 29) (w+1+1+1) 0 (.bool false):=ϣ;have V4:Ξ (ξ (ξ (ξ (ξ (ξ w (Φ p x) 25) #[vI side] 3) (ν q f g m t n v) 29) #[ϋ] 4) (ν q f g m t n v) 29) (w+1+1+1) 0:=ϣ;have V5:Δ (ξ (ξ (ξ (ξ (ξ w (Φ p x) 25) #[vI side] 3) (ν q f g m t n v) 29) #[ϋ] 4) (ν q f g m t n v) 29) (w+1+1+1+1) 0 (vI q):=ϣ;have V6:Δ (ξ (ξ (ξ (ξ (ξ w (Φ p x) 25) #[vI side] 3) (ν q f g m t n v) 29) #[ϋ] 4) (ν q f g m t n v) 29) (w+1+1+1+1) 1 (vS f g m):=ϣ;have V7:Δ (ξ (ξ (ξ (ξ (ξ w (Φ p x) 25) #[vI side] 3) (ν q f g m t n v) 29) #[ϋ] 4) (ν q f g m t n v) 29) (w+1+1+1+1) 2 (vS t n v):=ϣ;have V8:Ϟ w (ξ (ξ (ξ (ξ (ξ w (Φ p x) 25) #[vI side] 3) (ν q f g m t n v) 29) #[ϋ] 4) (ν q f g m t n v) 29):=by
  repeat (first|exact bR|(refine Below.alloc ?_ Ϧ _))
 have V9:(((((w.alloc (.cells (Φ p x) 25)).alloc (.cells #[vI side] 3)).alloc (.cells (ν q f g m t n v) 29)).alloc (.cells #[ϋ] 4)).alloc (.cells (ν q f g m t n v) 29)).heap.size=w.heap.size+1+1+1+1+1:=ϡ;generalize (((((w.alloc (.cells (Φ p x) 25)).alloc (.cells #[vI side] 3)).alloc (.cells (ν q f g m t n v) 29)).alloc (.cells #[ϋ] 4)).alloc (.cells (ν q f g m t n v) 29))=V at *;have ai:=GP HB.o V8 (w.heap.size+1+1+1+1) FX V5 V6 (by rw[HN.o];exact V7) Am (λ_ _=>Am) (λ_ _ _ _=>trivial) (λ_ _ _ _=>trivial);dsimp only at ai;obtain⟨E,hE⟩:=nM (ems ((((f,g,m):Hdr),ml)::rs));rw[hE]at ai aa;clear hE;refine D6 (gf:=161) (lb:=#[.pointer (some ⟨w+1+1+1+1,0,none⟩)]) rfl (enters_of func161 Ϣ rfl) ai bR (λx Y=>by obtain⟨p,_,rfl⟩:=mem_map.1 Y;rfl) (λh k=>KeepO.trans h k) (λW l o o' _ h ho=>KeepO.put W l o o' h ho)
  (λi X=>(∀j,j<i->EW p side (L.getD j ϰ)=true)/\KeepO FX V X/\Ξ X (w+1+1+1) 0/\Ϟ w X) (λc X=>c= .ret/\false=R/\Δ X (w+1+1+1) 0 (.bool false)/\Ϟ w X)
  (λi X X' aq H F G=>⟨H.1,H.2.1.grown F (λr e=>(G r e).2),(frozen_kept (H.2.1.cell Am V3) F (λr e=>(G r e).2)).trans H.2.2.1,Di H.2.2.2 nR ϟ F G⟩)
  (λc X X' aq H F G=>⟨H.1,H.2.1,cell_kept H.2.2.1 F (λr e=>(G r e).2),Di H.2.2.2 nR ϟ F G⟩)
  ⟨λj hj=>absurd hj (Nat.not_lt_zero j),KeepO.refl _ _,V4,V8⟩
  (λi a' X=> ∃B,a'={tmps:=#[.agg #[vI p.kind,vI p.mode,vI p.low,vI p.high,vI p.size,vI p.limit,vS x.l p.left.length x.lc,vS x.r p.right.length x.rc,vS x.lk p.lkeys.length x.lkc,vS x.rk p.rkeys.length x.rkc,.bool p.grouped,vS x.g p.group.length x.gc,vS x.a p.aggs.length x.ac],vI side,.agg #[vI q,vS f g m,vS t n v],.pointer (some ⟨w,0,none⟩),.pointer (some ⟨w+1,0,none⟩),.pointer (some ⟨w+1+1,0,none⟩),.pointer (some ⟨w+1+1+1,0,none⟩),.pointer (some ⟨B,0,none⟩),undef,undef,undef,.agg #[vI q,vS f g m,vS t n v],.func (.func 161) #[] #[.pointer (some ⟨w+1+1+1+1,0,none⟩)],(E.getD i ϰ).val,undef,undef,undef,undef,undef,undef,undef,undef,undef,undef,undef,undef,undef,undef,undef,undef,undef,undef,undef,undef,undef],defers:=[]}/\Ϗ X B (.string (E.getD i ϰ).key) (vI (E.getD i ϰ).time) (vI (E.getD i ϰ).seq) (hdV (E.getD i ϰ).row) (.bool (E.getD i ϰ).met))
  (λi a' u X X' aq H F G=>by
   obtain⟨B,T,h2,h3,h4,h5,h6⟩:=H;exact⟨B,T,cell_kept h2 F (λr e=>(G r e).2),cell_kept h3 F (λr e=>(G r e).2),cell_kept h4 F (λr e=>(G r e).2),cell_kept h5 F (λr e=>(G r e).2),cell_kept h6 F (λr e=>(G r e).2)⟩) ?assign ?body ?done ?stop
 case assign=>
  intro l' k z X K Y hi P;obtain⟨hk,ap⟩:=List.getElem?_eq_some_iff.1 Y;rw[lMp]at hk;rw[getElem_map]at ap;subst ap;have hd:E.getD k ϰ=E[k]:=by rw[gDe,gEe hk];rfl
  have J:=P;rw[hd]at J;clear P hd Y;obtain⟨⟨S,et,es,⟨r1,r2,r3⟩,em⟩,hz⟩:∃z,E[k]=z:=⟨_,rfl⟩;rw[hz]at J⊢;unfold EM.val hdV at J⊢;dsimp only at J⊢;obtain⟨j1,A,j3,C⟩:=hi
  gi_wp2
  have lX:w.heap.size+1+1+1<X.heap.size:=bLt _ _ (A.cell Am V3);exact J _ _ ((KeepsOthers.alloc _ _).from _) (KeepO.alloc _ _) ⟨j1,A.trans (KeepO.alloc _ _),ϣ,C.alloc C.size _⟩ ⟨X.heap.size,rfl,ϣ,ϣ,ϣ,ϣ,ϣ⟩
 case body=>
  intro l' i z a' X Y ay az ax ag;obtain⟨j1,A,j3,C⟩:=ax;obtain⟨B,ag,b0,b1,b2,b3,b4⟩:=ag;subst ag;obtain⟨hi,_⟩:=List.getElem?_eq_some_iff.1 Y;rw[lMp]at hi;have aw:=aa.o.1;have ad:=aa.o.2 i ϟ;have ae:ϝ (L.getD i ϰ∈L):=by show _∈_;rw[gDe,gEe ϟ];simp
  have N:ϝ (∀I,Ϟ w I->CT 56 #[pl.Ak p x,vI side,hdV (E.getD i ϰ).row] I (θ I (.tuple #[.string (pl.Ap p side (L.getD i ϰ).row),.bool (pl.hasB p side (L.getD i ϰ).row),vI (pl.Be p side (L.getD i ϰ).row)]))):=λI hb=>HK.o (L.getD i ϰ).row _ _ _ I ad.len hb ad.row (am.o _ ae.o).row (am.o _ ae.o).len;have ac:ϝ ((E.getD i ϰ).key=(L.getD i ϰ).key):=ad.key;obtain⟨Z,aj⟩:=nM (pl.Ap p side (L.getD i ϰ).row);obtain⟨an,ah⟩:=nM (pl.hasB p side (L.getD i ϰ).row);obtain⟨re,ak⟩:=nM (pl.Be p side (L.getD i ϰ).row);have ab:ϝ (EW p side (L.getD i ϰ)=(decide (re=0)&&an&&decide (Z=(L.getD i ϰ).key))):=by
   show _=_;unfold EW;rw[aj,ah,ak]
  rw[aj,ah,ak]at N;clear aj ah ak;obtain⟨⟨S,et,es,⟨r1,r2,r3⟩,em⟩,hz⟩:∃z,E.getD i ϰ=z:=⟨_,rfl⟩;rw[hz]at N b0 b1 b2 b3 b4 ac⊢;unfold hdV at N b3;dsimp only at N b0 b1 b2 b3 b4 ac;rw[<-ac.o]at ab;have O:=A.cell Am V3;have c2:=A.cell Am V2;have c0:boxP X w p x:=by
   obtain⟨v0,v1,v2,v3,v4,v5,v6,v7,v8,v9,ar,au,av⟩:=V0;exact⟨A.cell Am v0,A.cell Am v1,A.cell Am v2,A.cell Am v3,A.cell Am v4,A.cell Am v5,A.cell Am v6,A.cell Am v7,A.cell Am v8,A.cell Am v9,A.cell Am ar,A.cell Am au,A.cell Am av⟩
  obtain⟨v0,v1,v2,v3,v4,v5,v6,v7,v8,v9,ar,au,av⟩:=c0;have lX:w.heap.size+1+1+1<X.heap.size:=bLt _ _ O;have af:ϝ (EW p side (L.getD i ϰ)=false->false=R):=λhb=>by
   rw[<-al.o]
   symm
   rw[all_eq_false];exact⟨_,ae.o,by rw[hb];decide⟩
  clear hz ad aw Y ac;by_cases T:re=0
  ·subst T
   cases an with
   |true=>
    by_cases t1:Z.toList=S.toList
    ·have hY:ϝ (EW p side (L.getD i ϰ)=true):=by
      show _=_;rw[ab.o];have e1:Z=S:=by have:=bytes_beq Z S;rw[t1]at this;simpa using this.symm
      simp[e1]
     gi_wp2_with (refine⟨trivial,rfl,?_⟩;gi_at_call 56;refine(CallsIn.inRound l' (callsIn_wide.2 (N.o _ C))).mono ?_;rintro e w2 ⟨rfl,d⟩;have k0:=cLz d b0)
     exact⟨Cl d,bf.CI d nR,λj hj=>by
      rcases Nat.lt_succ_iff_lt_or_eq.1 hj with h|h
      ·exact j1 j h
      ·rw[h];exact hY.o,A.trans (bf.CI d nR),by rw[d.frozen (p:=⟨w+1+1+1,0,none⟩) lX];exact j3,bT C d⟩
    ·have Q:ϝ (false=R):=af.o (by
      rw[ab.o];have e1:Z≠S:=λe=>t1 (by rw[e]);simp[e1])
     have t2:(Z.toList==S.toList)=false:=by simpa using t1
     have t3:(Z.toList !=S.toList)=true:=by simpa using t1
     gi_wp2_with (refine⟨trivial,rfl,?_⟩;gi_at_call 56;refine(CallsIn.inRound l' (callsIn_wide.2 (N.o _ C))).mono ?_;rintro e w2 ⟨rfl,d⟩;have k0:=cLz d b0;have k3:=cLz d O;have kf:Ξ w2 (w+1+1+1) 0:=(by rw[d.frozen (p:=⟨w+1+1+1,0,none⟩) lX];exact j3))
     exact⟨(Cl d).trans ((KeepsOthers.setCell _ _ _).from _),rfl,Q.o,World.cell?_setCell_same _ _ _ k3,(bT C d).setCell ϥ _⟩
   |false=>
    have Q:ϝ (false=R):=af.o (by rw[ab.o];simp)
    gi_wp2_with (refine⟨trivial,rfl,?_⟩;gi_at_call 56;refine(CallsIn.inRound l' (callsIn_wide.2 (N.o _ C))).mono ?_;rintro e w2 ⟨rfl,d⟩;have k0:=cLz d b0;have k3:=cLz d O;have kf:Ξ w2 (w+1+1+1) 0:=(by rw[d.frozen (p:=⟨w+1+1+1,0,none⟩) lX];exact j3))
    exact⟨(Cl d).trans ((KeepsOthers.setCell _ _ _).from _),rfl,Q.o,World.cell?_setCell_same _ _ _ k3,(bT C d).setCell ϥ _⟩
  ·have Q:ϝ (false=R):=af.o (by rw[ab.o];simp[T]);have h2:(re !=0)=true:=by simpa using T
   gi_wp2_with (refine⟨trivial,rfl,?_⟩;gi_at_call 56;refine(CallsIn.inRound l' (callsIn_wide.2 (N.o _ C))).mono ?_;rintro e w2 ⟨rfl,d⟩;have k0:=cLz d b0;have k3:=cLz d O;have kf:Ξ w2 (w+1+1+1) 0:=(by rw[d.frozen (p:=⟨w+1+1+1,0,none⟩) lX];exact j3))
   exact⟨(Cl d).trans ((KeepsOthers.setCell _ _ _).from _),rfl,Q.o,World.cell?_setCell_same _ _ _ k3,(bT C d).setCell ϥ _⟩
 case done=>
  rintro D X hD ⟨j1,A,j3,C⟩ P;have O:=A.cell Am V3;have Q:ϝ (true=R):=by
   show _=_;rw[<-al.o]
   symm
   rw[lMp]at j1;refine all_eq_true.2 (λz hz=>?_);obtain⟨j,hj,rfl⟩:=getElem_of_mem hz;have:=j1 j (by rw[aa.o.1];exact hj);rw[gDe,gEe hj]at this;exact this
  gi_wp2
  have J:(X.setCell ⟨w+1+1+1,0,none⟩ (.bool true)).heap[D]? =some (.deferred (some [])):=(heap_setCell_other _ _ _ _ ϥ).trans P;refine⟨ϡ,.inl ⟨_,_,rfl,run_takeDeferred J,?_⟩⟩;have y3:=Da (World.cell?_setCell_same _ _ (.bool true) O) J rfl (.deferred none);exact⟨.bool true,(by simp[results,results79,go_sem,y3]),Ab Q.o,CY (C.setCell ϥ _) ϟ J _⟩
 case stop=>
  rintro D c X hD ⟨rfl,hE,O,C⟩ P
  gi_wp2
  refine⟨ϡ,.inl ⟨_,_,rfl,run_takeDeferred P,?_⟩⟩;have y3:=Da O P rfl (.deferred none);exact⟨.bool false,(by simp[results,results79,go_sem,y3]),Ab hE,CY C ϟ P _⟩
end jn
end Go.Proofs.YtdohnkkbkfhphaaGreat
