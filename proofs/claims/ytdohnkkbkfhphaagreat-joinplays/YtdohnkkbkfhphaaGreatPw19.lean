import Derived.Test.YtdohnkkbkfhphaaGreatPw18
import Derived.Test.YtdohnkkbkfhphaaGreatPw9
set_option linter.all false
set_option maxHeartbeats 8000000
set_option maxRecDepth 100000
open Go.ChangeShapes Go.WideShapes Go.ChangeAt Go.RowKit Go.Maps Go.WideMaps
namespace Go.Proofs.YtdohnkkbkfhphaaGreat
open Go.Proofs.Tryz
namespace jn
open vl
attribute [local go_sem] Oper.semAt_some
variable {U U' : ϛ} {b : Nat} {s : Jn} {y : JX} {p : pl.Pln} {x : pl.PA} {t : Value}
theorem ZX(p:pl.Pln)(s:Jn)(v:Ev):AB p s v=if¬(v.kind=1\/v.kind=2)\/pl.Bz v.side=false then 4 else if tm.Bc v.time=false then 3 else if v.kind=2 then IC s v else Gz p s v:=rfl
theorem ND(p:pl.Pln)(x:pl.PA)(s:Jn)(y:JX)(v:Ev)(z:Ϝ)(B:Nat)(w:ϛ)(hw:pl.wfPlan p)(hp:pl.planAt w p x)(h:joinAt w s y)(aa:wfJ s)(hv:evAt w v z):
 η 47 #[pl.Ak p x,joinV s y,evV v z B] w (θ w (vI (AB p s v))):=by
 have F:ϝ (∀a,CT 87 #[vI v.side] a λe w'=>e= .returned (.bool (pl.Bz v.side))/\w'=a):=λa=>pl.Dr _ a;have E:ϝ (∀a,CT 88 #[vI v.time] a λe w'=>e= .returned (.bool (tm.Bc v.time))/\w'=a):=λa=>tm.Dj _ a;have A:=hIz (λ(a:ϛ)=>Oq s y v z B a);have u:=hIz (λ(a:ϛ) (J:Ϟ w a)=>Qe p x s y v z B a hw (pl.Aj hp J) (h.below J) aa (hv.below J));obtain⟨R,I⟩:=nM (AB p s v);have f:=hV0 I;rw[I];clear I hw hp h aa hv;rw[ZX]at f;obtain⟨o,j⟩:=nM (pl.Bz v.side);obtain⟨r,l⟩:=nM (tm.Bc v.time);obtain⟨E1,h3⟩:=nM (IC s v);obtain⟨E2,h4⟩:=nM (Gz p s v);rw[j]at F f;rw[l]at E f;rw[h3]at A f;rw[h4]at u f;clear j l h3 h4;unfold pl.Ak at u⊢;rw[A0]at A u⊢;unfold evV at A u⊢;obtain⟨d,sd,tm,ab⟩:=v;dsimp only at *;obtain⟨n,hn⟩:=nM ab.length;rw[hn]at A u⊢;clear hn;go_enter func47,ntmps47;by_cases i:d=1
 ·have k1:(d==1)=true:=by simpa using i
  have k2:(d !=1)=false:=by simpa using i
  have k3:(d==2)=false:=by rw[beq_eq_false_iff_ne];omega
  have N:ϝ (o=false->(4:Int)=R):=λh=>by rw[<-f.o,if_pos (.inr h)]
  have L:ϝ (o=true->r=false->(3:Int)=R):=λj l=>by rw[<-f.o,if_neg (by simp[i,j]),if_pos l]
  have O:ϝ (o=true->r=true->E2=R):=λj l=>by rw[<-f.o,if_neg (by simp[i,j]),if_neg (by simp[l]),if_neg ϟ]
  clear i f;go_wp2_with fail;generalize c:(World.alloc (World.alloc (World.alloc w _) _) _)=V;have q:Ϟ w V:=by rw[<-c];exact(Ϫ.alloc ϡ _).alloc Ϥ _
  have D:ϝ (boxP V w p x):=by
   subst c;exact Ad (Ad (BL ..) Ϫ) Ϫ
  have C:ϝ (AK V (w+1) s y):=by
   subst c;have:=AL (ξ w (Φ p x) 25) s y 31;rw[World.size_alloc]at this;exact Ah this Ϫ
  have q0:Δ V (w+1+1) 0 (vI d):=by subst c;go_simp
  have q1:Δ V (w+1+1) 1 (vI sd):=by subst c;go_simp
  have q2:Δ V (w+1+1) 2 (vI tm):=by subst c;go_simp
  have q3:Δ V (w+1+1) 3 (vS z n B):=by subst c;go_simp
  clear c;refine(F.o _).mono ?_;rintro e a ⟨rfl,G⟩;obtain rfl:V=a:=G.symm
  cases o with
  |false=>
   have g:ϝ ((4:Int)=R):=N.o ϧ;go_wp2;go_ret;exact⟨Af g.o,q⟩
  |true=>
   go_wp2_with fail;refine(E.o _).mono ?_;rintro e w2 ⟨rfl,H⟩;obtain rfl:V=w2:=H.symm
   cases r with
   |false=>
    have g:ϝ ((3:Int)=R):=L.o ϧ ϧ;go_wp2;go_ret;exact⟨Af g.o,q⟩
   |true=>
    obtain⟨u0,u1,u2,u3,u4,u5,u6,u7,u8⟩:=C.o;obtain⟨P,Q,X,Y,Z,v5,v6,v7,v8,v9,S,T,W⟩:=D.o;go_wp2_with fail;refine(u.o _ q).mono ?_;rintro e w3 ⟨rfl,K⟩;have g:ϝ (E2=R):=O.o ϧ ϧ;clear u0 u1 u2 u3 u4 u5 u6 u7 u8 P Q X Y Z v5 v6 v7 v8 v9 S T W;go_wp2;go_ret;exact⟨Af g.o,bT q K⟩
 ·by_cases m:d=2
  ·have k1:(d==1)=false:=by rw[beq_eq_false_iff_ne];omega
   have k2:(d !=1)=true:=by simpa using i
   have k3:(d==2)=true:=by simpa using m
   have k5:(d !=2)=false:=by simpa using m
   have N:ϝ (o=false->(4:Int)=R):=λh=>by rw[<-f.o,if_pos (.inr h)]
   have L:ϝ (o=true->r=false->(3:Int)=R):=λj l=>by rw[<-f.o,if_neg (by simp[m,j]),if_pos l]
   have O:ϝ (o=true->r=true->E1=R):=λj l=>by rw[<-f.o,if_neg (by simp[m,j]),if_neg (by simp[l]),if_pos m]
   clear i m f;go_wp2_with fail;generalize c:(World.alloc (World.alloc (World.alloc w _) _) _)=V;have q:Ϟ w V:=by rw[<-c];exact(Ϫ.alloc ϡ _).alloc Ϥ _
   have D:ϝ (boxP V w p x):=by
    subst c;exact Ad (Ad (BL ..) Ϫ) Ϫ
   have C:ϝ (AK V (w+1) s y):=by
    subst c;have:=AL (ξ w (Φ p x) 25) s y 31;rw[World.size_alloc]at this;exact Ah this Ϫ
   have q0:Δ V (w+1+1) 0 (vI d):=by subst c;go_simp
   have q1:Δ V (w+1+1) 1 (vI sd):=by subst c;go_simp
   have q2:Δ V (w+1+1) 2 (vI tm):=by subst c;go_simp
   have q3:Δ V (w+1+1) 3 (vS z n B):=by subst c;go_simp
   clear c;refine(F.o _).mono ?_;rintro e a ⟨rfl,G⟩;obtain rfl:V=a:=G.symm
   cases o with
   |false=>
    have g:ϝ ((4:Int)=R):=N.o ϧ;go_wp2;go_ret;exact⟨Af g.o,q⟩
   |true=>
    go_wp2_with fail;refine(E.o _).mono ?_;rintro e w2 ⟨rfl,H⟩;obtain rfl:V=w2:=H.symm
    cases r with
    |false=>
     have g:ϝ ((3:Int)=R):=L.o ϧ ϧ;go_wp2;go_ret;exact⟨Af g.o,q⟩
    |true=>
     obtain⟨u0,u1,u2,u3,u4,u5,u6,u7,u8⟩:=C.o;obtain⟨P,Q,X,Y,Z,v5,v6,v7,v8,v9,S,T,W⟩:=D.o;go_wp2_with fail;refine(A.o _).mono ?_;rintro e w3 ⟨rfl,K⟩;have g:ϝ (E1=R):=O.o ϧ ϧ;clear u0 u1 u2 u3 u4 u5 u6 u7 u8 P Q X Y Z v5 v6 v7 v8 v9 S T W;go_wp2;go_ret;exact⟨Af g.o,bT q K⟩
  ·have ac:(d==1)=false:=by simpa using i
   have ae:(d==2)=false:=by simpa using m
   have ad:(d !=1)=true:=by simpa using i
   have af:(d !=2)=true:=by simpa using m
   have g:ϝ ((4:Int)=R):=by show _=_;rw[<-f.o,if_pos (.inl (λk=>k.elim i m))]
   go_wp2;go_ret;exact⟨Af g.o,(Ϫ.alloc ϡ _).alloc Ϥ _⟩
theorem IK(side:Int)(w:ϛ)(h:pl.Bz side=true):η 264 #[vI side] w λe w'=>e= .returned (vI (3 - side))/\w'=w:=by
 have a:side=1\/side=2:=by unfold pl.Bz at h;simpa using h
 rcases a with rfl|rfl<;>
 ·go_enter func264,ntmps264;go_wp2;go_ret;exact⟨rfl,rfl⟩
theorem P4(b o:Nat)(side:Int)(w:ϛ):η 143 #[.pointer (some ⟨b,o,none⟩),vI side] w λe w'=>e= .returned (.pointer (some ⟨b,o+BC side,none⟩))/\w'=w:=by
 unfold BC;by_cases h:side=2
 ·subst h;go_enter func143,ntmps143;go_wp2;go_ret;exact⟨rfl,rfl⟩
 ·have a:(side==2)=false:=by simpa using h
  rw[if_neg h];go_enter func143,ntmps143;go_wp2;go_ret;exact⟨rfl,rfl⟩
theorem Gj(b o:Nat)(side:Int)(w:ϛ):η 144 #[.pointer (some ⟨b,o,none⟩),vI side] w λe w'=>e= .returned (.pointer (some ⟨b,o+A1 side,none⟩))/\w'=w:=by
 unfold A1;by_cases h:side=2
 ·subst h;go_enter func144,ntmps144;go_wp2;go_ret;exact⟨rfl,rfl⟩
 ·have a:(side==2)=false:=by simpa using h
  rw[if_neg h];go_enter func144,ntmps144;go_wp2;go_ret;exact⟨rfl,rfl⟩
def jnC(U:World)(b:Nat)(s:Jn)(y:JX):Prop:=Δ U b 13 (vI s.L.lim)/\Δ U b 14 (vS y.l.m.1.1 y.l.m.1.2.1 y.l.m.1.2.2)/\Δ U b 15 (vS y.l.ra y.l.rs.length y.l.rc)/\Δ U b 16 (vI s.R.lim)/\Δ U b 17 (vS y.r.m.1.1 y.r.m.1.2.1 y.r.m.1.2.2)/\Δ U b 18 (vS y.r.ra y.r.rs.length y.r.rc)/\Δ U b 19 (vI s.lm)/\Δ U b 20 (vI s.rm)/\Δ U b 21 (vI s.seq)
structure boxC(U:World)(b:Nat)(p:pl.Pln)(x:pl.PA)(s:Jn)(y:JX)(t:Value):Prop where
 plan:boxP U b p x
 join:jnC U b s y
 told:Δ U b 22 t
 room:U.there b 0 23
theorem XQ(h:jnC U b s y)(a:Ϟ U U'):jnC U' b s y:=by
 obtain⟨u0,u1,u2,u3,u4,u5,u6,u7,u8⟩:=h;exact⟨cLz a u0,cLz a u1,cLz a u2,cLz a u3,cLz a u4,cLz a u5,cLz a u6,cLz a u7,cLz a u8⟩
theorem boxC.later(h:boxC U b p x s y t)(a:Ϟ U U'):boxC U' b p x s y t:=⟨Ad h.plan a,XQ h.join a,cLz a h.told,Cu h.room a⟩
theorem boxC.lt(h:boxC U b p x s y t):b<U.heap.size:=Qb h.plan
theorem Q8(h:jnC U b s y)(side:Int):Δ U b (13+BC side) (vI (Bs s side)):=by
 obtain⟨u0,u1,u2,u3,u4,u5,u6,u7,u8⟩:=h;unfold BC Bs;split
 ·exact u7
 ·exact u6
theorem F2(h:jnC U b s y)(side:Int):Δ U b (13+A1 side) (vI (bufOf s side).lim)/\Δ U b (13+A1 side+1) (vS (Bl y side).m.1.1 (Bl y side).m.1.2.1 (Bl y side).m.1.2.2)/\Δ U b (13+A1 side+2) (vS (Bl y side).ra (Bl y side).rs.length (Bl y side).rc):=by
 obtain⟨u0,u1,u2,u3,u4,u5,u6,u7,u8⟩:=h;unfold A1 bufOf Bl;split
 ·exact⟨u3,u4,u5⟩
 ·exact⟨u0,u1,u2⟩
def BI(p:pl.Pln)(s:Jn)(side:Int):Int:=if Bs s (3 - side)=noMark then noMark else pl.Gv p side (Bs s (3 - side))
theorem JH(b:Nat)(p:pl.Pln)(x:pl.PA)(s:Jn)(y:JX)(t:Value)(side:Int)(w:ϛ)(B:pl.wfPlan p)(z:pl.planAt w p x)(h:boxC w b p x s y t)(A:pl.Bz side=true):
 η 260 #[μ b,vI side] w (θ w (vI (BI p s side))):=by
 have l:=hIz (λ(a:ϛ)=>IK side a A);have g:ϝ (∀a,CT 143 #[.pointer (some ⟨b,13,none⟩),vI (3 - side)] a λe w'=>e= .returned (.pointer (some ⟨b,13+BC (3 - side),none⟩))/\w'=a):=λa=>P4 b 13 (3 - side) a;have j:=hIz (λm (a:ϛ) (D:Ϟ w a)=>pl.JH p x side m a B (pl.Aj z D));have d:=Q8 h.join (3 - side);have o:ϝ (boxP w b p x):=h.plan;obtain⟨R,n⟩:=nM (BI p s side);have f:=hV0 n;rw[n];clear n B z h A;unfold BI at f;obtain⟨k,u⟩:=nM (13+BC (3 - side));obtain⟨M,q⟩:=nM (Bs s (3 - side));obtain⟨G,v⟩:=nM (3 - side);rw[u]at g d;rw[q]at d f;rw[v]at l g;clear u q v;unfold pl.Ak at j;go_enter func260,ntmps260;by_cases c:M=noMark
 ·have C:(M== -1099511627777)=true:=by unfold noMark at c;simpa using c
  have i:ϝ ((-1099511627777:Int)=R):=by show _=_;rw[<-f.o,if_pos c];rfl
  clear j o;go_wp2
  go_region_held3 (λw'=>Δ w' b k (vI M)) (first|go_keep|exact d) (first
   |(go_at_call 143;refine(g.o _).mono ?_;rintro e F ⟨rfl,rfl⟩)
   |(go_at_call 264;refine(l.o _).mono ?_;rintro e E ⟨rfl,rfl⟩))
  all_goals
   go_wp2;go_ret;exact⟨Af i.o,by first|exact bR|exact bR.drew⟩
 ·have C:(M== -1099511627777)=false:=by unfold noMark at c;simpa using c
  have i:ϝ (pl.Gv p side M=R):=by show _=_;rw[<-f.o,if_neg c]
  obtain⟨H,I,N,O,P,Q,S,T,V,W,J,K,L⟩:=o.o;go_wp2
  go_region_held3 (λw'=>Δ w' b k (vI M)) (first|go_keep|exact d) (first
   |(go_at_call 143;refine(g.o _).mono ?_;rintro e F ⟨rfl,rfl⟩)
   |(go_at_call 264;refine(l.o _).mono ?_;rintro e E ⟨rfl,rfl⟩))
  all_goals
   go_wp2_with (go_at_call 57;refine(j.o _ _ (by first|exact bR|exact bR.drew)).mono ?_;rintro e X ⟨rfl,r⟩);go_ret;exact⟨Af i.o,by first|exact r|exact bR.drew.trans r⟩
end jn
namespace jn
open vl bf
variable {w w' : ϛ} {M nn : Nat} {k : ByteArray}
def Kj(w:World)(M nn:Nat)(f:ByteArray->Int):Prop:=∃D:DataW Unit,w.ownsMap Tryz.prog 9 (plainElem (H:=Unit) Tryz.prog 3) M nn D/\∀k:ByteArray,k.size<=maxLen->D.atKey (.string k.data.toList) (.lit (.int .i64 0))= .lit (.int .i64 (f k))
theorem ZY(w:ϛ):Kj (w.alloc (.map #[] 0)) w.heap.size 0 (λ_=>0):=⟨_,World.ownsMap_made _ _ _ _,λs a=>rfl⟩
theorem Ab7{f:ByteArray->Int}(h:Kj w M nn f):M<w.heap.size:=by
 obtain⟨D,a,_⟩:=h;exact a.lt
theorem XR{f:ByteArray->Int}(h:Kj w M nn f)(j:w'.heap[M]? =w.heap[M]?):Kj w' M nn f:=by
 obtain⟨D,⟨c,a,i,F,g,e⟩,d⟩:=h;exact⟨D,⟨c,a,j.trans i,F,g,e⟩,d⟩
theorem FF{f:ByteArray->Int}(h:Kj w M nn f)(a:Ϟ w w'):Kj w' M nn f:=XR h (a.block M (Ab7 h))
theorem XS{f:ByteArray->Int}(h:Kj w M nn f)(d:k.size<=maxLen):(Instr.lookup 114 (.map (some M)) (.string k) false).run Tryz.prog w= .ok (.int .i64 (f k)) w:=by
 obtain⟨D,g,i⟩:=h;obtain⟨c,m,j,_⟩:=g.lookup_int ch.law underlying114 underlying3 (Tryz.zeroValue3 w) (keyOf_string_mk underlying9 d);have l:=(i k d).symm.trans j;have e:∀a b:Int,(DataW.lit (Lit.int .i64 a):DataW Unit)= .lit (.int .i64 b)->a=b:=λa b h=>(Lit.int.inj (DataW.lit.inj h)).2;rw[m,e _ _ l]
theorem ZZ{f:ByteArray->Int}(h:Kj w M nn f)(d:k.size<=maxLen){v:Int}(r:pl.i64 v)(l:nn<maxLen):
 ∃w',(Instr.mapUpdate 114 (.map (some M)) (.string k) (.int .i64 v)).run Tryz.prog w= .ok () w'/\Kj w' M (nn+1) (λg=>if g=k then v else f g)/\w.grownBy w' (some M):=by
 obtain⟨D,c,i⟩:=h;obtain⟨w',n,m,j⟩:=c.update ch.law underlying114 l (keyOf_string_mk underlying9 d) (plainElem_int (H:=Unit) (a:=v) underlying3 (NR r));refine⟨w',n,⟨_,m,λt o=>?_⟩,j⟩;by_cases e:t=k
 ·subst e;rw[atKey_put_same c.isMap (ch.law.key (keyOf_string_mk underlying9 d))];simp
 ·rw[atKey_put_other (λq:Lit.string t.data.toList=Lit.string k.data.toList=>e (Q0 (Lit.string.inj q))),i t o];simp[e]
end jn
end Go.Proofs.YtdohnkkbkfhphaaGreat
