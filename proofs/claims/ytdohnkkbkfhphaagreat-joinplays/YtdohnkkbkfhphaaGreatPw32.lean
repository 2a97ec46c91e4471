import Derived.Test.YtdohnkkbkfhphaaGreatPw17
import Derived.Test.YtdohnkkbkfhphaaGreatPw26
set_option linter.all false
set_option maxHeartbeats 8000000
set_option maxRecDepth 100000
open Go.ChangeShapes Go.WideShapes Go.ChangeAt Go.RowKit
namespace Go.Proofs.YtdohnkkbkfhphaaGreat
open Go.Proofs.Tryz
namespace jn
open vl
attribute [local go_sem] Oper.semAt_some
def Aw(p:pl.Pln):Jn:=if pl.Al p=0 then⟨⟨p.limit,[],[]⟩,⟨p.limit,[],[]⟩,noMark,noMark,0⟩else j0
theorem YF{p:pl.Pln}(h:pl.Al p=0):bf.A8 p.limit 1 64=true:=(bf.Bh _ _ _).2 (pl.Bj h).2.1.2.2
theorem I3(p:pl.Pln)(x:pl.PA)(w:ϛ)(P:pl.wfPlan p)(O:pl.planAt w p x):
 η 9 #[pl.Ak p x] w (θ w (.tuple #[joinV (Aw p) jx0,vI (pl.Al p)])):=by
 have A:=hIz (λ(b:ϛ) (U:Ϟ w b)=>pl.EO p x b P (pl.Aj O U));have B:ϝ (pl.Al p=0->∀b,CT 28 #[vI p.limit] b (θ b (.tuple #[.agg #[vI p.limit,ψ,ψ],ω]))):=λh b=>bf.AcF p.limit b (YF h);obtain⟨Z,G⟩:=nM (joinV (Aw p) jx0);have i:=hV0 G;rw[G];clear G;unfold Aw at i;obtain⟨E,K⟩:=nM (pl.Al p);rw[K]at A B i⊢;clear K P O;unfold pl.Ak at A⊢;go_enter func9,ntmps9;go_wp2_with fail;generalize d:(World.alloc (World.alloc w _) _)=V;have H:Ϟ w V:=by rw[<-d];exact Ϫ.alloc ϡ _
 have l:ϝ (boxP V w p x):=by
  subst d;exact Ad (BL ..) Ϫ
 have c:ϝ (noJ V (w+1)):=by
  subst d;have:=EP (ξ w (Φ p x) 25);rw[World.size_alloc]at this;exact this
 clear d;refine(A.o _ H).mono ?_;rintro e b ⟨rfl,C⟩;have J:Ϟ w b:=bT H C;replace l:ϝ (boxP b w p x):=Ad l.o C;replace c:ϝ (noJ b (w+1)):=Ay c.o C;clear C H A;by_cases F:E=0
 ·subst F;rw[if_pos rfl]at i;have Y:=l.o.2.2.2.2.2.1;go_wp2_with fail;refine(B.o ϧ _).mono ?_;rintro e f ⟨rfl,D⟩;have L:Ϟ w f:=bT J D;have u5:=(Ad l.o D).2.2.2.2.2.1;replace c:ϝ (noJ f (w+1)):=Ay c.o D;have lw:=TI c.o;have ab:w.heap.size<f.heap.size:=ϟ;clear Y D l;go_wp2_with fail;generalize d:(World.alloc f _)=j;have I:Ϟ f j:=by rw[<-d];exact Ϫ
  have M:Ϟ w j:=bT L I;have Q:Δ j f 0 (vI p.limit):=by subst d;go_simp
  have R:Δ j f 1 (vS none 0 0):=by subst d;go_simp
  have S:Δ j f 2 (vS none 0 0):=by subst d;go_simp
  replace c:ϝ (noJ j (w+1)):=Ay c.o I;clear d u5;refine(B.o ϧ _).mono ?_;rintro e g ⟨rfl,k⟩;have N:Ϟ w g:=bT M k;have X:=cLz k Q;have q1:=cLz k R;have q2:=cLz k S;have ac:f.heap.size<g.heap.size:=bLt _ _ X;have ad:w.heap.size+1<g.heap.size:=ϟ;replace c:ϝ (noJ (ξ g #[vI p.limit,ψ,ψ] 29) (w.heap.size+1)):=Ay (Ay c.o k) Ϫ;have W:Ϟ w (ξ g #[vI p.limit,ψ,ψ] 29):=N.alloc N.size _;clear Q R S I k M L J B;have a:ϝ ((World.setCells (ξ g #[vI p.limit,ψ,ψ] 29) (w.heap.size+1) 0 [vI p.limit,ψ,ψ,vI p.limit,ψ,ψ,vI (-1099511627777),vI (-1099511627777),ω]).rangeAt (w.heap.size+1) 0 [vI p.limit,ψ,ψ,vI p.limit,ψ,ψ,vI (-1099511627777),vI (-1099511627777),ω]):=CX c.o rfl;have m:ϝ (Ϟ w (World.setCells (ξ g #[vI p.limit,ψ,ψ] 29) (w.heap.size+1) 0 [vI p.limit,ψ,ψ,vI p.limit,ψ,ψ,vI (-1099511627777),vI (-1099511627777),ω])):=below_setCells (Nat.le_succ w.heap.size) _ 0 _ W;go_wp2_with ((with_reducible refine wpList_store_mid ?_ 31 (.tmp 2) (.tmp 29) ?_ (w.heap.size+1) 0 #[vI p.limit,ψ,ψ,vI p.limit,ψ,ψ,vI (-1099511627777),vI (-1099511627777),ω] ?_ ?_ ?_ ?_ ?_ ?_);exact rfl;exact rfl;exact rfl;exact rfl;exact c.o;exact BU;exact Ϩ);generalize (World.setCells (ξ g #[vI p.limit,ψ,ψ] 29) (w.heap.size+1) 0 [vI p.limit,ψ,ψ,vI p.limit,ψ,ψ,vI (-1099511627777),vI (-1099511627777),ω])=T at a m⊢;have n:=a.o 0 _ rfl;have o:=a.o 1 _ rfl;have q:=a.o 2 _ rfl;have r:=a.o 3 _ rfl;have s:=a.o 4 _ rfl;have t:=a.o 5 _ rfl;have u:=a.o 6 _ rfl;have y:=a.o 7 _ rfl;have z:=a.o 8 _ rfl;simp only[Nat.zero_add]at n o q r s t u y z;exact bodyPost_ret (v:=.tuple #[.agg #[vI p.limit,ψ,ψ,vI p.limit,ψ,ψ,vI (-1099511627777),vI (-1099511627777),ω],ω]) (by simp[results,results9,go_sem,n,o,q,r,s,t,u,y,z]) rfl ⟨by rw[<-i.o];rfl,m.o⟩
 ·rw[if_neg F]at i;have aa:(E !=0)=true:=by simpa using F
  have a:ϝ ((World.setCells b (w.heap.size+1) 0 [ω,ψ,ψ,ω,ψ,ψ,ω,ω,ω]).rangeAt (w.heap.size+1) 0 [ω,ψ,ψ,ω,ψ,ψ,ω,ω,ω]):=CX c.o rfl;have m:ϝ (Ϟ w (World.setCells b (w.heap.size+1) 0 [ω,ψ,ψ,ω,ψ,ψ,ω,ω,ω])):=below_setCells (Nat.le_succ w.heap.size) _ 0 _ J;go_wp2_with ((with_reducible refine wpList_store_mid ?_ 31 (.tmp 2) (.tmp 13) ?_ (w.heap.size+1) 0 #[ω,ψ,ψ,ω,ψ,ψ,ω,ω,ω] ?_ ?_ ?_ ?_ ?_ ?_);exact rfl;exact rfl;exact rfl;exact rfl;exact c.o;exact BU;exact Ϩ);generalize (World.setCells b (w.heap.size+1) 0 [ω,ψ,ψ,ω,ψ,ψ,ω,ω,ω])=T at a m⊢;have n:=a.o 0 _ rfl;have o:=a.o 1 _ rfl;have q:=a.o 2 _ rfl;have r:=a.o 3 _ rfl;have s:=a.o 4 _ rfl;have t:=a.o 5 _ rfl;have u:=a.o 6 _ rfl;have y:=a.o 7 _ rfl;have z:=a.o 8 _ rfl;simp only[Nat.zero_add]at n o q r s t u y z;exact bodyPost_ret (v:=.tuple #[.agg #[ω,ψ,ψ,ω,ψ,ψ,ω,ω,ω],vI E]) (by simp[results,results9,go_sem,n,o,q,r,s,t,u,y,z]) rfl ⟨by rw[<-i.o];rfl,m.o⟩
theorem Jf(m:Int)(w:ϛ):η 77 #[vI m] w (θ w (.bool (CW m))):=by
 unfold CW;have b:=tm.Dj m;by_cases h:m=noMark
 ·have c:(m== -1099511627777)=true:=by unfold noMark at h;simpa using h
  have a:ϝ (true=(decide (m=noMark)||tm.Bc m)):=by show _=_;rw[decide_eq_true h];rfl
  clear b;unfold noMark at h;subst h;go_enter func77,ntmps77;go_wp2;go_ret;exact⟨Ab a.o,bR⟩
 ·have c:(m== -1099511627777)=false:=by unfold noMark at h;simpa using h
  have a:ϝ (tm.Bc m=(decide (m=noMark)||tm.Bc m)):=by show _=_;rw[decide_eq_false h];rfl
  go_enter func77,ntmps77;go_wp2_with (go_at_call 88;refine(b _).mono ?_;rintro e d ⟨rfl,rfl⟩);go_ret;exact⟨Ab a.o,bR⟩
theorem Ff(s:Jn)(y:JX)(w:ϛ):η 40 #[joinV s y] w (θ w (.bool (Eg s))):=by
 have m:ϝ (∀a,CT 77 #[vI s.lm] a (θ a (.bool (CW s.lm)))):=λa=>Jf _ a;have o:ϝ (∀a,CT 77 #[vI s.rm] a (θ a (.bool (CW s.rm)))):=λa=>Jf _ a;obtain⟨R,p⟩:=nM (Eg s);have c:=hV0 p;rw[p];clear p;unfold Eg at c;obtain⟨B,f⟩:=nM (CW s.lm);obtain⟨C,g⟩:=nM (CW s.rm);rw[f]at m c;rw[g]at o c;clear f g;rw[A0];obtain⟨⟨W,X,⟨⟨I,J,K⟩,L⟩,E⟩,⟨ab,ac,⟨⟨M,N,O⟩,bl⟩,G⟩⟩:=y;obtain⟨⟨Q,T,Y⟩,⟨Z,aa,ad⟩,S,F,l⟩:=s;dsimp only at *;obtain⟨U,z⟩:∃n,E.length=n:=⟨_,rfl⟩;obtain⟨rn,A⟩:∃n,G.length=n:=⟨_,rfl⟩;rw[z,A];clear z A;go_enter func40,ntmps40;go_wp2_with fail;generalize h:(World.alloc w _)=V;have x:Ϟ w V:=by rw[<-h];exact Ϫ
 have t:Δ V w 7 (vI F):=by subst h;go_simp
 have u:Δ V w 8 (vI l):=by subst h;go_simp
 clear h;refine(m.o _).mono ?_;rintro e a ⟨rfl,i⟩;have r:Ϟ w a:=bT x i;have D:=cLz i t;have v:=cLz i u;clear t u i x m
 cases B with
 |false=>
  have b:ϝ (false=R):=by show _=_;rw[<-c.o];rfl
  go_wp2;go_ret;exact⟨Ab b.o,r⟩
 |true=>
  go_wp2_with fail;refine(o.o _).mono ?_;rintro e H ⟨rfl,q⟩;have j:Ϟ w H:=bT r q;have P:=cLz q v;clear D v q r o
  cases C with
  |false=>
   have b:ϝ (false=R):=by show _=_;rw[<-c.o];rfl
   go_wp2;go_ret;exact⟨Ab b.o,j⟩
  |true=>
   have b:ϝ (R=bf.A8 l 0 1099511627776):=by show _=_;rw[<-c.o];rfl
   by_cases f:0<=l
   ·by_cases g:l<=1099511627776
    ·have d:ϝ (true=R):=by show _=_;rw[b.o];exact((bf.Bh _ _ _).2 ⟨f,g⟩).symm
     go_wp2;go_ret;exact⟨Ab d.o,j⟩
    ·have d:ϝ (false=R):=by show _=_;rw[b.o];exact((bf.CP _ _ _).2 (λk=>g k.2)).symm
     go_wp2;go_ret;exact⟨Ab (by rw[decide_eq_false ϟ];exact d.o),j⟩
   ·have d:ϝ (false=R):=by show _=_;rw[b.o];exact((bf.CP _ _ _).2 (λk=>f k.1)).symm
    go_wp2;go_ret;exact⟨Ab d.o,j⟩
theorem Ea(p:pl.Pln)(x:pl.PA)(s:Jn)(y:JX)(w:ϛ)(D:pl.wfPlan p)(C:pl.planAt w p x)(h:joinAt w s y)(o:wfJ s)(Z:(bf.Aa s.L).length<=100000)(hr:(bf.Aa s.R).length<=100000):
 η 41 #[pl.Ak p x,joinV s y] w (θ w (.bool (C4 p s))):=by
 have r:ϝ (∀a,Ϟ w a->CT 78 #[joinV s y] a (θ a (.bool (Ji s)))):=λa f=>Oo s y a (h.below f) (λz q=>(by
  rcases List.mem_append.1 q with k|k
  ·exact(o.l.ents z k).2.seq
  ·exact(o.r.ents z k).2.seq)) Z hr
 have l:=hIz (λ(a:ϛ) (f:Ϟ w a)=>Jj p x 1 s.L y.l a D (pl.Aj C f) (bf.Ag h.l f) (λz q=>(o.l.ents z q).1));have m:=hIz (λ(a:ϛ) (f:Ϟ w a)=>Jj p x 2 s.R y.r a D (pl.Aj C f) (bf.Ag h.r f) (λz q=>(o.r.ents z q).1));obtain⟨R,A⟩:=nM (C4 p s);have b:=hV0 A;rw[A];clear A D C h o Z hr;unfold C4 at b;obtain⟨S,U⟩:=nM (Ji s);obtain⟨B1,W⟩:=nM (Hr p 1 s.L);obtain⟨B2,X⟩:=nM (Hr p 2 s.R);rw[U]at r b;rw[W]at l b;rw[X]at m b;clear U W X;unfold pl.Ak at l m⊢;rw[A0]at r⊢;unfold bf.AF bf.hdV at l m;go_enter func41,ntmps41;by_cases j:s.L.lim=p.limit
 rotate_left
 ·have aa:(s.L.lim==p.limit)=false:=by simpa using j
  have c:ϝ (false=R):=by show _=_;rw[<-b.o,decide_eq_false j];rfl
  go_wp2;go_ret;exact⟨Ab c.o,Ϫ.alloc ϡ _⟩
 have aa:(s.L.lim==p.limit)=true:=by simpa using j
 by_cases n:s.R.lim=p.limit
 rotate_left
 ·have ab:(s.R.lim==p.limit)=false:=by simpa using n
  have c:ϝ (false=R):=by show _=_;rw[<-b.o,decide_eq_false n,decide_eq_true j];rfl
  go_wp2;go_ret;exact⟨Ab c.o,Ϫ.alloc ϡ _⟩
 have ab:(s.R.lim==p.limit)=true:=by simpa using n
 rw[decide_eq_true j,decide_eq_true n]at b;clear j n;go_wp2_with fail;generalize t:(World.alloc (World.alloc w _) _)=V;have B:Ϟ w V:=by rw[<-t];exact Ϫ.alloc ϡ _
 have i:ϝ (boxP V w p x):=by
  subst t;exact Ad (BL ..) Ϫ
 have g:ϝ (AK V (w+1) s y):=by
  subst t;have:=AL (ξ w (Φ p x) 25) s y 31;rw[World.size_alloc]at this;exact this
 clear t;refine(r.o _ B).mono ?_;rintro e a ⟨rfl,u⟩;have d:Ϟ w a:=bT B u;replace i:ϝ (boxP a w p x):=Ad i.o u;replace g:ϝ (AK a (w+1) s y):=Ah g.o u;clear u B r
 cases S with
 |false=>
  have c:ϝ (false=R):=by show _=_;rw[<-b.o];rfl
  go_wp2;go_ret;exact⟨Ab c.o,d⟩
 |true=>
  obtain⟨E,F,J,K,L,M,N,O,P,Q,G,H,I⟩:=i.o;obtain⟨u0,u1,u2,u3,u4,u5,u6,u7,u8⟩:=g.o;go_wp2_with fail;refine(l.o _ d).mono ?_;rintro e T ⟨rfl,v⟩;replace d:Ϟ w T:=bT d v;replace i:ϝ (boxP T w p x):=Ad i.o v;replace g:ϝ (AK T (w+1) s y):=Ah g.o v;clear E F J K L M N O P Q G H I u0 u1 u2 u3 u4 u5 u6 u7 u8 v l
  cases B1 with
  |false=>
   have c:ϝ (false=R):=by show _=_;rw[<-b.o];rfl
   go_wp2;go_ret;exact⟨Ab c.o,d⟩
  |true=>
   obtain⟨E,F,J,K,L,M,N,O,P,Q,G,H,I⟩:=i.o;obtain⟨u0,u1,u2,u3,u4,u5,u6,u7,u8⟩:=g.o;go_wp2_with fail;refine(m.o _ d).mono ?_;rintro e w3 ⟨rfl,Y⟩;replace d:Ϟ w w3:=bT d Y;have c:ϝ (B2=R):=by show _=_;rw[<-b.o];rfl
   clear E F J K L M N O P Q G H I u0 u1 u2 u3 u4 u5 u6 u7 u8 Y m;go_wp2;go_ret;exact⟨Ab c.o,d⟩
theorem Ce(p:pl.Pln)(x:pl.PA)(s:Jn)(y:JX)(w:ϛ)(J:pl.wfPlan p)(I:pl.planAt w p x)(h:joinAt w s y)(k:wfJ s):
 η 14 #[pl.Ak p x,joinV s y] w (θ w (vI (B6 p s))):=by
 have n:=hIz (λ(a:ϛ) (i:Ϟ w a)=>pl.EO p x a J (pl.Aj I i));have m:=hIz (λ(a:ϛ) (i:Ϟ w a)=>bf.Ce s.L y.l a (bf.Ag h.l i) k.l.ents k.l.size);have o:=hIz (λ(a:ϛ) (i:Ϟ w a)=>bf.Ce s.R y.r a (bf.Ag h.r i) k.r.ents k.r.size);have l:=hIz (λ(a:ϛ)=>Ff s y a);have j:ϝ (bf.Dy s.L=0->bf.Dy s.R=0->∀a,Ϟ w a->CT 41 #[pl.Ak p x,joinV s y] a (θ a (.bool (C4 p s)))):=λq r a i=>Ea p x s y a J (pl.Aj I i) (h.below i) k (by have:=(bf.Ei q).all;omega) (by have:=(bf.Ei r).all;omega);obtain⟨R,E⟩:=nM (B6 p s);have c:=hV0 E;rw[E];clear E J I h k;unfold B6 at c;obtain⟨B,q⟩:=nM (pl.Al p);obtain⟨C,r⟩:=nM (bf.Dy s.L);obtain⟨D,Q⟩:=nM (bf.Dy s.R);obtain⟨G,S⟩:=nM (Eg s);obtain⟨F,T⟩:=nM (C4 p s);rw[q]at n c;rw[r]at m j c;rw[Q]at o j c;rw[S]at l c;rw[T]at j c;clear q r Q S T;unfold pl.Ak at n j⊢;rw[A0]at l j⊢;unfold bf.AF bf.hdV at m o;go_enter func14,ntmps14;go_wp2_with fail;generalize t:(World.alloc (World.alloc w _) _)=V;have H:Ϟ w V:=by rw[<-t];exact Ϫ.alloc ϡ _
 have g:ϝ (boxP V w p x):=by
  subst t;exact Ad (BL ..) Ϫ
 have d:ϝ (AK V (w+1) s y):=by
  subst t;have:=AL (ξ w (Φ p x) 25) s y 31;rw[World.size_alloc]at this;exact this
 clear t;refine(n.o _ H).mono ?_;rintro e a ⟨rfl,u⟩;have b:Ϟ w a:=bT H u;replace g:ϝ (boxP a w p x):=Ad g.o u;replace d:ϝ (AK a (w+1) s y):=Ah d.o u;clear u H n;by_cases K:B=0
 rotate_left
 ·have ab:(B !=0)=true:=by simpa using K
  have f:ϝ (B=R):=by show _=_;rw[<-c.o,if_pos K]
  go_wp2;go_ret;exact⟨Af f.o,b⟩
 subst K;rw[if_neg Ϡ]at c;obtain⟨u0,u1,u2,u3,u4,u5,u6,u7,u8⟩:=d.o;go_wp2_with fail;refine(m.o _ b).mono ?_;rintro e N ⟨rfl,v⟩;replace b:Ϟ w N:=bT b v;replace g:ϝ (boxP N w p x):=Ad g.o v;replace d:ϝ (AK N (w+1) s y):=Ah d.o v;clear u0 u1 u2 u3 u4 u5 u6 u7 u8 v m;by_cases L:C=0
 rotate_left
 ·have ac:(C !=0)=true:=by simpa using L
  have f:ϝ (C=R):=by show _=_;rw[<-c.o,if_pos L]
  go_wp2;go_ret;exact⟨Af f.o,b⟩
 subst L;rw[if_neg Ϡ]at c;obtain⟨u0,u1,u2,u3,u4,u5,u6,u7,u8⟩:=d.o;go_wp2_with fail;refine(o.o _ b).mono ?_;rintro e O ⟨rfl,z⟩;replace b:Ϟ w O:=bT b z;replace g:ϝ (boxP O w p x):=Ad g.o z;replace d:ϝ (AK O (w+1) s y):=Ah d.o z;clear u0 u1 u2 u3 u4 u5 u6 u7 u8 z o;by_cases M:D=0
 rotate_left
 ·have ad:(D !=0)=true:=by simpa using M
  have f:ϝ (D=R):=by show _=_;rw[<-c.o,if_pos M]
  go_wp2;go_ret;exact⟨Af f.o,b⟩
 subst M;rw[if_neg Ϡ]at c;obtain⟨u0,u1,u2,u3,u4,u5,u6,u7,u8⟩:=d.o;go_wp2_with fail;refine(l.o _).mono ?_;rintro e P ⟨rfl,A⟩;replace b:Ϟ w P:=bT b A;replace g:ϝ (boxP P w p x):=Ad g.o A;replace d:ϝ (AK P (w+1) s y):=Ah d.o A;clear u0 u1 u2 u3 u4 u5 u6 u7 u8 A l
 cases G with
 |false=>
  have f:ϝ ((3:Int)=R):=by show _=_;rw[<-c.o,if_pos rfl]
  go_wp2;go_ret;exact⟨Af f.o,b⟩
 |true=>
  rw[if_neg Ϡ]at c;obtain⟨W,X,v2,v3,v4,v5,v6,v7,v8,v9,Y,Z,aa⟩:=g.o;obtain⟨u0,u1,u2,u3,u4,u5,u6,u7,u8⟩:=d.o;go_wp2_with fail;refine(j.o ϧ ϧ _ b).mono ?_;rintro e w5 ⟨rfl,U⟩;replace b:Ϟ w w5:=bT b U;clear W X v2 v3 v4 v5 v6 v7 v8 v9 Y Z aa u0 u1 u2 u3 u4 u5 u6 u7 u8 U j
  cases F with
  |false=>
   have f:ϝ ((1:Int)=R):=by show _=_;rw[<-c.o,if_pos rfl]
   go_wp2;go_ret;exact⟨Af f.o,b⟩
  |true=>
   have f:ϝ ((0:Int)=R):=by show _=_;rw[<-c.o,if_neg Ϡ]
   go_wp2;go_ret;exact⟨Af f.o,b⟩
end jn
end Go.Proofs.YtdohnkkbkfhphaaGreat
