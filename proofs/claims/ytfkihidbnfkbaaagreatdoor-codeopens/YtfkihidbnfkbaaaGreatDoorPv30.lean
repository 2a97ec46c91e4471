import Derived.Test.YtfkihidbnfkbaaaGreatDoorPv21
import Derived.Test.YtfkihidbnfkbaaaGreatDoorPv22
import Derived.Test.YtfkihidbnfkbaaaGreatDoorPv20
set_option linter.all false
set_option maxHeartbeats 8000000
set_option maxRecDepth 100000
open Go.ChangeShapes Go.WideShapes Go.ChangeAt Go.RowKit
namespace Go.Proofs.YtfkihidbnfkbaaaGreatDoor
open Go.Proofs.Tryz
namespace jn
open vl
attribute [local go_sem] Oper.semAt_some
theorem Et(s:Jn)(y:JX)(w:Ϙ):η 101 #[joinV s y] w (θ w (.bool (Ej s))):=by
 have m:Ϛ (∀a,CT 169 #[vI s.lm] a (θ a (.bool (Ex s.lm)))):=λa=>Ie _ a;have o:Ϛ (∀a,CT 169 #[vI s.rm] a (θ a (.bool (Ex s.rm)))):=λa=>Ie _ a;obtain⟨R,q⟩:=nM (Ej s);have c:=hqz q;rw[q];clear q;unfold Ej at c;obtain⟨C,f⟩:=nM (Ex s.lm);obtain⟨D,g⟩:=nM (Ex s.rm);rw[f]at m c;rw[g]at o c;clear f g;rw[AP];obtain⟨⟨X,Y,⟨⟨J,K,L⟩,M⟩,F⟩,⟨ab,ac,⟨⟨N,O,P⟩,bl⟩,H⟩⟩:=y;obtain⟨⟨S,U,Z⟩,⟨r0,aa,ad⟩,T,G,l⟩:=s;dsimp only at *;obtain⟨W,A⟩:∃n,F.length=n:=⟨_,rfl⟩;obtain⟨rn,B⟩:∃n,H.length=n:=⟨_,rfl⟩;rw[A,B];clear A B;go_enter func101,ntmps101;go_wp2_with fail;generalize h:(World.alloc w _)=V;have z:ϛ w V:=by rw[<-h];exact ϧ
 have u:Δ V w 7 (vI G):=by subst h;go_simp
 have v:Δ V w 8 (vI l):=by subst h;go_simp
 clear h;refine(m.o _).mono ?_;rintro e a ⟨rfl,i⟩;have t:ϛ w a:=bT z i;have E:=cLz i u;have x:=cLz i v;clear u v i z m
 cases C with
 |false=>
  have b:Ϛ (false=R):=by show _=_;rw[<-c.o];rfl
  go_wp2;go_ret;exact⟨Aa b.o,t⟩
 |true=>
  go_wp2_with fail;refine(o.o _).mono ?_;rintro e I ⟨rfl,r⟩;have j:ϛ w I:=bT t r;have Q:=cLz r x;clear E x r t o
  cases D with
  |false=>
   have b:Ϛ (false=R):=by show _=_;rw[<-c.o];rfl
   go_wp2;go_ret;exact⟨Aa b.o,j⟩
  |true=>
   have b:Ϛ (R=bf.B9 l 0 1099511627776):=by show _=_;rw[<-c.o];rfl
   by_cases f:0<=l
   ·by_cases g:l<=1099511627776
    ·have d:Ϛ (true=R):=by show _=_;rw[b.o];exact((bf.BE _ _ _).2 ⟨f,g⟩).symm
     go_wp2;go_ret;exact⟨Aa d.o,j⟩
    ·have d:Ϛ (false=R):=by show _=_;rw[b.o];exact((bf.EW _ _ _).2 (λk=>g k.2)).symm
     go_wp2;go_ret;exact⟨Aa (by rw[decide_eq_false Ϝ];exact d.o),j⟩
   ·have d:Ϛ (false=R):=by show _=_;rw[b.o];exact((bf.EW _ _ _).2 (λk=>f k.1)).symm
    go_wp2;go_ret;exact⟨Aa d.o,j⟩
theorem Dh(p:pl.Pln)(x:pl.PA)(s:Jn)(y:JX)(w:Ϙ)(D:pl.wfPlan p)(C:pl.planAt w p x)(h:joinAt w s y)(o:wfJ s)(Z:(bf.Ab s.L).length<=100000)(hr:(bf.Ab s.R).length<=100000):
 η 102 #[pl.Aq p x,joinV s y] w (θ w (.bool (GL p s))):=by
 have r:Ϛ (∀a,ϛ w a->CT 170 #[joinV s y] a (θ a (.bool (LY s)))):=λa f=>MX s y a (h.below f) (λz q=>(by
  rcases List.mem_append.1 q with k|k
  ·exact(o.l.ents z k).2.seq
  ·exact(o.r.ents z k).2.seq)) Z hr
 have l:=hIz (λ(a:Ϙ) (f:ϛ w a)=>Ia p x 1 s.L y.l a D (pl.Ag C f) (bf.Al h.l f) (λz q=>(o.l.ents z q).1));have m:=hIz (λ(a:Ϙ) (f:ϛ w a)=>Ia p x 2 s.R y.r a D (pl.Ag C f) (bf.Al h.r f) (λz q=>(o.r.ents z q).1));obtain⟨R,A⟩:=nM (GL p s);have b:=hqz A;rw[A];clear A D C h o Z hr;unfold GL at b;obtain⟨S,U⟩:=nM (LY s);obtain⟨B1,W⟩:=nM (Kt p 1 s.L);obtain⟨B2,X⟩:=nM (Kt p 2 s.R);rw[U]at r b;rw[W]at l b;rw[X]at m b;clear U W X;unfold pl.Aq at l m⊢;rw[AP]at r⊢;unfold bf.AY bf.hdV at l m;go_enter func102,ntmps102;by_cases j:s.L.lim=p.limit
 rotate_left
 ·have aa:(s.L.lim==p.limit)=false:=by simpa using j
  have c:Ϛ (false=R):=by show _=_;rw[<-b.o,decide_eq_false j];rfl
  go_wp2;go_ret;exact⟨Aa c.o,ϧ.alloc Ϟ _⟩
 have aa:(s.L.lim==p.limit)=true:=by simpa using j
 by_cases n:s.R.lim=p.limit
 rotate_left
 ·have ab:(s.R.lim==p.limit)=false:=by simpa using n
  have c:Ϛ (false=R):=by show _=_;rw[<-b.o,decide_eq_false n,decide_eq_true j];rfl
  go_wp2;go_ret;exact⟨Aa c.o,ϧ.alloc Ϟ _⟩
 have ab:(s.R.lim==p.limit)=true:=by simpa using n
 rw[decide_eq_true j,decide_eq_true n]at b;clear j n;go_wp2_with fail;generalize t:(World.alloc (World.alloc w _) _)=V;have B:ϛ w V:=by rw[<-t];exact ϧ.alloc Ϟ _
 have i:Ϛ (Bp V w p x):=by
  subst t;exact Ak (CH ..) ϧ
 have g:Ϛ (BS V (w+1) s y):=by
  subst t;have:=Ck (ξ w (Φ p x) 32) s y 38;rw[World.size_alloc]at this;exact this
 clear t;refine(r.o _ B).mono ?_;rintro e a ⟨rfl,u⟩;have d:ϛ w a:=bT B u;replace i:Ϛ (Bp a w p x):=Ak i.o u;replace g:Ϛ (BS a (w+1) s y):=A1 g.o u;clear u B r
 cases S with
 |false=>
  have c:Ϛ (false=R):=by show _=_;rw[<-b.o];rfl
  go_wp2;go_ret;exact⟨Aa c.o,d⟩
 |true=>
  obtain⟨E,F,J,K,L,M,N,O,P,Q,G,H,I⟩:=i.o;obtain⟨u0,u1,u2,u3,u4,u5,u6,u7,u8⟩:=g.o;go_wp2_with fail;refine(l.o _ d).mono ?_;rintro e T ⟨rfl,v⟩;replace d:ϛ w T:=bT d v;replace i:Ϛ (Bp T w p x):=Ak i.o v;replace g:Ϛ (BS T (w+1) s y):=A1 g.o v;clear E F J K L M N O P Q G H I u0 u1 u2 u3 u4 u5 u6 u7 u8 v l
  cases B1 with
  |false=>
   have c:Ϛ (false=R):=by show _=_;rw[<-b.o];rfl
   go_wp2;go_ret;exact⟨Aa c.o,d⟩
  |true=>
   obtain⟨E,F,J,K,L,M,N,O,P,Q,G,H,I⟩:=i.o;obtain⟨u0,u1,u2,u3,u4,u5,u6,u7,u8⟩:=g.o;go_wp2_with fail;refine(m.o _ d).mono ?_;rintro e w3 ⟨rfl,Y⟩;replace d:ϛ w w3:=bT d Y;have c:Ϛ (B2=R):=by show _=_;rw[<-b.o];rfl
   clear E F J K L M N O P Q G H I u0 u1 u2 u3 u4 u5 u6 u7 u8 Y m;go_wp2;go_ret;exact⟨Aa c.o,d⟩
theorem Bb(p:pl.Pln)(x:pl.PA)(s:Jn)(y:JX)(w:Ϙ)(J:pl.wfPlan p)(I:pl.planAt w p x)(h:joinAt w s y)(k:wfJ s):
 η 50 #[pl.Aq p x,joinV s y] w (θ w (vI (Bh p s))):=by
 have n:=hIz (λ(a:Ϙ) (i:ϛ w a)=>pl.CK p x a J (pl.Ag I i));have m:=hIz (λ(a:Ϙ) (i:ϛ w a)=>bf.Bb s.L y.l a (bf.Al h.l i) k.l.ents k.l.size);have o:=hIz (λ(a:Ϙ) (i:ϛ w a)=>bf.Bb s.R y.r a (bf.Al h.r i) k.r.ents k.r.size);have l:=hIz (λ(a:Ϙ)=>Et s y a);have j:Ϛ (bf.Fx s.L=0->bf.Fx s.R=0->∀a,ϛ w a->CT 102 #[pl.Aq p x,joinV s y] a (θ a (.bool (GL p s)))):=λq r a i=>Dh p x s y a J (pl.Ag I i) (h.below i) k (by have:=(bf.Fv q).all;omega) (by have:=(bf.Fv r).all;omega);obtain⟨R,E⟩:=nM (Bh p s);have c:=hqz E;rw[E];clear E J I h k;unfold Bh at c;obtain⟨B,q⟩:=nM (pl.An p);obtain⟨C,r⟩:=nM (bf.Fx s.L);obtain⟨D,P⟩:=nM (bf.Fx s.R);obtain⟨G,Q⟩:=nM (Ej s);obtain⟨F,S⟩:=nM (GL p s);rw[q]at n c;rw[r]at m j c;rw[P]at o j c;rw[Q]at l c;rw[S]at j c;clear q r P Q S;unfold pl.Aq at n j⊢;rw[AP]at l j⊢;unfold bf.AY bf.hdV at m o;go_enter func50,ntmps50;go_wp2_with fail;generalize t:(World.alloc (World.alloc w _) _)=V;have H:ϛ w V:=by rw[<-t];exact ϧ.alloc Ϟ _
 have g:Ϛ (Bp V w p x):=by
  subst t;exact Ak (CH ..) ϧ
 have d:Ϛ (BS V (w+1) s y):=by
  subst t;have:=Ck (ξ w (Φ p x) 32) s y 38;rw[World.size_alloc]at this;exact this
 clear t;refine(n.o _ H).mono ?_;rintro e a ⟨rfl,u⟩;have b:ϛ w a:=bT H u;replace g:Ϛ (Bp a w p x):=Ak g.o u;replace d:Ϛ (BS a (w+1) s y):=A1 d.o u;clear u H n;by_cases K:B=0
 rotate_left
 ·have aa:(B !=0)=true:=by simpa using K
  have f:Ϛ (B=R):=by show _=_;rw[<-c.o,if_pos K]
  go_wp2;go_ret;exact⟨Am f.o,b⟩
 subst K;rw[if_neg ϝ]at c;obtain⟨u0,u1,u2,u3,u4,u5,u6,u7,u8⟩:=d.o;go_wp2_with fail;refine(m.o _ b).mono ?_;rintro e N ⟨rfl,v⟩;replace b:ϛ w N:=bT b v;replace g:Ϛ (Bp N w p x):=Ak g.o v;replace d:Ϛ (BS N (w+1) s y):=A1 d.o v;clear u0 u1 u2 u3 u4 u5 u6 u7 u8 v m;by_cases L:C=0
 rotate_left
 ·have ab:(C !=0)=true:=by simpa using L
  have f:Ϛ (C=R):=by show _=_;rw[<-c.o,if_pos L]
  go_wp2;go_ret;exact⟨Am f.o,b⟩
 subst L;rw[if_neg ϝ]at c;obtain⟨u0,u1,u2,u3,u4,u5,u6,u7,u8⟩:=d.o;go_wp2_with fail;refine(o.o _ b).mono ?_;rintro e O ⟨rfl,z⟩;replace b:ϛ w O:=bT b z;replace g:Ϛ (Bp O w p x):=Ak g.o z;replace d:Ϛ (BS O (w+1) s y):=A1 d.o z;clear u0 u1 u2 u3 u4 u5 u6 u7 u8 z o;by_cases M:D=0
 rotate_left
 ·have ac:(D !=0)=true:=by simpa using M
  have f:Ϛ (D=R):=by show _=_;rw[<-c.o,if_pos M]
  go_wp2;go_ret;exact⟨Am f.o,b⟩
 subst M;rw[if_neg ϝ]at c;obtain⟨u0,u1,u2,u3,u4,u5,u6,u7,u8⟩:=d.o;go_wp2_with fail;refine(l.o _).mono ?_;rintro e w4 ⟨rfl,A⟩;replace b:ϛ w w4:=bT b A;replace g:Ϛ (Bp w4 w p x):=Ak g.o A;replace d:Ϛ (BS w4 (w+1) s y):=A1 d.o A;clear u0 u1 u2 u3 u4 u5 u6 u7 u8 A l
 cases G with
 |false=>
  have f:Ϛ ((3:Int)=R):=by show _=_;rw[<-c.o,if_pos rfl]
  go_wp2;go_ret;exact⟨Am f.o,b⟩
 |true=>
  rw[if_neg ϝ]at c;obtain⟨U,W,v2,v3,v4,v5,v6,v7,v8,v9,X,Y,Z⟩:=g.o;obtain⟨u0,u1,u2,u3,u4,u5,u6,u7,u8⟩:=d.o;go_wp2_with fail;refine(j.o Ϥ Ϥ _ b).mono ?_;rintro e w5 ⟨rfl,T⟩;replace b:ϛ w w5:=bT b T;clear U W v2 v3 v4 v5 v6 v7 v8 v9 X Y Z u0 u1 u2 u3 u4 u5 u6 u7 u8 T j
  cases F with
  |false=>
   have f:Ϛ ((1:Int)=R):=by show _=_;rw[<-c.o,if_pos rfl]
   go_wp2;go_ret;exact⟨Am f.o,b⟩
  |true=>
   have f:Ϛ ((0:Int)=R):=by show _=_;rw[<-c.o,if_neg ϝ]
   go_wp2;go_ret;exact⟨Am f.o,b⟩
end jn
namespace jn
open vl
variable {p : pl.Pln}
theorem J4{s:Jn}(h:Bh p s=0):pl.An p=0:=by
 unfold Bh at h;split at h
 ·exact h
 ·rename_i k;exact Decidable.not_not.1 k
theorem XE(h:pl.An p=0)(a:p.grouped=false):(pl.FM p).length<=χ:=by
 have:=bt.WA h;unfold pl.FM pl.BG;rw[a,if_neg ϝ,lAp];omega
theorem M4(p:pl.Pln)(x:pl.PA)(w:Ϙ)(a:p.grouped=false):
 η 51 #[pl.Aq p x,ψ] w (θ w (vI 0)):=by
 unfold pl.Aq;rw[a];go_enter func51,ntmps51;go_wp2;go_ret;exact⟨rfl,ϧ⟩
theorem M5(p:pl.Pln)(x:pl.PA)(a:ϙ)(l:Nat)(v:List ch.Cnt)(w:Ϙ)(K:pl.wfPlan p)(J:pl.planAt w p x)(m:pl.An p=0)(G:p.grouped=false)(z:ch.viewAt w a v)(A:ch.Cd v)(y:v.length<=χ):
 η 52 #[pl.Aq p x,vS a v.length l] w (θ w (vI (if ch.A4 v≠0 then ch.A4 v else bt.Gs (pl.FM p) v))):=by
 have k:=hIz (λ(b:Ϙ) (d:ϛ w b)=>ch.Bb a l v b (ch.BJ z d) A y);have D:=hIz (λ(b:Ϙ) (d:ϛ w b)=>pl.Zx p x b K (pl.Ag J d));have KV:=hIz (λ(b:Ϙ) h C (d:ϛ w b) (P:pl.A8 b h (pl.FM p))=>bt.MI a h l C v (pl.FM p) b y (ch.BJ z d) A P (XE m G));obtain⟨R,r⟩:=nM (if ch.A4 v≠0 then ch.A4 v else bt.Gs (pl.FM p) v);have f:=hqz r;have M:=hqz m;rw[r];clear r K J z A y m G;obtain⟨i,o⟩:=nM (ch.A4 v);obtain⟨T,q⟩:=nM (bt.Gs (pl.FM p) v);obtain⟨n,g⟩:=nM v.length;rw[o,g]at k;rw[q,g]at KV;rw[o,q]at f;rw[g];clear o q g;unfold pl.Aq at D⊢;go_enter func52,ntmps52;go_wp2_with fail;generalize s:(World.alloc w _)=V;have t:ϛ w V:=by rw[<-s];exact ϧ
 have j:Ϛ (Bp V w p x):=by
  subst s;exact CH ..
 clear s;refine(k.o _ t).mono ?_;rintro e b ⟨rfl,u⟩;have c:ϛ w b:=bT t u;replace j:Ϛ (Bp b w p x):=Ak j.o u;clear u t k;by_cases B:i=0
 rotate_left
 ·have U:(i !=0)=true:=by simpa using B
  have N:Ϛ (i=R):=by show _=_;rw[<-f.o,if_pos B]
  go_wp2;go_ret;exact⟨Am N.o,c⟩
 subst B;rw[if_neg ϝ]at f;obtain⟨W,X,v2,v3,v4,v5,v6,v7,v8,v9,Y,Z,aa⟩:=j.o;go_wp2_with fail;refine(D.o _ c).mono ?_;rintro e L ⟨Q,F⟩;replace c:ϛ w L:=bT c F;rcases Q with⟨S,_⟩|⟨_,h,C,rfl,H⟩
 ·exact absurd M.o S
 have E:=KV.o L h C c H;obtain⟨on,I⟩:=nM ((pl.FM p).length);rw[I]at E⊢;clear I H F;go_wp2_with fail;refine E.mono ?_;rintro e w3 ⟨rfl,O⟩;go_wp2;go_ret;exact⟨Am f.o,bT c O⟩
theorem Iy(p:pl.Pln)(x:pl.PA)(e:Eng)(y:EX)(w:Ϙ)(t:pl.wfPlan p)(s:pl.planAt w p x)(r:p.grouped=false)(h:enAt w e y)(m:wfEn e):
 η 27 #[pl.Aq p x,enV e y] w (θ w (vI (CV p e))):=by
 have f:=hIz (λ(a:Ϙ) (g:ϛ w a)=>Bb p x e.j y.y a t (pl.Ag s g) (h.j.below g) m.j);have z:Ϛ (∀a:World,CT 51 #[pl.Aq p x,ψ] a (θ a (vI 0))):=λa=>M4 p x a r;have KV:Ϛ (Bh p e.j=0->∀a,ϛ w a->CT 52 #[pl.Aq p x,vS y.va e.v.length y.vc] a (θ a (vI (if ch.A4 e.v≠0 then ch.A4 e.v else bt.Gs (pl.FM p) e.v)))):=λQ a g=>M5 p x y.va y.vc e.v a t (pl.Ag s g) (J4 Q) r (ch.BJ h.v g) m.v m.n;obtain⟨R,o⟩:=nM (CV p e);have d:=hqz o;rw[o];clear o t s h m r;unfold CV at d;obtain⟨n,A⟩:=nM (Bh p e.j);obtain⟨T,B⟩:=nM (if ch.A4 e.v≠0 then ch.A4 e.v else bt.Gs (pl.FM p) e.v);rw[A]at f KV d;rw[B]at KV d;clear A B;unfold pl.Aq at f z KV⊢;rw[AP]at f;rw[Cq];go_enter func27,ntmps27;go_wp2_with fail;generalize j:(World.alloc (World.alloc w _) _)=V;have q:ϛ w V:=by rw[<-j];exact ϧ.alloc Ϟ _
 have c:Ϛ (Bp V w p x):=by
  subst j;exact Ak (CH ..) ϧ
 have b:Ϛ (Bn V (w.heap.size+1) e y):=by
  subst j;have:=Cg (ξ w (Φ p x) 32) e y 42;rw[World.size_alloc]at this;exact this
 clear j;refine(f.o _ q).mono ?_;rintro U a ⟨rfl,k⟩;have i:ϛ w a:=bT q k;replace c:Ϛ (Bp a w p x):=Ak c.o k;replace b:Ϛ (Bn a (w.heap.size+1) e y):=AH b.o k;clear k q f;by_cases u:n=0
 rotate_left
 ·have Y:(n !=0)=true:=by simpa using u
  have P:Ϛ (n=R):=by show _=_;rw[<-d.o,if_pos u]
  go_wp2;go_ret;exact⟨Am P.o,i⟩
 subst u;rw[if_neg ϝ]at d;obtain⟨C,D,H,I,J,K,L,M,N,O,E,F,G⟩:=c.o;obtain⟨u0,u1,u2,u3,u4,u5,u6,u7,u8,u9,u10⟩:=b.o;go_wp2_with fail;refine(z.o _).mono ?_;rintro W v ⟨rfl,l⟩;replace i:ϛ w v:=bT i l;replace c:Ϛ (Bp v w p x):=Ak c.o l;replace b:Ϛ (Bn v (w.heap.size+1) e y):=AH b.o l;clear C D H I J K L M N O E F G u0 u1 u2 u3 u4 u5 u6 u7 u8 u9 u10 l;obtain⟨C,D,H,I,J,K,L,M,N,O,E,F,G⟩:=c.o;obtain⟨u0,u1,u2,u3,u4,u5,u6,u7,u8,u9,u10⟩:=b.o;go_wp2_with fail;refine(KV.o Ϥ _ i).mono ?_;rintro X Z ⟨rfl,S⟩;go_wp2;go_ret;exact⟨Am d.o,bT i S⟩
end jn
end Go.Proofs.YtfkihidbnfkbaaaGreatDoor
