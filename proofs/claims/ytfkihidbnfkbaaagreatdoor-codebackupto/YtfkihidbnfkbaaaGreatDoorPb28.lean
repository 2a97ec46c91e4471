import Derived.Test.YtfkihidbnfkbaaaGreatDoorPb17
import Derived.Test.YtfkihidbnfkbaaaGreatDoorPb23
set_option linter.all false
set_option maxHeartbeats 8000000
set_option maxRecDepth 100000
open Go.ChangeShapes Go.WideShapes Go.ChangeAt Go.RowKit
namespace Go.Proofs.YtfkihidbnfkbaaaGreatDoor
open Go.Proofs.Tryz
namespace jn
open vl
attribute [local go_sem] Oper.semAt_some
theorem EK(s:Jn)(y:JX)(w:ϙ):η 101 #[joinV s y] w (θ w (.bool (E7 s))):=by
 have m:ϛ (∀a,CT 169 #[vI s.lm] a (θ a (.bool (Ei s.lm)))):=λa=>II _ a;have o:ϛ (∀a,CT 169 #[vI s.rm] a (θ a (.bool (Ei s.rm)))):=λa=>II _ a;obtain⟨R,q⟩:=nM (E7 s);have c:=hqz q;rw[q];clear q;unfold E7 at c;obtain⟨C,f⟩:=nM (Ei s.lm);obtain⟨D,g⟩:=nM (Ei s.rm);rw[f]at m c;rw[g]at o c;clear f g;rw[AK];obtain⟨⟨X,Y,⟨⟨J,K,L⟩,M⟩,F⟩,⟨ab,ac,⟨⟨N,O,P⟩,bl⟩,H⟩⟩:=y;obtain⟨⟨S,U,Z⟩,⟨r0,aa,ad⟩,T,G,l⟩:=s;dsimp only at *;obtain⟨W,A⟩:∃n,F.length=n:=⟨_,rfl⟩;obtain⟨rn,B⟩:∃n,H.length=n:=⟨_,rfl⟩;rw[A,B];clear A B;go_enter func101,ntmps101;go_wp2_with fail;generalize h:(World.alloc w _)=V;have z:Ϝ w V:=by rw[<-h];exact Ϩ
 have u:Δ V w 7 (vI G):=by subst h;go_simp
 have v:Δ V w 8 (vI l):=by subst h;go_simp
 clear h;refine(m.o _).mono ?_;rintro e a ⟨rfl,i⟩;have t:Ϝ w a:=bT z i;have E:=cLz i u;have x:=cLz i v;clear u v i z m
 cases C with
 |false=>
  have b:ϛ (false=R):=by show _=_;rw[<-c.o];rfl
  go_wp2;go_ret;exact⟨Aa b.o,t⟩
 |true=>
  go_wp2_with fail;refine(o.o _).mono ?_;rintro e I ⟨rfl,r⟩;have j:Ϝ w I:=bT t r;have Q:=cLz r x;clear E x r t o
  cases D with
  |false=>
   have b:ϛ (false=R):=by show _=_;rw[<-c.o];rfl
   go_wp2;go_ret;exact⟨Aa b.o,j⟩
  |true=>
   have b:ϛ (R=bf.BG l 0 1099511627776):=by show _=_;rw[<-c.o];rfl
   by_cases f:0<=l
   ·by_cases g:l<=1099511627776
    ·have d:ϛ (true=R):=by show _=_;rw[b.o];exact((bf.BN _ _ _).2 ⟨f,g⟩).symm
     go_wp2;go_ret;exact⟨Aa d.o,j⟩
    ·have d:ϛ (false=R):=by show _=_;rw[b.o];exact((bf.F3 _ _ _).2 (λk=>g k.2)).symm
     go_wp2;go_ret;exact⟨Aa (by rw[decide_eq_false ϝ];exact d.o),j⟩
   ·have d:ϛ (false=R):=by show _=_;rw[b.o];exact((bf.F3 _ _ _).2 (λk=>f k.1)).symm
    go_wp2;go_ret;exact⟨Aa d.o,j⟩
theorem Cz(p:pl.Pln)(x:pl.PA)(s:Jn)(y:JX)(w:ϙ)(D:pl.wfPlan p)(C:pl.planAt w p x)(h:joinAt w s y)(o:wfJ s)(Z:(bf.Ac s.L).length<=100000)(hr:(bf.Ac s.R).length<=100000):
 η 102 #[pl.Ap p x,joinV s y] w (θ w (.bool (Ht p s))):=by
 have r:ϛ (∀a,Ϝ w a->CT 170 #[joinV s y] a (θ a (.bool (MN s)))):=λa f=>Of s y a (h.below f) (λz q=>(by
  rcases List.mem_append.1 q with k|k
  ·exact(o.l.ents z k).2.seq
  ·exact(o.r.ents z k).2.seq)) Z hr
 have l:=hIz (λ(a:ϙ) (f:Ϝ w a)=>IF p x 1 s.L y.l a D (pl.Ae C f) (bf.An h.l f) (λz q=>(o.l.ents z q).1));have m:=hIz (λ(a:ϙ) (f:Ϝ w a)=>IF p x 2 s.R y.r a D (pl.Ae C f) (bf.An h.r f) (λz q=>(o.r.ents z q).1));obtain⟨R,A⟩:=nM (Ht p s);have b:=hqz A;rw[A];clear A D C h o Z hr;unfold Ht at b;obtain⟨S,U⟩:=nM (MN s);obtain⟨B1,W⟩:=nM (L2 p 1 s.L);obtain⟨B2,X⟩:=nM (L2 p 2 s.R);rw[U]at r b;rw[W]at l b;rw[X]at m b;clear U W X;unfold pl.Ap at l m⊢;rw[AK]at r⊢;unfold bf.AZ bf.hdV at l m;go_enter func102,ntmps102;by_cases j:s.L.lim=p.limit
 rotate_left
 ·have aa:(s.L.lim==p.limit)=false:=by simpa using j
  have c:ϛ (false=R):=by show _=_;rw[<-b.o,decide_eq_false j];rfl
  go_wp2;go_ret;exact⟨Aa c.o,Ϩ.alloc ϟ _⟩
 have aa:(s.L.lim==p.limit)=true:=by simpa using j
 by_cases n:s.R.lim=p.limit
 rotate_left
 ·have ab:(s.R.lim==p.limit)=false:=by simpa using n
  have c:ϛ (false=R):=by show _=_;rw[<-b.o,decide_eq_false n,decide_eq_true j];rfl
  go_wp2;go_ret;exact⟨Aa c.o,Ϩ.alloc ϟ _⟩
 have ab:(s.R.lim==p.limit)=true:=by simpa using n
 rw[decide_eq_true j,decide_eq_true n]at b;clear j n;go_wp2_with fail;generalize t:(World.alloc (World.alloc w _) _)=V;have B:Ϝ w V:=by rw[<-t];exact Ϩ.alloc ϟ _
 have i:ϛ (Bh V w p x):=by
  subst t;exact Ah (Cg ..) Ϩ
 have g:ϛ (Cb V (w+1) s y):=by
  subst t;have:=Cs (ξ w (Φ p x) 32) s y 38;rw[World.size_alloc]at this;exact this
 clear t;refine(r.o _ B).mono ?_;rintro e a ⟨rfl,u⟩;have d:Ϝ w a:=bT B u;replace i:ϛ (Bh a w p x):=Ah i.o u;replace g:ϛ (Cb a (w+1) s y):=Az g.o u;clear u B r
 cases S with
 |false=>
  have c:ϛ (false=R):=by show _=_;rw[<-b.o];rfl
  go_wp2;go_ret;exact⟨Aa c.o,d⟩
 |true=>
  obtain⟨E,F,J,K,L,M,N,O,P,Q,G,H,I⟩:=i.o;obtain⟨u0,u1,u2,u3,u4,u5,u6,u7,u8⟩:=g.o;go_wp2_with fail;refine(l.o _ d).mono ?_;rintro e T ⟨rfl,v⟩;replace d:Ϝ w T:=bT d v;replace i:ϛ (Bh T w p x):=Ah i.o v;replace g:ϛ (Cb T (w+1) s y):=Az g.o v;clear E F J K L M N O P Q G H I u0 u1 u2 u3 u4 u5 u6 u7 u8 v l
  cases B1 with
  |false=>
   have c:ϛ (false=R):=by show _=_;rw[<-b.o];rfl
   go_wp2;go_ret;exact⟨Aa c.o,d⟩
  |true=>
   obtain⟨E,F,J,K,L,M,N,O,P,Q,G,H,I⟩:=i.o;obtain⟨u0,u1,u2,u3,u4,u5,u6,u7,u8⟩:=g.o;go_wp2_with fail;refine(m.o _ d).mono ?_;rintro e w3 ⟨rfl,Y⟩;replace d:Ϝ w w3:=bT d Y;have c:ϛ (B2=R):=by show _=_;rw[<-b.o];rfl
   clear E F J K L M N O P Q G H I u0 u1 u2 u3 u4 u5 u6 u7 u8 Y m;go_wp2;go_ret;exact⟨Aa c.o,d⟩
theorem AH(p:pl.Pln)(x:pl.PA)(s:Jn)(y:JX)(w:ϙ)(J:pl.wfPlan p)(I:pl.planAt w p x)(h:joinAt w s y)(k:wfJ s):
 η 50 #[pl.Ap p x,joinV s y] w (θ w (vI (AQ p s))):=by
 have n:=hIz (λ(a:ϙ) (i:Ϝ w a)=>pl.C0 p x a J (pl.Ae I i));have m:=hIz (λ(a:ϙ) (i:Ϝ w a)=>bf.AH s.L y.l a (bf.An h.l i) k.l.ents k.l.size);have o:=hIz (λ(a:ϙ) (i:Ϝ w a)=>bf.AH s.R y.r a (bf.An h.r i) k.r.ents k.r.size);have l:=hIz (λ(a:ϙ)=>EK s y a);have j:ϛ (bf.FV s.L=0->bf.FV s.R=0->∀a,Ϝ w a->CT 102 #[pl.Ap p x,joinV s y] a (θ a (.bool (Ht p s)))):=λq r a i=>Cz p x s y a J (pl.Ae I i) (h.below i) k (by have:=(bf.FU q).all;omega) (by have:=(bf.FU r).all;omega);obtain⟨R,E⟩:=nM (AQ p s);have c:=hqz E;rw[E];clear E J I h k;unfold AQ at c;obtain⟨B,q⟩:=nM (pl.Ag p);obtain⟨C,r⟩:=nM (bf.FV s.L);obtain⟨D,P⟩:=nM (bf.FV s.R);obtain⟨G,Q⟩:=nM (E7 s);obtain⟨F,S⟩:=nM (Ht p s);rw[q]at n c;rw[r]at m j c;rw[P]at o j c;rw[Q]at l c;rw[S]at j c;clear q r P Q S;unfold pl.Ap at n j⊢;rw[AK]at l j⊢;unfold bf.AZ bf.hdV at m o;go_enter func50,ntmps50;go_wp2_with fail;generalize t:(World.alloc (World.alloc w _) _)=V;have H:Ϝ w V:=by rw[<-t];exact Ϩ.alloc ϟ _
 have g:ϛ (Bh V w p x):=by
  subst t;exact Ah (Cg ..) Ϩ
 have d:ϛ (Cb V (w+1) s y):=by
  subst t;have:=Cs (ξ w (Φ p x) 32) s y 38;rw[World.size_alloc]at this;exact this
 clear t;refine(n.o _ H).mono ?_;rintro e a ⟨rfl,u⟩;have b:Ϝ w a:=bT H u;replace g:ϛ (Bh a w p x):=Ah g.o u;replace d:ϛ (Cb a (w+1) s y):=Az d.o u;clear u H n;by_cases K:B=0
 rotate_left
 ·have aa:(B !=0)=true:=by simpa using K
  have f:ϛ (B=R):=by show _=_;rw[<-c.o,if_pos K]
  go_wp2;go_ret;exact⟨Aj f.o,b⟩
 subst K;rw[if_neg Ϟ]at c;obtain⟨u0,u1,u2,u3,u4,u5,u6,u7,u8⟩:=d.o;go_wp2_with fail;refine(m.o _ b).mono ?_;rintro e N ⟨rfl,v⟩;replace b:Ϝ w N:=bT b v;replace g:ϛ (Bh N w p x):=Ah g.o v;replace d:ϛ (Cb N (w+1) s y):=Az d.o v;clear u0 u1 u2 u3 u4 u5 u6 u7 u8 v m;by_cases L:C=0
 rotate_left
 ·have ab:(C !=0)=true:=by simpa using L
  have f:ϛ (C=R):=by show _=_;rw[<-c.o,if_pos L]
  go_wp2;go_ret;exact⟨Aj f.o,b⟩
 subst L;rw[if_neg Ϟ]at c;obtain⟨u0,u1,u2,u3,u4,u5,u6,u7,u8⟩:=d.o;go_wp2_with fail;refine(o.o _ b).mono ?_;rintro e O ⟨rfl,z⟩;replace b:Ϝ w O:=bT b z;replace g:ϛ (Bh O w p x):=Ah g.o z;replace d:ϛ (Cb O (w+1) s y):=Az d.o z;clear u0 u1 u2 u3 u4 u5 u6 u7 u8 z o;by_cases M:D=0
 rotate_left
 ·have ac:(D !=0)=true:=by simpa using M
  have f:ϛ (D=R):=by show _=_;rw[<-c.o,if_pos M]
  go_wp2;go_ret;exact⟨Aj f.o,b⟩
 subst M;rw[if_neg Ϟ]at c;obtain⟨u0,u1,u2,u3,u4,u5,u6,u7,u8⟩:=d.o;go_wp2_with fail;refine(l.o _).mono ?_;rintro e w4 ⟨rfl,A⟩;replace b:Ϝ w w4:=bT b A;replace g:ϛ (Bh w4 w p x):=Ah g.o A;replace d:ϛ (Cb w4 (w+1) s y):=Az d.o A;clear u0 u1 u2 u3 u4 u5 u6 u7 u8 A l
 cases G with
 |false=>
  have f:ϛ ((3:Int)=R):=by show _=_;rw[<-c.o,if_pos rfl]
  go_wp2;go_ret;exact⟨Aj f.o,b⟩
 |true=>
  rw[if_neg Ϟ]at c;obtain⟨U,W,v2,v3,v4,v5,v6,v7,v8,v9,X,Y,Z⟩:=g.o;obtain⟨u0,u1,u2,u3,u4,u5,u6,u7,u8⟩:=d.o;go_wp2_with fail;refine(j.o ϥ ϥ _ b).mono ?_;rintro e w5 ⟨rfl,T⟩;replace b:Ϝ w w5:=bT b T;clear U W v2 v3 v4 v5 v6 v7 v8 v9 X Y Z u0 u1 u2 u3 u4 u5 u6 u7 u8 T j
  cases F with
  |false=>
   have f:ϛ ((1:Int)=R):=by show _=_;rw[<-c.o,if_pos rfl]
   go_wp2;go_ret;exact⟨Aj f.o,b⟩
  |true=>
   have f:ϛ ((0:Int)=R):=by show _=_;rw[<-c.o,if_neg Ϟ]
   go_wp2;go_ret;exact⟨Aj f.o,b⟩
end jn
namespace jn
open vl
variable {p : pl.Pln}
theorem GO{s:Jn}(h:AQ p s=0):pl.Ag p=0:=by
 unfold AQ at h;split at h
 ·exact h
 ·rename_i k;exact Decidable.not_not.1 k
theorem RL(h:pl.Ag p=0)(a:p.grouped=false):(pl.Dv p).length<=χ:=by
 have:=bt.ZQ h;unfold pl.Dv pl.Bb;rw[a,if_neg Ϟ,lAp];omega
theorem Ng(p:pl.Pln)(x:pl.PA)(w:ϙ)(a:p.grouped=false):
 η 51 #[pl.Ap p x,ψ] w (θ w (vI 0)):=by
 unfold pl.Ap;rw[a];go_enter func51,ntmps51;go_wp2;go_ret;exact⟨rfl,Ϩ⟩
theorem Nh(p:pl.Pln)(x:pl.PA)(a:Ϛ)(l:Nat)(v:List ch.Cnt)(w:ϙ)(K:pl.wfPlan p)(J:pl.planAt w p x)(m:pl.Ag p=0)(G:p.grouped=false)(z:ch.viewAt w a v)(A:ch.BJ v)(y:v.length<=χ):
 η 52 #[pl.Ap p x,vS a v.length l] w (θ w (vI (if ch.Ar v≠0 then ch.Ar v else bt.Ej (pl.Dv p) v))):=by
 have k:=hIz (λ(b:ϙ) (d:Ϝ w b)=>ch.AH a l v b (ch.Bg z d) A y);have D:=hIz (λ(b:ϙ) (d:Ϝ w b)=>pl.UF p x b K (pl.Ae J d));have KV:=hIz (λ(b:ϙ) h C (d:Ϝ w b) (P:pl.Ay b h (pl.Dv p))=>bt.IH a h l C v (pl.Dv p) b y (ch.Bg z d) A P (RL m G));obtain⟨R,r⟩:=nM (if ch.Ar v≠0 then ch.Ar v else bt.Ej (pl.Dv p) v);have f:=hqz r;have M:=hqz m;rw[r];clear r K J z A y m G;obtain⟨i,o⟩:=nM (ch.Ar v);obtain⟨T,q⟩:=nM (bt.Ej (pl.Dv p) v);obtain⟨n,g⟩:=nM v.length;rw[o,g]at k;rw[q,g]at KV;rw[o,q]at f;rw[g];clear o q g;unfold pl.Ap at D⊢;go_enter func52,ntmps52;go_wp2_with fail;generalize s:(World.alloc w _)=V;have t:Ϝ w V:=by rw[<-s];exact Ϩ
 have j:ϛ (Bh V w p x):=by
  subst s;exact Cg ..
 clear s;refine(k.o _ t).mono ?_;rintro e b ⟨rfl,u⟩;have c:Ϝ w b:=bT t u;replace j:ϛ (Bh b w p x):=Ah j.o u;clear u t k;by_cases B:i=0
 rotate_left
 ·have U:(i !=0)=true:=by simpa using B
  have N:ϛ (i=R):=by show _=_;rw[<-f.o,if_pos B]
  go_wp2;go_ret;exact⟨Aj N.o,c⟩
 subst B;rw[if_neg Ϟ]at f;obtain⟨W,X,v2,v3,v4,v5,v6,v7,v8,v9,Y,Z,aa⟩:=j.o;go_wp2_with fail;refine(D.o _ c).mono ?_;rintro e L ⟨Q,F⟩;replace c:Ϝ w L:=bT c F;rcases Q with⟨S,_⟩|⟨_,h,C,rfl,H⟩
 ·exact absurd M.o S
 have E:=KV.o L h C c H;obtain⟨on,I⟩:=nM ((pl.Dv p).length);rw[I]at E⊢;clear I H F;go_wp2_with fail;refine E.mono ?_;rintro e w3 ⟨rfl,O⟩;go_wp2;go_ret;exact⟨Aj f.o,bT c O⟩
theorem TJ(p:pl.Pln)(x:pl.PA)(e:Eng)(y:EX)(w:ϙ)(t:pl.wfPlan p)(s:pl.planAt w p x)(r:p.grouped=false)(h:enAt w e y)(m:wfEn e):
 η 27 #[pl.Ap p x,enV e y] w (θ w (vI (Dt p e))):=by
 have f:=hIz (λ(a:ϙ) (g:Ϝ w a)=>AH p x e.j y.y a t (pl.Ae s g) (h.j.below g) m.j);have z:ϛ (∀a:World,CT 51 #[pl.Ap p x,ψ] a (θ a (vI 0))):=λa=>Ng p x a r;have KV:ϛ (AQ p e.j=0->∀a,Ϝ w a->CT 52 #[pl.Ap p x,vS y.va e.v.length y.vc] a (θ a (vI (if ch.Ar e.v≠0 then ch.Ar e.v else bt.Ej (pl.Dv p) e.v)))):=λQ a g=>Nh p x y.va y.vc e.v a t (pl.Ae s g) (GO Q) r (ch.Bg h.v g) m.v m.n;obtain⟨R,o⟩:=nM (Dt p e);have d:=hqz o;rw[o];clear o t s h m r;unfold Dt at d;obtain⟨n,A⟩:=nM (AQ p e.j);obtain⟨T,B⟩:=nM (if ch.Ar e.v≠0 then ch.Ar e.v else bt.Ej (pl.Dv p) e.v);rw[A]at f KV d;rw[B]at KV d;clear A B;unfold pl.Ap at f z KV⊢;rw[AK]at f;rw[ET];go_enter func27,ntmps27;go_wp2_with fail;generalize j:(World.alloc (World.alloc w _) _)=V;have q:Ϝ w V:=by rw[<-j];exact Ϩ.alloc ϟ _
 have c:ϛ (Bh V w p x):=by
  subst j;exact Ah (Cg ..) Ϩ
 have b:ϛ (Dp V (w.heap.size+1) e y):=by
  subst j;have:=Ey (ξ w (Φ p x) 32) e y 42;rw[World.size_alloc]at this;exact this
 clear j;refine(f.o _ q).mono ?_;rintro U a ⟨rfl,k⟩;have i:Ϝ w a:=bT q k;replace c:ϛ (Bh a w p x):=Ah c.o k;replace b:ϛ (Dp a (w.heap.size+1) e y):=Bl b.o k;clear k q f;by_cases u:n=0
 rotate_left
 ·have Y:(n !=0)=true:=by simpa using u
  have P:ϛ (n=R):=by show _=_;rw[<-d.o,if_pos u]
  go_wp2;go_ret;exact⟨Aj P.o,i⟩
 subst u;rw[if_neg Ϟ]at d;obtain⟨C,D,H,I,J,K,L,M,N,O,E,F,G⟩:=c.o;obtain⟨u0,u1,u2,u3,u4,u5,u6,u7,u8,u9,u10⟩:=b.o;go_wp2_with fail;refine(z.o _).mono ?_;rintro W v ⟨rfl,l⟩;replace i:Ϝ w v:=bT i l;replace c:ϛ (Bh v w p x):=Ah c.o l;replace b:ϛ (Dp v (w.heap.size+1) e y):=Bl b.o l;clear C D H I J K L M N O E F G u0 u1 u2 u3 u4 u5 u6 u7 u8 u9 u10 l;obtain⟨C,D,H,I,J,K,L,M,N,O,E,F,G⟩:=c.o;obtain⟨u0,u1,u2,u3,u4,u5,u6,u7,u8,u9,u10⟩:=b.o;go_wp2_with fail;refine(KV.o ϥ _ i).mono ?_;rintro X Z ⟨rfl,S⟩;go_wp2;go_ret;exact⟨Aj d.o,bT i S⟩
end jn
end Go.Proofs.YtfkihidbnfkbaaaGreatDoor
