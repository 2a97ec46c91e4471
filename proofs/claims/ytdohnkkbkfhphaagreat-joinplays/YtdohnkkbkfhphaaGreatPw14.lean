import Derived.Test.YtdohnkkbkfhphaaGreatPw13
set_option linter.all false
set_option maxHeartbeats 8000000
set_option maxRecDepth 100000
open Go.ChangeShapes Go.WideShapes Go.ChangeAt Go.RowKit
namespace Go.Proofs.YtdohnkkbkfhphaaGreat
open Go.Proofs.Tryz
namespace pl
open vl
variable {p : Pln} {t : Int}
theorem Ea(p:Pln)(x:PA)(w:ϛ)(hw:wfPlan p)(W:planAt w p x)(n1:0<p.left.length)(n2:0<p.right.length)(m1:p.left.length<=400)(m2:p.right.length<=400):
 η 64 #[Ak p x] w (θ w (.bool (decide (Bf p)))):=by
 have az:(BJ p).length<=800:=by unfold BJ;rw[lAp];omega
 have J:=hIz (λ(F:ϛ) (N:Ϟ w F)=>O6 p x F hw (Aj W N));have H:=hIz (λ(F:ϛ) (N:Ϟ w F)=>DK p x F (Aj W N) n1 n2 m1 m2);have L:=hIz (λR U (F:ϛ) (N:Ϟ w F)=>Fj x.g R x.gc U (BJ p).length p.group F hw.g ϟ (Au W.g N));have I:=hIz (λR U (F:ϛ) (N:Ϟ w F) (hi:AA F R (BJ p))=>O7 x.a R x.ac U p.aggs (BJ p) F hw.a ϟ (DW W.a N) hi);have G:ϝ (decide (Bf p)=(decide (p.low<=p.high)&&decide (I1 p)&&decide (Bo p.group (BJ p).length)&&decide (Hn (BJ p) p.aggs))):=by
  refine(Ee ?_).symm;unfold Bf;simp only[Bool.and_eq_true,decide_eq_true_eq,and_assoc];exact Iff.rfl
 obtain⟨q1,ar⟩:=nM (decide (I1 p));obtain⟨q2,au⟩:=nM (decide (Bo p.group (BJ p).length));obtain⟨q3,av⟩:=nM (decide (Hn (BJ p) p.aggs));rw[ar]at J G;rw[au]at L G;rw[av]at I G;obtain⟨cn,ap⟩:=nM ((BJ p).length);rw[ap]at H L I;obtain⟨cs,aq⟩:=nM (BJ p);rw[aq]at H I;clear ar au av ap aq az hw W n1 n2 m1 m2;obtain⟨ag,aj,P,O,an,ah,left,right,bb,bc,aa,ax,aw⟩:=p;obtain⟨l,lc,r,rc,lk,ai,rk,am,g,Z,a,Y⟩:=x;unfold Ak at J H⊢;dsimp only at J H L I G⊢;obtain⟨n6,h6⟩:∃n,left.length=n:=⟨_,rfl⟩;obtain⟨n7,h7⟩:∃n,right.length=n:=⟨_,rfl⟩;obtain⟨n8,h8⟩:∃n,bb.length=n:=⟨_,rfl⟩;obtain⟨n9,h9⟩:∃n,bc.length=n:=⟨_,rfl⟩;obtain⟨ak,ab⟩:∃n,ax.length=n:=⟨_,rfl⟩;obtain⟨al,ae⟩:∃n,aw.length=n:=⟨_,rfl⟩;rw[h6,h7,h8,h9,ab,ae]at J H;rw[ab]at L;rw[ae]at I;rw[h6,h7,h8,h9,ab,ae];clear h6 h7 h8 h9 ab ae;by_cases T:P<=O
 ·have t0:=QU (x:=P) (y:=O) true (decide_eq_true T);rw[decide_eq_true T]at G;clear T
  cases q1
  ·clear H L I;go_enter func64,ntmps64;go_wp2;refine wp_region_held_drew (S:=(λQ=>ώ Q w (vI ag) (vI aj) (vI P) (vI O) (vI an) (vI ah) (vS l n6 lc) (vS r n7 rc) (vS lk n8 ai) (vS rk n9 am) (.bool aa) (vS g ak Z) (vS a al Y))) Ϣ ⟨ϣ,ϣ,ϣ,ϣ,ϣ,ϣ,ϣ,ϣ,ϣ,ϣ,ϣ,ϣ,ϣ⟩ (λb=>?_);refine tkz 0 3 b ?_;refine tkz 1 4 b ?_;refine tkz 2 5 b ?_;refine tkz 3 6 b ?_;refine tkz 4 7 b ?_;refine tkz 5 8 b ?_;refine tkz 6 9 b ?_;refine rD 7 λK h=>?_;go_simp;refine(J.o _ (by first|exact Ϫ.drew|exact Ϫ)).mono ?_;rintro e X ⟨rfl,c⟩;have M:Ϟ w X:=(by first|exact(Ϫ.drew).trans (c.mono ϡ)|exact Ϫ.trans (c.mono ϡ));go_wp2_with fail;refine h.out _ _ (by obtain⟨i,j,q,s,u,v,z,A,B,C,k,m,o⟩:=b;exact⟨cLz c i,cLz c j,cLz c q,cLz c s,cLz c u,cLz c v,cLz c z,cLz c A,cLz c B,cLz c C,cLz c k,cLz c m,cLz c o⟩) (λb=>?_);clear h K
   try simp only[Act.put,sI,sZ,sSz]
   refine tkz 8 11 b ?_;refine tkz 9 12 b ?_;refine sk 10 13 b ?_;refine sk 11 14 b ?_;refine sk 12 15 b ?_;refine sk 13 16 b ?_;refine sk 14 17 b ?_;refine tkz 15 18 b ?_;refine tkz 16 19 b ?_;refine sk 17 20 b ?_;refine sk 18 21 b ?_;refine sk 19 22 b ?_;refine sk 20 23 b ?_;refine sk 21 24 b ?_;refine tkz 22 25 b ?_;refine tkz 23 2 b ?_;refine wpAnyH_done Ϣ ?_ _;go_wp2;go_ret;exact⟨Ab (by rw[G.o];first|rfl|simp),by first|exact M|exact(Ϫ.drew)|exact Ϫ⟩
  ·cases q2
   ·clear I;go_enter func64,ntmps64;go_wp2;refine wp_region_held_drew (S:=(λQ=>ώ Q w (vI ag) (vI aj) (vI P) (vI O) (vI an) (vI ah) (vS l n6 lc) (vS r n7 rc) (vS lk n8 ai) (vS rk n9 am) (.bool aa) (vS g ak Z) (vS a al Y))) Ϣ ⟨ϣ,ϣ,ϣ,ϣ,ϣ,ϣ,ϣ,ϣ,ϣ,ϣ,ϣ,ϣ,ϣ⟩ (λb=>?_);refine tkz 0 3 b ?_;refine tkz 1 4 b ?_;refine tkz 2 5 b ?_;refine tkz 3 6 b ?_;refine tkz 4 7 b ?_;refine tkz 5 8 b ?_;refine tkz 6 9 b ?_;refine rD 7 λK h=>?_;go_simp;refine(J.o _ (by first|exact Ϫ.drew|exact Ϫ)).mono ?_;rintro e X ⟨rfl,c⟩;have M:Ϟ w X:=(by first|exact(Ϫ.drew).trans (c.mono ϡ)|exact Ϫ.trans (c.mono ϡ));go_wp2_with fail;refine h.out _ _ (by obtain⟨i,j,q,s,u,v,z,A,B,C,k,m,o⟩:=b;exact⟨cLz c i,cLz c j,cLz c q,cLz c s,cLz c u,cLz c v,cLz c z,cLz c A,cLz c B,cLz c C,cLz c k,cLz c m,cLz c o⟩) (λb=>?_);clear h K
    try simp only[Act.put,sI,sZ,sSz]
    refine tkz 8 11 b ?_;refine tkz 9 12 b ?_;refine tkz 10 13 b ?_;refine tkz 11 14 b ?_;refine tkz 12 15 b ?_;refine rD 13 λK h=>?_;go_simp;refine(H.o _ M).mono ?_;rintro e wb ⟨⟨R,U,rfl,ho⟩,d⟩;have V:=bT M d;go_wp2_with fail;refine h.out _ _ (by obtain⟨i,j,q,s,u,v,z,A,B,C,k,m,o⟩:=b;exact⟨cLz d i,cLz d j,cLz d q,cLz d s,cLz d u,cLz d v,cLz d z,cLz d A,cLz d B,cLz d C,cLz d k,cLz d m,cLz d o⟩) (λb=>?_);clear h K
    try simp only[Act.put,sI,sZ,sSz]
    refine rD 14 λK h=>?_;go_simp;refine(L.o _ _ _ V).mono ?_;rintro e wc ⟨rfl,f⟩;have af:=bT V f;go_wp2_with fail;refine h.out _ _ (by obtain⟨i,j,q,s,u,v,z,A,B,C,k,m,o⟩:=b;exact⟨cLz f i,cLz f j,cLz f q,cLz f s,cLz f u,cLz f v,cLz f z,cLz f A,cLz f B,cLz f C,cLz f k,cLz f m,cLz f o⟩) (λb=>?_);clear h K
    try simp only[Act.put,sI,sZ,sSz]
    refine tkz 15 18 b ?_;refine tkz 16 19 b ?_;refine sk 17 20 b ?_;refine sk 18 21 b ?_;refine sk 19 22 b ?_;refine sk 20 23 b ?_;refine sk 21 24 b ?_;refine tkz 22 25 b ?_;refine tkz 23 2 b ?_;refine wpAnyH_done Ϣ ?_ _;go_wp2;go_ret;exact⟨Ab (by rw[G.o];first|rfl|simp),by first|exact af|exact(Ϫ.drew)|exact Ϫ⟩
   ·cases q3
    all_goals
     go_enter func64,ntmps64;go_wp2;refine wp_region_held_drew (S:=(λQ=>ώ Q w (vI ag) (vI aj) (vI P) (vI O) (vI an) (vI ah) (vS l n6 lc) (vS r n7 rc) (vS lk n8 ai) (vS rk n9 am) (.bool aa) (vS g ak Z) (vS a al Y))) Ϣ ⟨ϣ,ϣ,ϣ,ϣ,ϣ,ϣ,ϣ,ϣ,ϣ,ϣ,ϣ,ϣ,ϣ⟩ (λb=>?_);refine tkz 0 3 b ?_;refine tkz 1 4 b ?_;refine tkz 2 5 b ?_;refine tkz 3 6 b ?_;refine tkz 4 7 b ?_;refine tkz 5 8 b ?_;refine tkz 6 9 b ?_;refine rD 7 λK h=>?_;go_simp;refine(J.o _ (by first|exact Ϫ.drew|exact Ϫ)).mono ?_;rintro e X ⟨rfl,c⟩;have M:Ϟ w X:=(by first|exact(Ϫ.drew).trans (c.mono ϡ)|exact Ϫ.trans (c.mono ϡ));go_wp2_with fail;refine h.out _ _ (by obtain⟨i,j,q,s,u,v,z,A,B,C,k,m,o⟩:=b;exact⟨cLz c i,cLz c j,cLz c q,cLz c s,cLz c u,cLz c v,cLz c z,cLz c A,cLz c B,cLz c C,cLz c k,cLz c m,cLz c o⟩) (λb=>?_);clear h K
     try simp only[Act.put,sI,sZ,sSz]
     refine tkz 8 11 b ?_;refine tkz 9 12 b ?_;refine tkz 10 13 b ?_;refine tkz 11 14 b ?_;refine tkz 12 15 b ?_;refine rD 13 λK h=>?_;go_simp;refine(H.o _ M).mono ?_;rintro e wb ⟨⟨R,U,rfl,ho⟩,d⟩;have V:=bT M d;go_wp2_with fail;refine h.out _ _ (by obtain⟨i,j,q,s,u,v,z,A,B,C,k,m,o⟩:=b;exact⟨cLz d i,cLz d j,cLz d q,cLz d s,cLz d u,cLz d v,cLz d z,cLz d A,cLz d B,cLz d C,cLz d k,cLz d m,cLz d o⟩) (λb=>?_);clear h K
     try simp only[Act.put,sI,sZ,sSz]
     refine rD 14 λK h=>?_;go_simp;refine(L.o _ _ _ V).mono ?_;rintro e wc ⟨rfl,f⟩;have af:=bT V f;go_wp2_with fail;refine h.out _ _ (by obtain⟨i,j,q,s,u,v,z,A,B,C,k,m,o⟩:=b;exact⟨cLz f i,cLz f j,cLz f q,cLz f s,cLz f u,cLz f v,cLz f z,cLz f A,cLz f B,cLz f C,cLz f k,cLz f m,cLz f o⟩) (λb=>?_);clear h K
     try simp only[Act.put,sI,sZ,sSz]
     refine tkz 15 18 b ?_;refine tkz 16 19 b ?_;refine tkz 17 20 b ?_;refine tkz 18 21 b ?_;refine tkz 19 22 b ?_;refine rD 20 λK h=>?_;go_simp;refine(H.o _ af).mono ?_;rintro e wd ⟨⟨bd,be,rfl,ba⟩,D⟩;have ao:=bT af D;go_wp2_with fail;refine h.out _ _ (by obtain⟨i,j,q,s,u,v,z,A,B,C,k,m,o⟩:=b;exact⟨cLz D i,cLz D j,cLz D q,cLz D s,cLz D u,cLz D v,cLz D z,cLz D A,cLz D B,cLz D C,cLz D k,cLz D m,cLz D o⟩) (λb=>?_);clear h K
     try simp only[Act.put,sI,sZ,sSz]
     refine rD 21 λK h=>?_;go_simp;refine(I.o _ _ _ ao (Le ba).1).mono ?_;rintro e we ⟨rfl,E⟩;have ay:=bT ao E;go_wp2_with fail;refine h.out _ _ (by obtain⟨i,j,q,s,u,v,z,A,B,C,k,m,o⟩:=b;exact⟨cLz E i,cLz E j,cLz E q,cLz E s,cLz E u,cLz E v,cLz E z,cLz E A,cLz E B,cLz E C,cLz E k,cLz E m,cLz E o⟩) (λb=>?_);clear h K
     try simp only[Act.put,sI,sZ,sSz]
     refine tkz 22 25 b ?_;refine tkz 23 2 b ?_;refine wpAnyH_done Ϣ ?_ _;go_wp2;go_ret;exact⟨Ab (by rw[G.o];first|rfl|simp),by first|exact ay|exact(Ϫ.drew)|exact Ϫ⟩
 ·have t0:=QU (x:=P) (y:=O) false (decide_eq_false T);rw[decide_eq_false T]at G;clear T J H L I;go_enter func64,ntmps64;go_wp2;refine wp_region_held_drew (S:=(λQ=>ώ Q w (vI ag) (vI aj) (vI P) (vI O) (vI an) (vI ah) (vS l n6 lc) (vS r n7 rc) (vS lk n8 ai) (vS rk n9 am) (.bool aa) (vS g ak Z) (vS a al Y))) Ϣ ⟨ϣ,ϣ,ϣ,ϣ,ϣ,ϣ,ϣ,ϣ,ϣ,ϣ,ϣ,ϣ,ϣ⟩ (λb=>?_);refine tkz 0 3 b ?_;refine tkz 1 4 b ?_;refine tkz 2 5 b ?_;refine tkz 3 6 b ?_;refine tkz 4 7 b ?_;refine tkz 5 8 b ?_;refine sk 6 9 b ?_;refine sk 7 10 b ?_;refine tkz 8 11 b ?_;refine tkz 9 12 b ?_;refine sk 10 13 b ?_;refine sk 11 14 b ?_;refine sk 12 15 b ?_;refine sk 13 16 b ?_;refine sk 14 17 b ?_;refine tkz 15 18 b ?_;refine tkz 16 19 b ?_;refine sk 17 20 b ?_;refine sk 18 21 b ?_;refine sk 19 22 b ?_;refine sk 20 23 b ?_;refine sk 21 24 b ?_;refine tkz 22 25 b ?_;refine tkz 23 2 b ?_;refine wpAnyH_done Ϣ ?_ _;go_wp2;go_ret;exact⟨Ab (by rw[G.o];first|rfl|simp),by first|exact M|exact(Ϫ.drew)|exact Ϫ⟩
def WK(a b c d e:Bool):Int:=if a=false then 4 else if b=false then 3 else if c=false then 2 else if d=false then 5 else if e=false then 1 else 0
theorem Lg(p:Pln):Al p=WK (decide (Bw p)) (decide (BH p)) (decide (Cy p)) (decide (CR p)) (decide (Bf p)):=by
 unfold Al WK;simp only[decide_eq_false_iff_not]
theorem DI(h:Cy p):(0<p.left.length/\p.left.length<=4)/\(0<p.right.length/\p.right.length<=4)/\(0<p.lkeys.length/\p.lkeys.length<=4)/\(0<p.rkeys.length/\p.rkeys.length<=4)/\p.aggs.length<=4/\p.group.length<=8:=by
 obtain⟨⟨b,c,d,e⟩,a⟩:=h;unfold K9 at b c d e a;split at a
 ·omega
 ·omega
theorem EO(p:Pln)(x:PA)(w:ϛ)(o:wfPlan p)(m:planAt w p x):
 η 27 #[Ak p x] w (θ w (vI (Al p))):=by
 have i:=hIz (λ(b:ϛ) (d:Ϟ w b)=>Oj p x b (Aj m d) o);have j:=hIz (λ(b:ϛ) (d:Ϟ w b)=>Ff p x b);have k:=hIz (λ(b:ϛ) (d:Ϟ w b)=>Fi p x b o);have f:ϝ (∀b,Ϟ w b->yes (decide (Cy p)) (CT 63 #[Ak p x] b (θ b (.bool (decide (CR p)))))):=λb d I=>by
  have X:=DI (of_decide_eq_true I);exact Om p x b (Aj m d) ϟ ϟ ϟ ϟ
 have h:ϝ (∀b,Ϟ w b->yes (decide (Cy p)) (CT 64 #[Ak p x] b (θ b (.bool (decide (Bf p)))))):=λb d I=>by
  have X:=DI (of_decide_eq_true I);exact Ea p x b o (Aj m d) ϟ ϟ ϟ ϟ
 have c:ϝ (Al p=WK (decide (Bw p)) (decide (BH p)) (decide (Cy p)) (decide (CR p)) (decide (Bf p))):=Lg p;obtain⟨q1,M⟩:=nM (decide (Bw p));obtain⟨q2,N⟩:=nM (decide (BH p));obtain⟨q3,O⟩:=nM (decide (Cy p));obtain⟨q4,P⟩:=nM (decide (CR p));obtain⟨q5,Q⟩:=nM (decide (Bf p));rw[M]at i c;rw[N]at j c;rw[O]at k f h c;rw[P]at f c;rw[Q]at h c;clear M N O P Q o m;obtain⟨Y,ab,aa,W,ad,Z,left,right,R,S,T,K,J⟩:=p;obtain⟨l,lc,r,rc,lk,aq,rk,av,g,gc,a,ac⟩:=x;unfold Ak at i j k f h⊢;dsimp only at i j k f h⊢;obtain⟨n6,u⟩:∃n,left.length=n:=⟨_,rfl⟩;obtain⟨n7,v⟩:∃n,right.length=n:=⟨_,rfl⟩;obtain⟨n8,y⟩:∃n,R.length=n:=⟨_,rfl⟩;obtain⟨n9,z⟩:∃n,S.length=n:=⟨_,rfl⟩;obtain⟨ar,q⟩:∃n,K.length=n:=⟨_,rfl⟩;obtain⟨au,s⟩:∃n,J.length=n:=⟨_,rfl⟩;rw[u,v,y,z,q,s]at i j k f h;rw[u,v,y,z,q,s];clear u v y z q s;obtain⟨pe,L⟩:=nM (Al ⟨Y,ab,aa,W,ad,Z,left,right,R,S,T,K,J⟩);rw[L]at c⊢;clear L;go_enter func27,ntmps27;go_wp2_with fail;refine(i.o _ Ϫ).mono ?_;rintro e b ⟨rfl,A⟩;have E:=Ϫ.trans (A.mono ϡ);obtain⟨ae,ai⟩:=D3 A;have am:w.heap.size<b.heap.size:=(by have:=A.size;simp at this;omega)
 cases q1
 ·go_wp2;go_ret;exact⟨Af c.o.symm,E⟩
 go_wp2_with fail;refine(j.o _ E).mono ?_;rintro e w2 ⟨rfl,B⟩;have F:=bT E B;obtain⟨af,aj⟩:=D3 B;have an:w.heap.size<w2.heap.size:=(by have:=B.size;omega)
 cases q2
 ·go_wp2;go_ret;exact⟨Af c.o.symm,F⟩
 go_wp2_with fail;refine(k.o _ F).mono ?_;rintro e w3 ⟨rfl,C⟩;have G:=bT F C;obtain⟨ag,ak⟩:=D3 C;have ao:w.heap.size<w3.heap.size:=(by have:=C.size;omega)
 cases q3
 ·go_wp2;go_ret;exact⟨Af c.o.symm,G⟩
 go_wp2_with fail;refine(f.o _ G rfl).mono ?_;rintro e w4 ⟨rfl,D⟩;have H:=bT G D;obtain⟨ah,al⟩:=D3 D;have ap:w.heap.size<w4.heap.size:=(by have:=D.size;omega)
 cases q4
 ·go_wp2;go_ret;exact⟨Af c.o.symm,H⟩
 go_wp2_with fail;refine(h.o _ H rfl).mono ?_;rintro e w5 ⟨rfl,U⟩;have V:=bT H U
 cases q5
 all_goals
  go_wp2;go_ret;exact⟨Af c.o.symm,V⟩
def LG(p:Pln):Prop:=4<p.left.length\/4<p.right.length\/4<p.lkeys.length\/4<p.rkeys.length\/4<p.aggs.length\/8<p.group.length
theorem WL(h:LG p):¬Cy p:=λa=>by
 have:=DI a;unfold LG at h;omega
theorem YS(h:LG p):Al p=if decide (Bw p)=false then 4 else if decide (BH p)=false then 3 else 2:=by
 rw[Lg];unfold WK;rw[decide_eq_false (WL h)];simp
def bare(p:Pln):Pln:={p with aggs:=[]}
def YT(x:PA):PA:={x with a:=none,ac:=0}
theorem Tz(h:p.grouped=true->∀i,i<p.aggs.length->A8 (p.aggs.getD i (0,0)).1 1 4=true):decide (Bw (bare p))=decide (Bw p):=by
 rw[Jb,Jb];unfold bare;dsimp only;have e:Je []=true:=rfl;rw[e]
 cases hg:p.grouped with
 |false=>rfl
 |true=>rw[Ts (h hg)]
theorem WM{i:Nat}(a:p.grouped=true)(b:i<p.aggs.length)(h:A8 (p.aggs.getD i (0,0)).1 1 4=false):decide (Bw p)=false:=by
 rw[Jb,a,Wx b h];simp
theorem Mb(p:Pln)(x:PA)(w:ϛ)(d:wfPlan p)(E:planAt w p x)(F:¬LG p):
 η 10 #[Ak p x] w (θ w (vI (Al p))):=by
 have u:=hIz (λ(b:ϛ) (o:Ϟ w b)=>Gu p x b (DW E.a o) d.a);have v:=hIz (λ(b:ϛ) (o:Ϟ w b)=>Ir p x b);have y:=hIz (λ(b:ϛ) (o:Ϟ w b)=>Ou p x b d);have f:ϝ (∀b,Ϟ w b->yes (decide (Cy p)) (CT 33 #[Ak p x] b λe H=>(∃D J,e= .returned (vS D (BJ p).length J)/\Dm H b.heap.size (vS D (BJ p).length J) (BJ p))/\Ϟ b H)):=λb o A=>by
  have ag:=DI (of_decide_eq_true A);exact N0 p x b (Aj E o) ϟ ϟ ϟ ϟ
 have q:ϝ (∀b,Ϟ w b->yes (decide (Cy p)) (CT 34 #[Ak p x] b (θ b (.bool (!decide (Bf p)))))):=λb o A=>by
  have ag:=DI (of_decide_eq_true A);exact Ov p x b d (Aj E o) ϟ ϟ ϟ ϟ
 have c:ϝ (Al p=WK (decide (Bw p)) (decide (BH p)) (decide (Cy p)) (decide (CR p)) (decide (Bf p))):=Lg p;have C:ϝ (∀i,i<(BJ p).length->A8 ((BJ p).getD i 0) 1 3=false->decide (CR p)=false):=λi hi h=>by rw[LF];exact Eh hi h
 have B:ϝ ((∀i,i<(BJ p).length->A8 ((BJ p).getD i 0) 1 3=true)->decide (CR p)=true):=λh=>by rw[LF];exact Bb.2 h
 have s:yes (decide (Cy p)) ((BJ p).length<=8):=λA=>by
  have ag:=DI (of_decide_eq_true A);unfold BJ;rw[lAp];omega
 obtain⟨q1,ai⟩:=nM (decide (Bw p));obtain⟨q2,aj⟩:=nM (decide (BH p));obtain⟨q3,ak⟩:=nM (decide (Cy p));obtain⟨q4,al⟩:=nM (decide (CR p));obtain⟨q5,am⟩:=nM (decide (Bf p));rw[ai]at u c;rw[aj]at v c;rw[ak]at y f q c s;rw[al]at c C B;rw[am]at q c;obtain⟨m,ae⟩:=nM (BJ p);rw[ae]at f C B s;obtain⟨G,ah⟩:=nM (Al p);rw[ah]at c⊢;unfold LG at F;clear ai aj ak al am d E ae ah;obtain⟨bg,bk,bj,a9,bn,bh,left,right,av,ay,az,aq,ap⟩:=p;obtain⟨l,lc,r,rc,lk,bi,rk,bm,g,gc,a,ac⟩:=x;unfold Ak at u v y f q⊢;dsimp only at u v y f q F⊢;obtain⟨n6,M⟩:∃n,left.length=n:=⟨_,rfl⟩;obtain⟨n7,N⟩:∃n,right.length=n:=⟨_,rfl⟩;obtain⟨n8,O⟩:∃n,av.length=n:=⟨_,rfl⟩;obtain⟨n9,P⟩:∃n,ay.length=n:=⟨_,rfl⟩;obtain⟨aw,K⟩:∃n,aq.length=n:=⟨_,rfl⟩;obtain⟨ax,L⟩:∃n,ap.length=n:=⟨_,rfl⟩;obtain⟨z,Y⟩:∃n,m.length=n:=⟨_,rfl⟩;have an:ϝ (m.length=z):=Y;rw[M,N,O,P,K,L]at u v y f q F;rw[Y]at f C B s;rw[M,N,O,P,K,L];have t6:¬(4:Int)<(n6:Int):=ϟ;have t7:¬(4:Int)<(n7:Int):=ϟ;have t8:¬(4:Int)<(n8:Int):=ϟ;have t9:¬(4:Int)<(n9:Int):=ϟ;have bo:¬(8:Int)<(aw:Int):=ϟ;have bp:¬(4:Int)<(ax:Int):=ϟ;clear M N O P K L Y F;go_enter func10,ntmps10;go_wp2_with fail;refine(u.o _ Ϫ).mono ?_;rintro e b ⟨rfl,Q⟩;have U:=Ϫ.trans (Q.mono ϡ);obtain⟨a0,a5⟩:=D3 Q;have ba:w.heap.size<b.heap.size:=(by have:=Q.size;simp at this;omega)
 cases q1
 ·go_wp2;go_ret;exact⟨Af c.o.symm,U⟩
 go_wp2_with fail;refine(v.o _ U).mono ?_;rintro e w2 ⟨rfl,R⟩;have V:=bT U R;obtain⟨a1,a6⟩:=D3 R;have bb:w.heap.size<w2.heap.size:=(by have:=R.size;omega)
 cases q2
 ·go_wp2;go_ret;exact⟨Af c.o.symm,V⟩
 go_wp2_with fail;refine(y.o _ V).mono ?_;rintro e w3 ⟨rfl,S⟩;have W:=bT V S;obtain⟨a2,a7⟩:=D3 S;have bd:w.heap.size<w3.heap.size:=(by have:=S.size;omega)
 cases q3
 ·go_wp2;go_ret;exact⟨Af c.o.symm,W⟩
 go_wp2_with fail;refine(f.o _ W rfl).mono ?_;rintro e w4 ⟨⟨D,J,rfl,ho⟩,T⟩;have X:=bT W T;have ao:ϝ (AA w4 D m):=(Le ho).1;obtain⟨a3,a8⟩:=D3 T;have be:w.heap.size<w4.heap.size:=(by have:=T.size;omega);have a4:=s rfl;clear ho s;go_wp2
 go_loop [6] (λi=> ∃k:Nat,k<=z/\i=vI k/\∀j,j<k->A8 (m.getD j 0) 1 3=true) (λi=>z - (intOf i).toNat)
 case atStart=>exact⟨0,Nat.zero_le _,rfl,λi hi=>absurd hi (Nat.not_lt_zero i)⟩
 case round=>
  obtain⟨k,hk,rfl,ab⟩:=hrel;have HA:ϝ (∀j,j<k->A8 (m.getD j 0) 1 3=true):=ab;clear ab;by_cases af:k<z
  ·obtain⟨bc,oc,ec,xc⟩:=ao.o k (by rw[an.o];exact af);subst ec;have i1:(0:Int)<=(k:Int):=ϟ;have i2:(k:Int)<(z:Int):=ϟ;obtain⟨cv,Z⟩:=nM (m.getD k 0);have aa:ϝ (m.getD k 0=cv):=Z;rw[Z]at xc;clear Z
   cases pc:A8 cv 1 3 with
   |true=>
    go_wp2_with
     (go_at_call 29;refine(Ar _ _ _ _).mono ?_;rintro e H ⟨rfl,d⟩;subst d)
    go_round
    case rel=>exact⟨k+1,ϟ,by go_num,λj hj=>by
     rcases Nat.lt_succ_iff_lt_or_eq.1 hj with h|h
     ·exact HA.o j h
     ·rw[h,aa.o];exact pc⟩
    case measure=>simp[intOf];omega
   |false=>
    have I:ϝ (G=5):=by
     show G=5;rw[c.o,C.o k af (by rw[aa.o];exact pc)];rfl
    go_wp2_with
     (go_at_call 29;refine(Ar _ _ _ _).mono ?_;rintro e H ⟨rfl,d⟩;subst d)
    go_ret;exact⟨Af I.o.symm,X⟩
  ·have I:ϝ (G=WK true true true true q5):=by
    show G=_;rw[c.o,B.o (λj hj=>HA.o j ϟ)]
   go_wp2_with fail;refine(q.o _ X rfl).mono ?_;rintro e w5 ⟨rfl,ar⟩;have au:=bT X ar
   cases q5
   all_goals
    go_wp2;go_ret;exact⟨Af I.o.symm,au⟩
theorem T0{a b c d e f:Nat}(h:4<a\/4<b\/4<c\/4<d\/4<e\/8<f):
 ((4:Int)<a)\/(¬(4:Int)<a/\(4:Int)<b)\/(¬(4:Int)<a/\¬(4:Int)<b/\(4:Int)<c)\/(¬(4:Int)<a/\¬(4:Int)<b/\¬(4:Int)<c/\(4:Int)<d)\/
 (¬(4:Int)<a/\¬(4:Int)<b/\¬(4:Int)<c/\¬(4:Int)<d/\(4:Int)<e)\/(¬(4:Int)<a/\¬(4:Int)<b/\¬(4:Int)<c/\¬(4:Int)<d/\¬(4:Int)<e/\(8:Int)<f):=ϟ
theorem M8(p:Pln)(x:PA)(w:ϛ)(s:wfPlan p)(O:planAt w p x)(A:LG p):
 η 10 #[Ak p x] w (θ w (vI (Al p))):=by
 have B:=hIz (λ(c:ϛ) (K:Ϟ w c)=>Gu p x c (DW O.a K) s.a);have u:=hIz (λ(c:ϛ) (K:Ϟ w c)=>Ir p x c);have v:ϝ (∀c,Ϟ w c->(p.grouped=true->∀i,i<p.aggs.length->A8 (p.aggs.getD i (0,0)).1 1 4=true)->CT 30 #[Ak (bare p) (YT x)] c (θ c (.bool (!decide (Bw p))))):=λc K h=>by
  rw[<-Tz h];exact Gu (bare p) (YT x) c (λi j=>absurd j (Nat.not_lt_zero i)) (Nat.zero_le _)
 have f:ϝ (Al p=if decide (Bw p)=false then 4 else if decide (BH p)=false then 3 else 2):=YS A;have D:ϝ (∀i,p.grouped=true->i<p.aggs.length->A8 (p.aggs.getD i (0,0)).1 1 4=false->decide (Bw p)=false):=λi N j h=>WM N j h;have R:ϝ (EL w x.a p.aggs):=O.a;have aa:=s.a;obtain⟨q1,X⟩:=nM (decide (Bw p));obtain⟨q2,Y⟩:=nM (decide (BH p));rw[X]at B v f D;rw[Y]at u f;obtain⟨pe,W⟩:=nM (Al p);rw[W]at f⊢;unfold LG at A;clear X Y s O W;obtain⟨am,aq,ap,al,av,an,left,right,ag,ah,E,ad,m⟩:=p;obtain⟨l,lc,r,rc,lk,ao,rk,au,g,gc,a,ac⟩:=x;unfold bare YT at v;unfold Ak at B u v⊢;dsimp only[List.length_nil]at B u v D R aa A⊢;obtain⟨n6,G⟩:∃n,left.length=n:=⟨_,rfl⟩;obtain⟨n7,H⟩:∃n,right.length=n:=⟨_,rfl⟩;obtain⟨n8,I⟩:∃n,ag.length=n:=⟨_,rfl⟩;obtain⟨n9,J⟩:∃n,ah.length=n:=⟨_,rfl⟩;obtain⟨ar,F⟩:∃n,ad.length=n:=⟨_,rfl⟩;obtain⟨d,y⟩:∃n,m.length=n:=⟨_,rfl⟩;have HN:ϝ (m.length=d):=y;rw[G,H,I,J,F,y]at B u A;rw[G,H,I,J,F,y]at v;rw[y]at D aa;rw[G,H,I,J,F,y];have Z:=T0 A;clear G H I J F y A;by_cases aw:4<d
 ·have ai:(4:Int)<(d:Int):=ϟ;rcases Z with h|h|h|h|h|h
  all_goals
   first
   |(exfalso;omega)
   |skip
  all_goals
   go_enter func10,ntmps10;go_wp2
   go_loop [4] (λi=> ∃k:Nat,k<=d/\i=vI k/\(E=true->∀i,i<k->A8 (m.getD i (0,0)).1 1 4=true)) (λi=>d - (intOf i).toNat)
   case atStart=>exact⟨0,Nat.zero_le _,rfl,λ_ i j=>absurd j (Nat.not_lt_zero i)⟩
   case round=>
    obtain⟨k,hk,rfl,T⟩:=hrel;have Q:Ww E m k:=T;clear T;by_cases V:k<d
    ·obtain⟨b,o,e,x1,x2⟩:=R.o k (by rw[HN.o];exact V);subst e;have U:=bLt _ _ x1;have aj:b<w.heap.size:=U;have ak:b<w.heap.size+1:=ϟ;have i1:(0:Int)<=(k:Int):=ϟ;have i2:(k:Int)<(d:Int):=ϟ;obtain⟨z,P⟩:=nM ((m.getD k (0,0)).1);have S:ϝ ((m.getD k (0,0)).1=z):=P;rw[P]at x1;clear x2 U P
     cases E with
     |false=>
      go_wp2
      go_round
      case rel=>exact⟨k+1,ϟ,by go_num,λh=>absurd h Ϡ⟩
      case measure=>simp[intOf];omega
     |true=>
      cases hf:A8 z 1 4 with
      |true=>
       go_wp2_with
        (go_at_call 29;refine(Ar _ _ _ _).mono ?_;rintro e w' ⟨rfl,s⟩;subst s)
       go_round
       case rel=>exact⟨k+1,ϟ,by go_num,λ_ i j=>by
        rcases Nat.lt_succ_iff_lt_or_eq.1 j with h|h
        ·exact Q rfl i h
        ·rw[h,S.o];exact hf⟩
       case measure=>simp[intOf];omega
      |false=>
       have HX:ϝ (pe=4):=by
        show pe=4;rw[f.o,D.o k rfl V (by rw[S.o];exact hf)];rfl
       go_wp2_with
        (go_at_call 29;refine(Ar _ _ _ _).mono ?_;rintro e w' ⟨rfl,s⟩;subst s)
       go_ret;exact⟨Af HX.o.symm,(by repeat (first|exact bR|(refine Below.setCell ?_ ϡ _)|(refine Below.alloc ?_ Ϧ _)))⟩
    ·have ab:Ww E m d:=λN i j=>Q N i ϟ;go_wp2_with fail;refine(v.o _ (by repeat (first|exact bR|(refine Below.setCell ?_ ϡ _)|(refine Below.alloc ?_ Ϧ _))) ab).mono ?_;rintro e c ⟨rfl,C⟩;have q:=((by repeat (first|exact bR|(refine Below.setCell ?_ ϡ _)|(refine Below.alloc ?_ Ϧ _))):Ϟ w _).trans (C.mono Ϥ);obtain⟨ae,af⟩:=D3 C
     cases q1
     ·go_wp2;go_ret;exact⟨Af f.o.symm,q⟩
     go_wp2_with fail;refine(u.o _ q).mono ?_;rintro e w2 ⟨rfl,L⟩;have M:=bT q L
     cases q2
     all_goals
      go_wp2;go_ret;exact⟨Af f.o.symm,M⟩
 ·have ai:¬(4:Int)<(d:Int):=ϟ;rcases Z with h|h|h|h|h|h
  all_goals
   first
   |(exfalso;omega)
   |skip
  all_goals
   go_enter func10,ntmps10;go_wp2_with fail;refine(B.o _ (by repeat (first|exact bR|(refine Below.setCell ?_ ϡ _)|(refine Below.alloc ?_ Ϧ _)))).mono ?_;rintro e c ⟨rfl,C⟩;have q:=((by repeat (first|exact bR|(refine Below.setCell ?_ ϡ _)|(refine Below.alloc ?_ Ϧ _))):Ϟ w _).trans (C.mono Ϥ);obtain⟨ae,af⟩:=D3 C
   cases q1
   ·go_wp2;go_ret;exact⟨Af f.o.symm,q⟩
   go_wp2_with fail;refine(u.o _ q).mono ?_;rintro e w2 ⟨rfl,L⟩;have M:=bT q L
   cases q2
   all_goals
    go_wp2;go_ret;exact⟨Af f.o.symm,M⟩
theorem Jh(p:Pln)(x:PA)(w:ϛ)(c:wfPlan p)(a:planAt w p x):
 η 10 #[Ak p x] w (θ w (vI (Al p))):=by
 by_cases b:LG p
 ·exact M8 p x w c a b
 ·exact Mb p x w c a b
theorem Re:fit t↔tm.Bc t=true:=by rw[tm.Dv];exact Iff.rfl
theorem GU(h:fit t):tm.Bc t=true:=Re.1 h
def F3(m s:Int):Int:=if m=1099511627776 then 1099511627776 else m - s
theorem Ex{a b c d:Int}(h1:a=c)(e:b=d):Ending.returned (.tuple #[vI a,vI b])= .returned (.tuple #[vI c,vI d]):=by rw[h1,e]
theorem AaV(m s:Int)(w:ϛ)(c:fit m)(d:fit s):
 η 110 #[vI m,vI s] w (θ w (.tuple #[vI (F3 m s),ω])):=by
 have h:tm.RY m s=true:=by unfold tm.RY;rw[GU c,GU d];rfl
 obtain⟨g,i⟩:=c;obtain⟨j,k⟩:=d;by_cases e:m=1099511627776
 ·subst e;have a:ϝ (F3 1099511627776 s=1099511627776):=rfl;go_enter func110,ntmps110;go_wp2_with (go_at_call 159;refine(tm.VO _ 1099511627776 s _ ϣ ϣ).mono ?_;rintro e f ⟨rfl,b⟩;subst b)
  go_ret2
  refine⟨Ex a.o.symm rfl,?_⟩
  repeat (first|exact bR|apply Below.drew|(refine Below.alloc ?_ Ϧ _))
 ·have l:(m==1099511627776)=false:=by simpa using e
  have a:ϝ (F3 m s=m - s):=if_neg e;clear e;go_enter func110,ntmps110;go_wp2_with (go_at_call 159;refine(tm.VO _ m s _ ϣ ϣ).mono ?_;rintro e f ⟨rfl,b⟩;subst b)
  go_ret2
  refine⟨Ex a.o.symm rfl,?_⟩
  repeat (first|exact bR|apply Below.drew|(refine Below.alloc ?_ Ϧ _))
def Rf(mark size:Int):Int:=if mark=1099511627776 then 1099511627776 else tm.start (mark+1) size - 1
def goneAt(p:Pln)(side mark:Int):Int:=
 if p.kind=1 then F3 mark (if side=2 then -p.low else p.high)else if p.kind=2 then Rf mark p.size else if side=2 then -1099511627777 else mark
def Bz(side:Int):Bool:=decide (side=1\/side=2)
def I7(p:Pln)(side mark:Int):Int:=if Al p=0 then(if Bz side=true then(if tm.Bc mark=true then 0 else 3)else 4)else Al p
def Gv(p:Pln)(side mark:Int):Int:=if I7 p side mark=0 then goneAt p side mark else 0
theorem Dr(side:Int)(w:ϛ):η 87 #[vI side] w λe c=>e= .returned (.bool (Bz side))/\c=w:=by
 by_cases a:side=1
 ·subst a;go_enter func87,ntmps87;go_wp2;go_ret;exact⟨rfl,rfl⟩
 ·have d:(side==1)=false:=by simpa using a
  have b:ϝ (Bz side=(side==2)):=by show Bz side=_;unfold Bz;exact Bool.eq_iff_iff.2 (by simp[a])
  clear a;go_enter func87,ntmps87;go_wp2;go_ret;exact⟨Ab b.o.symm,rfl⟩
theorem WN(p:Pln)(x:PA)(side:Int)(w:ϛ)(c:fit p.low):
 η 111 #[Ak p x,vI side] w (θ w (vI (if side=2 then -p.low else p.high))):=by
 obtain⟨o,A,z,m,F,s,left,right,y,E,i,h,e⟩:=p;obtain⟨l,q,r,B,u,v,C,D,g,f,a,d⟩:=x;unfold Ak;dsimp only at c⊢;obtain⟨j,k⟩:=c;by_cases b:side=2
 ·subst b;rw[if_pos rfl];go_enter func111,ntmps111;go_wp2;go_ret;exact⟨Af (by first|rfl|omega),Ϫ⟩
 ·have n:(side==2)=false:=by simpa using b
  rw[if_neg b];clear b;go_enter func111,ntmps111;go_wp2;go_ret;exact⟨rfl,Ϫ⟩
theorem Rh(a size:Int)(w:ϛ)(i:fit a)(h1:1<=size)(g:size<=1099511627776):
 η 112 #[vI a,vI size] w (θ w (.tuple #[vI (Rf a size),ω])):=by
 obtain⟨n,o⟩:=i;by_cases e:a=1099511627776
 ·subst e;have b:ϝ (Rf 1099511627776 size=1099511627776):=rfl;go_enter func112,ntmps112;go_wp2
  go_ret2
  exact⟨Ex b.o.symm rfl,bR⟩
 ·have q:(a==1099511627776)=false:=by simpa using e
  have h:tm.Bc (a+1)=true:=GU ⟨ϟ,ϟ⟩;have b:ϝ (Rf a size=tm.start (a+1) size - 1):=if_neg e;have k:=tm.RZ (a+1) size ϟ;obtain⟨l,m⟩:=k;clear e;have K:ϝ (∀c,CT 160 #[vI (a+1),vI size] c λe f=>e= .returned (.tuple #[vI (tm.start (a+1) size),vI (tm.start (a+1) size+size),ω])/\f=c):=λc=>tm.Nc (a+1) size c h h1 g;obtain⟨r,d⟩:=nM (tm.start (a+1) size);rw[d]at K b l m;clear d;go_enter func112,ntmps112;go_wp2_with (go_at_call 160;refine(K.o _).mono ?_;rintro e f ⟨rfl,j⟩;subst j)
  go_ret2
  exact⟨Ex b.o.symm rfl,bR⟩
theorem Ac6(h:Al p=0)(a:p.kind=1):fit p.low/\fit p.high:=by
 have:=(Bj h).2.1.1;rw[if_pos a]at this;exact this
theorem Ac7(h:Al p=0)(a:p.kind=2):1<=p.size/\p.size<=1099511627776:=by
 have:=(Bj h).2.1.2.1;rw[if_pos a]at this;exact this
theorem Vo(h:fit t):fit (-t):=by unfold fit at *;omega
def Ac8(pe:Int)(sb fb:Bool):Int:=if pe=0 then(if sb=true then(if fb=true then 0 else 3)else 4)else pe
theorem JH(p:Pln)(x:PA)(side c:Int)(w:ϛ)(b:wfPlan p)(hp:planAt w p x):
 η 57 #[Ak p x,vI side,vI c] w (θ w (.tuple #[vI (Gv p side c),vI (I7 p side c)])):=by
 have D:ϝ (∀d,Ϟ w d->CT 27 #[Ak p x] d (θ d (vI (Al p)))):=λd hb=>EO p x d b (Aj hp hb);have i:ϝ (I7 p side c=Ac8 (Al p) (Bz side) (tm.Bc c)):=rfl;have f:ϝ (Gv p side c=if Ac8 (Al p) (Bz side) (tm.Bc c)=0 then goneAt p side c else 0):=rfl;have k:ϝ (∀d,Al p=0->p.kind=1->CT 111 #[Ak p x,vI side] d (θ d (vI (if side=2 then -p.low else p.high)))):=λd h E=>WN p x side d (Ac6 h E).1;have m:ϝ (Al p=0->p.kind=1->fit (if side=2 then -p.low else p.high)):=λh E=>by
  have:=Ac6 h E;split
  ·exact Vo this.1
  ·exact this.2
 have z:ϝ (Al p=0->p.kind=2->1<=p.size/\p.size<=1099511627776):=λh E=>Ac7 h E;have o:ϝ (p.kind=1->goneAt p side c=F3 c (if side=2 then -p.low else p.high)):=λh=>if_pos h;have v:ϝ (p.kind=2->goneAt p side c=Rf c p.size):=λh=>by show goneAt p side c=_;unfold goneAt;rw[if_neg ϟ,if_pos h]
 have y:ϝ (¬p.kind=1->¬p.kind=2->goneAt p side c=if side=2 then -1099511627777 else c):=λh1 h2=>by show goneAt p side c=_;unfold goneAt;rw[if_neg h1,if_neg h2]
 obtain⟨J,aa⟩:=nM (Al p);rw[aa]at D i f k m z;obtain⟨U,ab⟩:=nM (if side=2 then -p.low else p.high);rw[ab]at k m o;obtain⟨K,Z⟩:=nM (Gv p side c);obtain⟨ge,Y⟩:=nM (I7 p side c);obtain⟨G,X⟩:=nM (goneAt p side c);rw[Z]at f⊢;rw[Y]at i⊢;rw[X]at f o v y;clear aa ab Z Y X b hp;obtain⟨I,aq,ap,al,ad,am,left,right,ao,aw,ai,ah,ag⟩:=p;obtain⟨l,lc,r,rc,lk,an,rk,av,g,gc,a,ac⟩:=x;unfold Ak at D k⊢;dsimp only at D k m z o v y⊢;obtain⟨n6,N⟩:∃n,left.length=n:=⟨_,rfl⟩;obtain⟨n7,O⟩:∃n,right.length=n:=⟨_,rfl⟩;obtain⟨n8,P⟩:∃n,ao.length=n:=⟨_,rfl⟩;obtain⟨n9,Q⟩:∃n,aw.length=n:=⟨_,rfl⟩;obtain⟨ar,L⟩:∃n,ah.length=n:=⟨_,rfl⟩;obtain⟨au,M⟩:∃n,ag.length=n:=⟨_,rfl⟩;rw[N,O,P,Q,L,M]at D k;rw[N,O,P,Q,L,M];clear N O P Q L M;go_enter func57,ntmps57;go_wp2_with fail;refine(D.o _ Ϫ).mono ?_;rintro e d ⟨rfl,R⟩;have s:=Ϫ.trans (R.mono ϡ);obtain⟨ay,az⟩:=D3 R;have a0:w.heap.size<d.heap.size:=(by have:=R.size;simp at this;omega);by_cases B:J=0
 ·subst B
  cases hsb:Bz side
  ·rw[hsb]at i f;go_wp2_with (go_at_call 87;refine(Dr _ _).mono ?_;rintro e j ⟨rfl,b⟩;subst b)
   go_ret2
   exact⟨Ex (by rw[f.o];rfl) (by rw[i.o];rfl),s⟩
  rw[hsb]at i f
  cases hfb:tm.Bc c
  ·rw[hfb]at i f;go_wp2_with (first
    |(go_at_call 87;refine(Dr _ _).mono ?_;rintro e j ⟨rfl,b⟩;subst b)
    |(go_at_call 88;refine(tm.Dj _ _).mono ?_;rintro e j ⟨rfl,b⟩;subst b))
   go_ret2
   exact⟨Ex (by rw[f.o];rfl) (by rw[i.o];rfl),s⟩
  rw[hfb]at i f;have V:ϝ (fit c):=Re.2 hfb;have A:ϝ (K=G):=f.o;have u:ϝ (ge=0):=i.o;clear f i;by_cases F:I=1
  ·subst F;have W:=o.o rfl;have q:ϝ (G=F3 c U):=W;have KR:ϝ (∀d,CT 111 #[.agg #[vI 1,vI aq,vI ap,vI al,vI ad,vI am,vS l n6 lc,vS r n7 rc,vS lk n8 an,vS rk n9 av,.bool ai,vS g ar gc,vS a au ac],vI side] d (θ d (vI U))):=λd=>k.o d rfl rfl;have ae:ϝ (fit U):=m.o rfl rfl;clear W k m o v y z;go_wp2_with (first
    |(go_at_call 87;refine(Dr _ _).mono ?_;rintro e j ⟨rfl,b⟩;subst b)
    |(go_at_call 88;refine(tm.Dj _ _).mono ?_;rintro e j ⟨rfl,b⟩;subst b)
    |(go_at_call 111;refine(KR.o _).mono ?_;rintro e w2 ⟨rfl,aj⟩;have ak:=bT s aj)
    |(go_at_call 110;refine(AaV _ _ _ V.o ae.o).mono ?_;rintro e w3 ⟨rfl,S⟩;have T:=bT ak S))
   go_ret2
   exact⟨Ex (by rw[A.o,q.o]) u.o.symm,T⟩
  ·have a1:(I==1)=false:=by simpa using F
   by_cases H:I=2
   ·subst H;have q:ϝ (G=Rf c ad):=v.o rfl;have af:=z.o rfl rfl;obtain⟨s1,C⟩:=af;clear k m o v y z F;go_wp2_with (first
     |(go_at_call 87;refine(Dr _ _).mono ?_;rintro e j ⟨rfl,b⟩;subst b)
     |(go_at_call 88;refine(tm.Dj _ _).mono ?_;rintro e j ⟨rfl,b⟩;subst b)
     |(go_at_call 112;refine(Rh _ _ _ V.o s1 C).mono ?_;rintro e w3 ⟨rfl,S⟩;have T:=bT s S))
    go_ret2
    exact⟨Ex (by rw[A.o,q.o]) u.o.symm,T⟩
   ·have a2:(I==2)=false:=by simpa using H
    have q:ϝ (G=if side=2 then -1099511627777 else c):=y.o F H;clear k m o v y z F H;by_cases C:side=2
    ·subst C;go_wp2_with (first
      |(go_at_call 87;refine(Dr _ _).mono ?_;rintro e j ⟨rfl,b⟩;subst b)
      |(go_at_call 88;refine(tm.Dj _ _).mono ?_;rintro e j ⟨rfl,b⟩;subst b))
     go_ret2
     exact⟨Ex (by rw[A.o,q.o];rfl) u.o.symm,s⟩
    ·have a3:(side==2)=false:=by simpa using C
     rw[if_neg C]at q;clear C;go_wp2_with (first
      |(go_at_call 87;refine(Dr _ _).mono ?_;rintro e j ⟨rfl,b⟩;subst b)
      |(go_at_call 88;refine(tm.Dj _ _).mono ?_;rintro e j ⟨rfl,b⟩;subst b))
     go_ret2
     exact⟨Ex (by rw[A.o,q.o]) u.o.symm,s⟩
 ·have ax:(J !=0)=true:=by simpa using B
  have u:ϝ (ge=J):=by show ge=J;rw[i.o];exact if_neg B
  have A:ϝ (K=0):=by
   show K=0;rw[f.o,if_neg];unfold Ac8;rw[if_neg B];exact B
  clear B i f;go_wp2
  go_ret2
  exact⟨Ex A.o.symm u.o.symm,s⟩
theorem Lh(p:Pln)(x:PA)(side b:Int)(w:ϛ)(h:Al p=0)(L:fit b):
 η 96 #[Ak p x,vI side,vI b] w (θ w (vI (goneAt p side b))):=by
 have q:ϝ (p.kind=1->fit p.low/\fit p.high):=λG=>Ac6 h G;have s:ϝ (p.kind=2->1<=p.size/\p.size<=1099511627776):=λG=>Ac7 h G;have k:ϝ (p.kind=1->goneAt p side b=F3 b (if side=2 then -p.low else p.high)):=λh=>if_pos h;have m:ϝ (p.kind=2->goneAt p side b=Rf b p.size):=λh=>by show goneAt p side b=_;unfold goneAt;rw[if_neg ϟ,if_pos h]
 have n:ϝ (¬p.kind=1->¬p.kind=2->goneAt p side b=if side=2 then -1099511627777 else b):=λO P=>by show goneAt p side b=_;unfold goneAt;rw[if_neg O,if_neg P]
 obtain⟨o,K⟩:=nM (goneAt p side b);rw[K]at k m n⊢;have H:ϝ (fit b):=L;clear K h;obtain⟨B,ai,C,z,j,af,left,right,ah,ak,aa,Z,X⟩:=p;obtain⟨l,lc,r,rc,lk,ag,rk,aj,g,Y,a,W⟩:=x;unfold Ak;dsimp only at q s k m n⊢;obtain⟨m1,m2⟩:=L;by_cases v:B=1
 ·subst v;have Q:=q.o rfl;have d:=k.o rfl;obtain⟨y,F⟩:=Q;obtain⟨l1,l2⟩:=id y;clear k m n q s;by_cases f:side=2
  ·subst f;have D:ϝ (o=F3 b (-C)):=d;have E:ϝ (∀c,CT 147 #[vI b,vI (-C)] c λe i=>e= .returned (vI (F3 b (-C)))/\i=c):=λc=>tm.Nf b (-C) c (by unfold tm.RY;rw[GU H.o,GU (Vo y)];rfl);clear d y F;go_enter func96,ntmps96;go_wp2_with (go_at_call 147;refine(E.o _).mono ?_;rintro e i ⟨rfl,u⟩;subst u);go_ret;exact⟨Af D.o.symm,Ϫ⟩
  ·have S:(side==2)=false:=by simpa using f
   rw[if_neg f]at d;have D:ϝ (o=F3 b z):=d;have E:ϝ (∀c,CT 147 #[vI b,vI z] c λe i=>e= .returned (vI (F3 b z))/\i=c):=λc=>tm.Nf b z c (by unfold tm.RY;rw[GU H.o,GU F];rfl);clear d y F f;go_enter func96,ntmps96;go_wp2_with (go_at_call 147;refine(E.o _).mono ?_;rintro e i ⟨rfl,u⟩;subst u);go_ret;exact⟨Af D.o.symm,Ϫ⟩
 ·have ad:(B==1)=false:=by simpa using v
  by_cases A:B=2
  ·subst A;have d:ϝ (o=Rf b j):=m.o rfl;have N:=s.o rfl;obtain⟨R,f⟩:=N;clear q k m n s v;by_cases e:b=1099511627776
   ·subst e;go_enter func96,ntmps96;go_wp2;go_ret;exact⟨Af (by rw[d.o];rfl),Ϫ⟩
   ·have ab:(b==1099511627776)=false:=by simpa using e
    have I:ϝ (o=tm.start (b+1) j - 1):=by show o=_;rw[d.o];exact if_neg e
    have T:=tm.RZ (b+1) j ϟ;obtain⟨U,V⟩:=T;have J:ϝ (∀c,CT 148 #[vI (b+1),vI j] c λe i=>e= .returned (vI (tm.start (b+1) j))/\i=c):=λc=>tm.I3 (b+1) j c ϟ ϟ R f;obtain⟨sv,M⟩:=nM (tm.start (b+1) j);rw[M]at J I U V;clear M e d;go_enter func96,ntmps96;go_wp2_with (go_at_call 148;refine(J.o _).mono ?_;rintro e i ⟨rfl,u⟩;subst u);go_ret;exact⟨Af I.o.symm,Ϫ⟩
  ·have ae:(B==2)=false:=by simpa using A
   have d:ϝ (o=if side=2 then -1099511627777 else b):=n.o v A;clear q k m n s v A;by_cases f:side=2
   ·subst f;go_enter func96,ntmps96;go_wp2;go_ret;exact⟨Af (by rw[d.o];rfl),Ϫ⟩
   ·have S:(side==2)=false:=by simpa using f
    rw[if_neg f]at d;clear f;go_enter func96,ntmps96;go_wp2;go_ret;exact⟨Af d.o.symm,Ϫ⟩
end pl
end Go.Proofs.YtdohnkkbkfhphaaGreat
