import Derived.Test.YtfkihidbnfkbaaaGreatDoorPb10
set_option linter.all false
set_option maxHeartbeats 8000000
set_option maxRecDepth 100000
open Go.ChangeShapes Go.WideShapes Go.ChangeAt Go.RowKit
open Inhabited renaming default->ϰ
namespace Go.Proofs.YtfkihidbnfkbaaaGreatDoor
open Go.Proofs.Tryz
namespace pl
open vl
def yes(b:Bool)(P:Prop):Prop:=b=true->P
def Rb(p:Pln)(i:Nat):Bool:=decide (p.left.getD (p.lkeys.getD i 0).toNat 0=p.right.getD (p.rkeys.getD i 0).toNat 0)
theorem WB(p:Pln):decide (F2 p)=allB p.lkeys.length (Rb p):=by
 refine(DX ?_).symm;rw[A9];unfold F2 Rb;simp only[decide_eq_true_eq]
def Ab0(w:World)(B:Nat)(p:Pln)(x:PA):Prop:=
 Δ w B 6 (vS x.l p.left.length x.lc)/\Δ w B 7 (vS x.r p.right.length x.rc)/\Δ w B 9 (vS x.rk p.rkeys.length x.rkc)
theorem Ab1(i:Nat)(B:Nat)(p:Pln)(x:PA)(w:ϙ)(e:wfPlan p)(H:Ab0 w B p x)(c:planAt w p x)(A:i<p.lkeys.length)(I:p.lkeys.length=p.rkeys.length)(o:AV p.lkeys p.left.length)(q:AV p.rkeys p.right.length):
 η 199 #[vI i,vI (p.lkeys.getD i 0),μ B] w (θ w (.bool (Rb p i))):=by
 have b:ϛ (Rb p i=decide (p.left.getD (p.lkeys.getD i 0).toNat 0=p.right.getD (p.rkeys.getD i 0).toNat 0)):=rfl;obtain⟨j,k,m⟩:=H;have f:=o.1 _ (Dw (d:=0) A);have g:=q.1 _ (Dw (d:=0) (show i<p.rkeys.length by omega));obtain⟨Y,ae,h,U⟩:=c.rk i ϝ;obtain⟨V,v⟩:=nM (p.lkeys.getD i 0);obtain⟨W,z⟩:=nM (p.rkeys.getD i 0);rw[v]at f b⊢;rw[z]at g b U;obtain⟨E,J⟩:=Int.eq_ofNat_of_zero_le f.1;obtain⟨F,L⟩:=Int.eq_ofNat_of_zero_le g.1;subst J L;rw[Int.toNat_natCast,Int.toNat_natCast]at b;obtain⟨bl,ol,el,R⟩:=c.l E ϝ;obtain⟨X,oq,eq,T⟩:=c.r F ϝ;obtain⟨v1,C⟩:=nM (p.left.getD E 0);obtain⟨v2,D⟩:=nM (p.right.getD F 0);rw[C]at R b;rw[D]at T b;rw[el]at j;rw[eq]at k;rw[h]at m;obtain⟨n6,r⟩:∃n,p.left.length=n:=⟨_,rfl⟩;obtain⟨n7,s⟩:∃n,p.right.length=n:=⟨_,rfl⟩;obtain⟨G,u⟩:∃n,p.rkeys.length=n:=⟨_,rfl⟩;have M:=e.l;have N:=e.r;have O:=e.rk;have Z:i<G:=ϝ;rw[r]at j f M;rw[s]at k g N;rw[u]at m O;obtain⟨aa,ab⟩:=f;obtain⟨ac,ad⟩:=g;have i1:(0:Int)<=(i:Int):=ϝ;have i2:(i:Int)<(G:Int):=ϝ;clear v z C D r s u e c o q A I el eq h;go_enter func199,ntmps199;go_wp2
 go_region
 all_goals
  go_wp2;go_ret;refine⟨Aa (by rw[b.o];exact Bool.eq_iff_iff.2 ϟ),?_⟩
  repeat (first|exact bR|apply Below.drew)
theorem NZ(p:Pln)(x:PA)(w:ϙ)(f:wfPlan p)(v:planAt w p x):
 η 135 #[Ap p x] w (θ w (.bool (decide (Hh p)))):=by
 have h:=hIz (λ(b:ϙ) (m:Ϝ w b)=>EN x.lk x.l x.lkc x.lc p.left.length p.lkeys b f.lk f.l (Ao v.lk m));have j:=hIz (λ(b:ϙ) (m:Ϝ w b)=>EN x.rk x.r x.rkc x.rc p.right.length p.rkeys b f.rk f.r (Ao v.rk m));have k:ϛ (∀B b,Ϝ w b->p.lkeys.length=p.rkeys.length->AV p.lkeys p.left.length->AV p.rkeys p.right.length->Δ b B 6 (vS x.l p.left.length x.lc)->Δ b B 7 (vS x.r p.right.length x.rc)->Δ b B 9 (vS x.rk p.rkeys.length x.rkc)->
  η 132 #[vS x.lk p.lkeys.length x.lkc,.func (.func 199) #[] #[μ B]] b (θ b (.bool (decide (F2 p))))):=by
  intro B b m u Y Z V W X;rw[WB];exact Gz 199 (enters_of func199 Ϡ rfl) #[μ B] (Rb p) x.lk x.lkc p.lkeys b f.lk (Ao v.lk m)
   (λi L hi d=>Ab1 i B p x L f ⟨cLz d V,cLz d W,cLz d X⟩ (Ae (Ae v m) d) hi u Y Z)
 have c:ϛ (decide (Hh p)=(decide (p.lkeys.length=p.rkeys.length)&&decide (AV p.lkeys p.left.length)&&decide (AV p.rkeys p.right.length)&&decide (F2 p))):=by
  refine(DX ?_).symm;unfold Hh;simp only[Bool.and_eq_true,decide_eq_true_eq,and_assoc]
 have C:yes (decide (AV p.lkeys p.left.length)) (AV p.lkeys p.left.length):=of_decide_eq_true;have D:yes (decide (AV p.rkeys p.right.length)) (AV p.rkeys p.right.length):=of_decide_eq_true;obtain⟨q1,O⟩:=nM (decide (AV p.lkeys p.left.length));obtain⟨q2,R⟩:=nM (decide (AV p.rkeys p.right.length));obtain⟨q3,T⟩:=nM (decide (F2 p));rw[O]at h c C;rw[R]at j c D;rw[T]at k c;clear O R T f v;obtain⟨P1,M⟩:=nM (AV p.lkeys p.left.length);obtain⟨P2,N⟩:=nM (AV p.rkeys p.right.length);rw[M]at k C;rw[N]at k D;clear M N;obtain⟨an,ar,aq,al,av,ao,left,right,ae,af,ai,ah,ag⟩:=p;obtain⟨l,lc,r,rc,lk,ap,rk,au,g,gc,a,ac⟩:=x;unfold Ap;dsimp only at h j k c⊢;obtain⟨n6,z⟩:∃n,left.length=n:=⟨_,rfl⟩;obtain⟨n7,A⟩:∃n,right.length=n:=⟨_,rfl⟩;obtain⟨o,q⟩:∃n,ae.length=n:=⟨_,rfl⟩;obtain⟨U,s⟩:∃n,af.length=n:=⟨_,rfl⟩;rw[z,q]at h;rw[A,s]at j;rw[z,A,q,s]at k;rw[q,s]at c;rw[z,A,q,s];clear z A q s;by_cases u:o=U
 ·subst u;have ad:((o:Int)==o)=true:=ϟ;rw[show decide (o=o)=true by simp]at c
  cases q1<;>cases q2<;>cases q3
  all_goals
   go_enter func135,ntmps135;go_wp2_with (first
    |(go_at_call 136;have tk:=h;refine(h.o _ Ϩ).mono ?_;rintro e b ⟨rfl,E⟩;have F:=Ϩ.trans (E.mono ϟ);obtain⟨H,aj⟩:=DF E;have J:w.heap.size<b.heap.size:=(by have:=E.size;simp at this;omega);clear h)
    |(go_at_call 136;have tk:=j;refine(j.o _ F).mono ?_;rintro e L ⟨rfl,d⟩;have G:=bT F d;obtain⟨I,ak⟩:=DF d;have am:w.heap.size<L.heap.size:=(by have:=d.size;omega);clear j)
    |(go_at_call 132;refine(k.o _ _ G ϥ (C rfl) (D rfl) (by rw[I _ _ J,H _ _ ϟ];go_simp) (by rw[I _ _ J,H _ _ ϟ];go_simp) (by rw[I _ _ J,H _ _ ϟ];go_simp)).mono ?_;rintro e w3 ⟨rfl,aa⟩;have ab:=bT G aa))
   go_ret;refine⟨Aa (by rw[c.o];rfl),?_⟩
   first
    |exact ab
    |exact G
    |exact F
 ·have ad:((o:Int)==U)=false:=Ϣ;rw[decide_eq_false u]at c;clear u;go_enter func135,ntmps135;go_wp2;go_ret;exact⟨Aa (by rw[c.o];rfl),Ϩ⟩
def M9(c:List Int)(a:Int×Int):Bool:=decide (FZ c a)
theorem Ab2(i:Int)(B:Nat)(ad:Ϛ)(I:Nat)(c:List Int)(f k:Int)(w:ϙ)(o:c.length<=χ)(z:Ay w ad c)(u:Δ w B 0 (vS ad c.length I)):
 η 203 #[vI i,.agg #[vI f,vI k],μ B] w (θ w (.bool (M9 c (f,k)))):=by
 have M:=bLt _ _ u;have b:ϛ (M9 c (f,k)=true↔if f=1 then k=0 else(0<=k/\k<(c.length:Int))/\(f=2->c.getD k.toNat 0=2)):=by show M9 c (f,k)=true↔FZ c (f,k);unfold M9;exact decide_eq_true_iff
 have F:ϛ (Ay w ad c):=z;obtain⟨n,r⟩:∃n,c.length=n:=⟨_,rfl⟩;have G:ϛ (c.length=n):=r;rw[r]at o u b;clear r z;have R:B<w.heap.size:=M;by_cases q:f=1
 ·subst q;rw[if_pos rfl]at b;go_enter func203,ntmps203;go_wp2;go_ret;exact⟨Aa (Bool.eq_iff_iff.2 (by rw[b.o];simp)),Ϩ⟩
 ·have O:(f==1)=false:=by simpa using q
  rw[if_neg q]at b;clear q
  cases hbt:BG k 0 ((n:Int) - 1)with
  |false=>
   have A:=(F3 _ _ _).1 hbt;have g:ϛ (M9 c (f,k)=false):=Bool.eq_false_iff.2 (λh=>A ⟨(b.o.1 h).1.1,by have:=(b.o.1 h).1.2;omega⟩);clear A b;by_cases d:f=2
   ·subst d;go_enter func203,ntmps203;go_wp2_with (go_at_call 201;refine(ED _ _ _ _ _ o).mono ?_;rintro e s ⟨rfl,j⟩;subst j);go_ret;exact⟨Aa g.o.symm,Ϩ⟩
   ·have L:(f==2)=false:=by simpa using d
    clear d;go_enter func203,ntmps203;go_wp2_with (go_at_call 201;refine(ED _ _ _ _ _ o).mono ?_;rintro e s ⟨rfl,j⟩;subst j);go_ret;exact⟨Aa g.o.symm,Ϩ⟩
  |true=>
   obtain⟨E,V⟩:=(BN _ _ _).1 hbt;by_cases d:f=2
   ·subst d;obtain⟨m,rfl⟩:=Int.eq_ofNat_of_zero_le E;obtain⟨H,U,J,D⟩:=F.o m (by rw[G.o];omega);have g:ϛ (M9 c (2,(m:Int))=decide (c.getD m 0=2)):=by
     show M9 c (2,(m:Int))=_;refine Bool.eq_iff_iff.2 ?_;rw[b.o];simp;omega
    subst J;obtain⟨v,C⟩:=nM (c.getD m 0);rw[C]at D g;have N:=bLt _ _ D;have T:H<w.heap.size:=N;clear C b;have W:(m:Int)<(n:Int):=ϝ;go_enter func203,ntmps203;go_wp2_with (go_at_call 201;refine(ED _ _ _ _ _ o).mono ?_;rintro e s ⟨rfl,j⟩;subst j);go_ret;exact⟨Aa (by rw[g.o];exact Bool.eq_iff_iff.2 ϟ),Ϩ⟩
   ·have L:(f==2)=false:=by simpa using d
    have g:ϛ (M9 c (f,k)=true):=b.o.2 ⟨⟨E,ϝ⟩,λh=>absurd h d⟩;clear d b;go_enter func203,ntmps203;go_wp2_with (go_at_call 201;refine(ED _ _ _ _ _ o).mono ?_;rintro e s ⟨rfl,j⟩;subst j);go_ret;exact⟨Aa g.o.symm,Ϩ⟩
def GF(c:List Int)(l:List (Int×Int)):Prop:=∀a∈l,FZ c a
instance(c:List Int)(l:List (Int×Int)):Decidable (GF c l):=by unfold GF;infer_instance
theorem Zv(c:List Int)(l:List (Int×Int)):decide (GF c l)=allB l.length (λi=>M9 c (l.getD i (0,0))):=by
 refine(DX ?_).symm;rw[A9];unfold GF M9;simp only[decide_eq_true_eq];exact Hi (Q:=λa:Int×Int=>FZ c a)
theorem Oa(a ad:Ϛ)(d f:Nat)(l:List (Int×Int))(c:List Int)(w:ϙ)(u:l.length<=χ)(s:c.length<=χ)(ha:Es w a l)(r:Ay w ad c):
 η 137 #[vS a l.length d,vS ad c.length f] w (θ w (.bool (decide (GF c l)))):=by
 have K:ϛ (∀B b,Ϝ w b->Δ b B 0 (vS ad c.length f)->
  η 195 #[vS a l.length d,.func (.func 203) #[] #[μ B]] b (θ b (.bool (decide (GF c l))))):=by
  intro B b o e0;rw[Zv];exact J7 203 (enters_of func203 Ϡ rfl) #[μ B] (λi=>M9 c (l.getD i (0,0))) a d l b u (CP ha o)
   (λi z A q=>Ab2 i B ad f c _ _ z s (Ao (Ao r o) q) (cLz q e0))
 obtain⟨m,h⟩:=nM l.length;obtain⟨k,g⟩:=nM c.length;obtain⟨C,j⟩:=nM (decide (GF c l));rw[h,g,j]at K;rw[h,g,j];clear h g j ha r u s;go_enter func137,ntmps137;go_wp2_with (go_at_call 195;refine(K.o _ _ Ϩ ϡ).mono ?_;rintro e b ⟨rfl,v⟩);go_ret;exact⟨rfl,Ϩ.trans (v.mono ϟ)⟩
end pl
namespace pl
variable {P : Program} {md : Region.Mode} {ops : Array Oper} {Q : Exit -> Act -> World -> Prop} {S : World -> Prop} {fuel : Nat} {listed : Array Bool} {a : Act} {w : ϙ} {oi : Oper} {x y : Int}
theorem Aer(i:Nat)(d:Option Tmp)(j:ops[i]? =some oi)
 (m:Region.noSelect ops=true) (g:Region.free md ops listed i=true) (k:(Region.ready md ops listed).contains i=true) (b:∀c a w,Q (.panic c) (a.put oi.dst undef) w->Q (.panic c) a w) (f:oi.dst=d)
 (o:Region.wanted oi (yielded ops a.tmps)=false) (e:S w) (h:wpAnyH P md ops Q S fuel (listed.setIfInBounds i true) (a.put d undef) w):wpAnyH P md ops Q S (fuel+1) listed a w:=
 wpAnyH_take j m g k b (Or.inr ⟨o,rfl⟩) e (by rw[f];exact h)
theorem Aes{v:Value}(i:Nat)(d:Option Tmp)(j:ops[i]? =some oi)
 (m:Region.noSelect ops=true) (g:Region.free md ops listed i=true) (k:(Region.ready md ops listed).contains i=true) (b:∀c a w,Q (.panic c) (a.put oi.dst v) w->Q (.panic c) a w) (f:oi.dst=d)
 (o:Region.wanted oi (yielded ops a.tmps)=true) (hy:∀w,S w->(execOp a.eval oi).run P w= .ok (.value v) w) (e:S w) (h:wpAnyH P md ops Q S fuel (listed.setIfInBounds i true) (a.put d v) w):wpAnyH P md ops Q S (fuel+1) listed a w:=
 wpAnyH_take j m g k b (Or.inl ⟨o,hy⟩) e (by rw[f];exact h)
theorem Hm(b:Bool)(h:decide (x<=y)=b):∀t,binOp .leq t (vI x) (vI y)=pure (.bool b):=λt=>by rw[binOp_leq,h]
theorem Tn(b:Bool)(h:(x==y)=b):∀t,binOp .eql t (vI x) (vI y)=pure (.bool b):=λt=>by rw[binOp_eql,h]
theorem Zw(b:Bool)(h:decide (x<y)=b):∀t,binOp .lss t (vI x) (vI y)=pure (.bool b):=λt=>by rw[binOp_lss,h]
theorem GG(b:Bool)(h:decide (x>y)=b):∀t,binOp .gtr t (vI x) (vI y)=pure (.bool b):=λt=>by rw[binOp_gtr,h]
end pl
namespace pl
open vl
variable {p : Pln} {w : ϙ} {t : Int} {x : PA}
theorem Ad7(h:Cx p)(j:Nat)(b:j<p.group.length):0<=p.group.getD j 0/\p.group.getD j 0<((Bb p).length:Int):=h.2.2.1.1 _ (Dw b)
theorem Ad8(h:Cx p)(j:Nat)(b:j<p.aggs.length):FZ (Bb p) (p.aggs.getD j (0,0)):=h.2.2.2 _ (Dw b)
theorem JI{B:Nat}{a:ϙ}(h:Below B a w)(q:Nat):Below B a (w.drewN q):=⟨h.os,h.tape,h.output,h.size,h.block⟩
theorem Cz(p:Pln)(x:PA)(w:ϙ)(hw:wfPlan p)(Y:planAt w p x)(n1:0<p.left.length)(n2:0<p.right.length)(m1:p.left.length<=400)(m2:p.right.length<=400):
 η 73 #[Ap p x] w (θ w (.bool (decide (Cx p)))):=by
 have az:(Bb p).length<=800:=by unfold Bb;rw[lAp];omega
 have J:=hIz (λ(F:ϙ) (N:Ϝ w F)=>NZ p x F hw (Ae Y N));have H:=hIz (λ(F:ϙ) (N:Ϝ w F)=>Cy p x F (Ae Y N) n1 n2 m1 m2);have L:=hIz (λU W (F:ϙ) (N:Ϝ w F)=>EN x.g U x.gc W (Bb p).length p.group F hw.g ϝ (Ao Y.g N));have I:=hIz (λU W (F:ϙ) (N:Ϝ w F) (hi:Ay F U (Bb p))=>Oa x.a U x.ac W p.aggs (Bb p) F hw.a ϝ (CP Y.a N) hi);have G:ϛ (decide (Cx p)=(decide (p.low<=p.high)&&decide (Hh p)&&decide (AV p.group (Bb p).length)&&decide (GF (Bb p) p.aggs))):=by
  refine(DX ?_).symm;unfold Cx;simp only[Bool.and_eq_true,decide_eq_true_eq,and_assoc];exact Iff.rfl
 obtain⟨q1,ar⟩:=nM (decide (Hh p));obtain⟨q2,au⟩:=nM (decide (AV p.group (Bb p).length));obtain⟨q3,av⟩:=nM (decide (GF (Bb p) p.aggs));rw[ar]at J G;rw[au]at L G;rw[av]at I G;obtain⟨cn,ap⟩:=nM ((Bb p).length);rw[ap]at H L I;obtain⟨cs,aq⟩:=nM (Bb p);rw[aq]at H I;clear ar au av ap aq az hw Y n1 n2 m1 m2;obtain⟨ag,aj,R,O,an,ah,left,right,bb,bc,aa,ax,aw⟩:=p;obtain⟨l,lc,r,rc,lk,ai,rk,am,g,gc,a,ac⟩:=x;unfold Ap at J H⊢;dsimp only at J H L I G⊢;obtain⟨n6,h6⟩:∃n,left.length=n:=⟨_,rfl⟩;obtain⟨n7,h7⟩:∃n,right.length=n:=⟨_,rfl⟩;obtain⟨n8,h8⟩:∃n,bb.length=n:=⟨_,rfl⟩;obtain⟨n9,h9⟩:∃n,bc.length=n:=⟨_,rfl⟩;obtain⟨ak,ab⟩:∃n,ax.length=n:=⟨_,rfl⟩;obtain⟨al,ae⟩:∃n,aw.length=n:=⟨_,rfl⟩;rw[h6,h7,h8,h9,ab,ae]at J H;rw[ab]at L;rw[ae]at I;rw[h6,h7,h8,h9,ab,ae];clear h6 h7 h8 h9 ab ae;by_cases V:R<=O
 ·have t0:=Hm (x:=R) (y:=O) true (decide_eq_true V);rw[decide_eq_true V]at G;clear V
  cases q1
  ·clear H L I;go_enter func73,ntmps73;go_wp2;refine wp_region_held_drew (S:=(λT=>ϑ T w (vI ag) (vI aj) (vI R) (vI O) (vI an) (vI ah) (vS l n6 lc) (vS r n7 rc) (vS lk n8 ai) (vS rk n9 am) (.bool aa) (vS g ak gc) (vS a al ac))) Ϡ ⟨ϡ,ϡ,ϡ,ϡ,ϡ,ϡ,ϡ,ϡ,ϡ,ϡ,ϡ,ϡ,ϡ⟩ (λb=>?_);refine tkz 0 3 b ?_;refine tkz 1 4 b ?_;refine tkz 2 5 b ?_;refine tkz 3 6 b ?_;refine tkz 4 7 b ?_;refine tkz 5 8 b ?_;refine tkz 6 9 b ?_;refine rD 7 λK h=>?_;go_simp;refine(J.o _ (by first|exact Ϩ.drew|exact Ϩ)).mono ?_;rintro e Z ⟨rfl,c⟩;have M:Ϝ w Z:=(by first|exact(Ϩ.drew).trans (c.mono ϟ)|exact Ϩ.trans (c.mono ϟ));go_wp2_with fail;refine h.out _ _ (by obtain⟨i,j,q,s,u,v,z,A,B,C,k,m,o⟩:=b;exact⟨cLz c i,cLz c j,cLz c q,cLz c s,cLz c u,cLz c v,cLz c z,cLz c A,cLz c B,cLz c C,cLz c k,cLz c m,cLz c o⟩) (λb=>?_);clear h K
   try simp only[Act.put,sI,sZ,sS]
   refine tkz 8 11 b ?_;refine tkz 9 12 b ?_;refine sk 10 13 b ?_;refine sk 11 14 b ?_;refine sk 12 15 b ?_;refine sk 13 16 b ?_;refine sk 14 17 b ?_;refine tkz 15 18 b ?_;refine tkz 16 19 b ?_;refine sk 17 20 b ?_;refine sk 18 21 b ?_;refine sk 19 22 b ?_;refine sk 20 23 b ?_;refine sk 21 24 b ?_;refine tkz 22 25 b ?_;refine tkz 23 2 b ?_;refine wpAnyH_done Ϡ ?_ _;go_wp2;go_ret;exact⟨Aa (by rw[G.o];first|rfl|simp),by first|exact M|exact(Ϩ.drew)|exact Ϩ⟩
  ·cases q2
   ·clear I;go_enter func73,ntmps73;go_wp2;refine wp_region_held_drew (S:=(λT=>ϑ T w (vI ag) (vI aj) (vI R) (vI O) (vI an) (vI ah) (vS l n6 lc) (vS r n7 rc) (vS lk n8 ai) (vS rk n9 am) (.bool aa) (vS g ak gc) (vS a al ac))) Ϡ ⟨ϡ,ϡ,ϡ,ϡ,ϡ,ϡ,ϡ,ϡ,ϡ,ϡ,ϡ,ϡ,ϡ⟩ (λb=>?_);refine tkz 0 3 b ?_;refine tkz 1 4 b ?_;refine tkz 2 5 b ?_;refine tkz 3 6 b ?_;refine tkz 4 7 b ?_;refine tkz 5 8 b ?_;refine tkz 6 9 b ?_;refine rD 7 λK h=>?_;go_simp;refine(J.o _ (by first|exact Ϩ.drew|exact Ϩ)).mono ?_;rintro e Z ⟨rfl,c⟩;have M:Ϝ w Z:=(by first|exact(Ϩ.drew).trans (c.mono ϟ)|exact Ϩ.trans (c.mono ϟ));go_wp2_with fail;refine h.out _ _ (by obtain⟨i,j,q,s,u,v,z,A,B,C,k,m,o⟩:=b;exact⟨cLz c i,cLz c j,cLz c q,cLz c s,cLz c u,cLz c v,cLz c z,cLz c A,cLz c B,cLz c C,cLz c k,cLz c m,cLz c o⟩) (λb=>?_);clear h K
    try simp only[Act.put,sI,sZ,sS]
    refine tkz 8 11 b ?_;refine tkz 9 12 b ?_;refine tkz 10 13 b ?_;refine tkz 11 14 b ?_;refine tkz 12 15 b ?_;refine rD 13 λK h=>?_;go_simp;refine(H.o _ M).mono ?_;rintro e wb ⟨⟨U,W,rfl,ho⟩,d⟩;have X:=bT M d;go_wp2_with fail;refine h.out _ _ (by obtain⟨i,j,q,s,u,v,z,A,B,C,k,m,o⟩:=b;exact⟨cLz d i,cLz d j,cLz d q,cLz d s,cLz d u,cLz d v,cLz d z,cLz d A,cLz d B,cLz d C,cLz d k,cLz d m,cLz d o⟩) (λb=>?_);clear h K
    try simp only[Act.put,sI,sZ,sS]
    refine rD 14 λK h=>?_;go_simp;refine(L.o _ _ _ X).mono ?_;rintro e wc ⟨rfl,f⟩;have af:=bT X f;go_wp2_with fail;refine h.out _ _ (by obtain⟨i,j,q,s,u,v,z,A,B,C,k,m,o⟩:=b;exact⟨cLz f i,cLz f j,cLz f q,cLz f s,cLz f u,cLz f v,cLz f z,cLz f A,cLz f B,cLz f C,cLz f k,cLz f m,cLz f o⟩) (λb=>?_);clear h K
    try simp only[Act.put,sI,sZ,sS]
    refine tkz 15 18 b ?_;refine tkz 16 19 b ?_;refine sk 17 20 b ?_;refine sk 18 21 b ?_;refine sk 19 22 b ?_;refine sk 20 23 b ?_;refine sk 21 24 b ?_;refine tkz 22 25 b ?_;refine tkz 23 2 b ?_;refine wpAnyH_done Ϡ ?_ _;go_wp2;go_ret;exact⟨Aa (by rw[G.o];first|rfl|simp),by first|exact af|exact(Ϩ.drew)|exact Ϩ⟩
   ·cases q3
    all_goals
     go_enter func73,ntmps73;go_wp2;refine wp_region_held_drew (S:=(λT=>ϑ T w (vI ag) (vI aj) (vI R) (vI O) (vI an) (vI ah) (vS l n6 lc) (vS r n7 rc) (vS lk n8 ai) (vS rk n9 am) (.bool aa) (vS g ak gc) (vS a al ac))) Ϡ ⟨ϡ,ϡ,ϡ,ϡ,ϡ,ϡ,ϡ,ϡ,ϡ,ϡ,ϡ,ϡ,ϡ⟩ (λb=>?_);refine tkz 0 3 b ?_;refine tkz 1 4 b ?_;refine tkz 2 5 b ?_;refine tkz 3 6 b ?_;refine tkz 4 7 b ?_;refine tkz 5 8 b ?_;refine tkz 6 9 b ?_;refine rD 7 λK h=>?_;go_simp;refine(J.o _ (by first|exact Ϩ.drew|exact Ϩ)).mono ?_;rintro e Z ⟨rfl,c⟩;have M:Ϝ w Z:=(by first|exact(Ϩ.drew).trans (c.mono ϟ)|exact Ϩ.trans (c.mono ϟ));go_wp2_with fail;refine h.out _ _ (by obtain⟨i,j,q,s,u,v,z,A,B,C,k,m,o⟩:=b;exact⟨cLz c i,cLz c j,cLz c q,cLz c s,cLz c u,cLz c v,cLz c z,cLz c A,cLz c B,cLz c C,cLz c k,cLz c m,cLz c o⟩) (λb=>?_);clear h K
     try simp only[Act.put,sI,sZ,sS]
     refine tkz 8 11 b ?_;refine tkz 9 12 b ?_;refine tkz 10 13 b ?_;refine tkz 11 14 b ?_;refine tkz 12 15 b ?_;refine rD 13 λK h=>?_;go_simp;refine(H.o _ M).mono ?_;rintro e wb ⟨⟨U,W,rfl,ho⟩,d⟩;have X:=bT M d;go_wp2_with fail;refine h.out _ _ (by obtain⟨i,j,q,s,u,v,z,A,B,C,k,m,o⟩:=b;exact⟨cLz d i,cLz d j,cLz d q,cLz d s,cLz d u,cLz d v,cLz d z,cLz d A,cLz d B,cLz d C,cLz d k,cLz d m,cLz d o⟩) (λb=>?_);clear h K
     try simp only[Act.put,sI,sZ,sS]
     refine rD 14 λK h=>?_;go_simp;refine(L.o _ _ _ X).mono ?_;rintro e wc ⟨rfl,f⟩;have af:=bT X f;go_wp2_with fail;refine h.out _ _ (by obtain⟨i,j,q,s,u,v,z,A,B,C,k,m,o⟩:=b;exact⟨cLz f i,cLz f j,cLz f q,cLz f s,cLz f u,cLz f v,cLz f z,cLz f A,cLz f B,cLz f C,cLz f k,cLz f m,cLz f o⟩) (λb=>?_);clear h K
     try simp only[Act.put,sI,sZ,sS]
     refine tkz 15 18 b ?_;refine tkz 16 19 b ?_;refine tkz 17 20 b ?_;refine tkz 18 21 b ?_;refine tkz 19 22 b ?_;refine rD 20 λK h=>?_;go_simp;refine(H.o _ af).mono ?_;rintro e wd ⟨⟨bd,be,rfl,ba⟩,D⟩;have ao:=bT af D;go_wp2_with fail;refine h.out _ _ (by obtain⟨i,j,q,s,u,v,z,A,B,C,k,m,o⟩:=b;exact⟨cLz D i,cLz D j,cLz D q,cLz D s,cLz D u,cLz D v,cLz D z,cLz D A,cLz D B,cLz D C,cLz D k,cLz D m,cLz D o⟩) (λb=>?_);clear h K
     try simp only[Act.put,sI,sZ,sS]
     refine rD 21 λK h=>?_;go_simp;refine(I.o _ _ _ ao (Il ba).1).mono ?_;rintro e we ⟨rfl,E⟩;have ay:=bT ao E;go_wp2_with fail;refine h.out _ _ (by obtain⟨i,j,q,s,u,v,z,A,B,C,k,m,o⟩:=b;exact⟨cLz E i,cLz E j,cLz E q,cLz E s,cLz E u,cLz E v,cLz E z,cLz E A,cLz E B,cLz E C,cLz E k,cLz E m,cLz E o⟩) (λb=>?_);clear h K
     try simp only[Act.put,sI,sZ,sS]
     refine tkz 22 25 b ?_;refine tkz 23 2 b ?_;refine wpAnyH_done Ϡ ?_ _;go_wp2;go_ret;exact⟨Aa (by rw[G.o];first|rfl|simp),by first|exact ay|exact(Ϩ.drew)|exact Ϩ⟩
 ·have t0:=Hm (x:=R) (y:=O) false (decide_eq_false V);rw[decide_eq_false V]at G;clear V J H L I;go_enter func73,ntmps73;go_wp2;refine wp_region_held_drew (S:=(λT=>ϑ T w (vI ag) (vI aj) (vI R) (vI O) (vI an) (vI ah) (vS l n6 lc) (vS r n7 rc) (vS lk n8 ai) (vS rk n9 am) (.bool aa) (vS g ak gc) (vS a al ac))) Ϡ ⟨ϡ,ϡ,ϡ,ϡ,ϡ,ϡ,ϡ,ϡ,ϡ,ϡ,ϡ,ϡ,ϡ⟩ (λb=>?_);refine tkz 0 3 b ?_;refine tkz 1 4 b ?_;refine tkz 2 5 b ?_;refine tkz 3 6 b ?_;refine tkz 4 7 b ?_;refine tkz 5 8 b ?_;refine sk 6 9 b ?_;refine sk 7 10 b ?_;refine tkz 8 11 b ?_;refine tkz 9 12 b ?_;refine sk 10 13 b ?_;refine sk 11 14 b ?_;refine sk 12 15 b ?_;refine sk 13 16 b ?_;refine sk 14 17 b ?_;refine tkz 15 18 b ?_;refine tkz 16 19 b ?_;refine sk 17 20 b ?_;refine sk 18 21 b ?_;refine sk 19 22 b ?_;refine sk 20 23 b ?_;refine sk 21 24 b ?_;refine tkz 22 25 b ?_;refine tkz 23 2 b ?_;refine wpAnyH_done Ϡ ?_ _;go_wp2;go_ret;exact⟨Aa (by rw[G.o];first|rfl|simp),by first|exact M|exact(Ϩ.drew)|exact Ϩ⟩
def Za(a b c d e:Bool):Int:=if a=false then 4 else if b=false then 3 else if c=false then 2 else if d=false then 5 else if e=false then 1 else 0
theorem WC(p:Pln):Ag p=Za (decide (D4 p)) (decide (CX p)) (decide (D7 p)) (decide (De p)) (decide (Cx p)):=by
 unfold Ag Za;simp only[decide_eq_false_iff_not]
theorem Fo(h:D7 p):(0<p.left.length/\p.left.length<=4)/\(0<p.right.length/\p.right.length<=4)/\(0<p.lkeys.length/\p.lkeys.length<=4)/\(0<p.rkeys.length/\p.rkeys.length<=4)/\p.aggs.length<=4/\p.group.length<=8:=by
 obtain⟨⟨c,d,e,f⟩,b⟩:=h;unfold J6 at c d e f b;split at b
 ·omega
 ·omega
theorem C0(p:Pln)(x:PA)(w:ϙ)(o:wfPlan p)(m:planAt w p x):
 η 32 #[Ap p x] w (θ w (vI (Ag p))):=by
 have i:=hIz (λ(b:ϙ) (d:Ϝ w b)=>Mz p x b (Ae m d) o);have j:=hIz (λ(b:ϙ) (d:Ϝ w b)=>EK p x b);have k:=hIz (λ(b:ϙ) (d:Ϝ w b)=>EL p x b o);have f:ϛ (∀b,Ϝ w b->yes (decide (D7 p)) (CT 72 #[Ap p x] b (θ b (.bool (decide (De p)))))):=λb d J=>by
  have ad:=Fo (of_decide_eq_true J);exact M3 p x b (Ae m d) ϝ ϝ ϝ ϝ
 have h:ϛ (∀b,Ϝ w b->yes (decide (D7 p)) (CT 73 #[Ap p x] b (θ b (.bool (decide (Cx p)))))):=λb d J=>by
  have ad:=Fo (of_decide_eq_true J);exact Cz p x b o (Ae m d) ϝ ϝ ϝ ϝ
 have c:ϛ (Ag p=Za (decide (D4 p)) (decide (CX p)) (decide (D7 p)) (decide (De p)) (decide (Cx p))):=WC p;obtain⟨q1,O⟩:=nM (decide (D4 p));obtain⟨q2,R⟩:=nM (decide (CX p));obtain⟨q3,T⟩:=nM (decide (D7 p));obtain⟨q4,U⟩:=nM (decide (De p));obtain⟨q5,V⟩:=nM (decide (Cx p));rw[O]at i c;rw[R]at j c;rw[T]at k f h c;rw[U]at f c;rw[V]at h c;clear O R T U V o m;obtain⟨ae,ah,ag,ab,ai,af,left,right,W,X,Y,M,L⟩:=p;obtain⟨l,lc,r,rc,lk,ax,rk,a0,g,gc,a,ac⟩:=x;unfold Ap at i j k f h⊢;dsimp only at i j k f h⊢;obtain⟨n6,u⟩:∃n,left.length=n:=⟨_,rfl⟩;obtain⟨n7,v⟩:∃n,right.length=n:=⟨_,rfl⟩;obtain⟨n8,z⟩:∃n,W.length=n:=⟨_,rfl⟩;obtain⟨n9,A⟩:∃n,X.length=n:=⟨_,rfl⟩;obtain⟨ay,q⟩:∃n,M.length=n:=⟨_,rfl⟩;obtain⟨az,s⟩:∃n,L.length=n:=⟨_,rfl⟩;rw[u,v,z,A,q,s]at i j k f h;rw[u,v,z,A,q,s];clear u v z A q s;obtain⟨pe,N⟩:=nM (Ag ⟨ae,ah,ag,ab,ai,af,left,right,W,X,Y,M,L⟩);rw[N]at c⊢;clear N;go_enter func32,ntmps32;go_wp2_with fail;refine(i.o _ Ϩ).mono ?_;rintro e b ⟨rfl,B⟩;have F:=Ϩ.trans (B.mono ϟ);obtain⟨aj,an⟩:=DF B;have ar:w.heap.size<b.heap.size:=(by have:=B.size;simp at this;omega)
 cases q1
 ·go_wp2;go_ret;exact⟨Aj c.o.symm,F⟩
 go_wp2_with fail;refine(j.o _ F).mono ?_;rintro e w2 ⟨rfl,C⟩;have G:=bT F C;obtain⟨ak,ao⟩:=DF C;have au:w.heap.size<w2.heap.size:=(by have:=C.size;omega)
 cases q2
 ·go_wp2;go_ret;exact⟨Aj c.o.symm,G⟩
 go_wp2_with fail;refine(k.o _ G).mono ?_;rintro e w3 ⟨rfl,D⟩;have H:=bT G D;obtain⟨al,ap⟩:=DF D;have av:w.heap.size<w3.heap.size:=(by have:=D.size;omega)
 cases q3
 ·go_wp2;go_ret;exact⟨Aj c.o.symm,H⟩
 go_wp2_with fail;refine(f.o _ H rfl).mono ?_;rintro e w4 ⟨rfl,E⟩;have I:=bT H E;obtain⟨am,aq⟩:=DF E;have aw:w.heap.size<w4.heap.size:=(by have:=E.size;omega)
 cases q4
 ·go_wp2;go_ret;exact⟨Aj c.o.symm,I⟩
 go_wp2_with fail;refine(h.o _ I rfl).mono ?_;rintro e w5 ⟨rfl,Z⟩;have aa:=bT I Z
 cases q5
 all_goals
  go_wp2;go_ret;exact⟨Aj c.o.symm,aa⟩
def bare(p:Pln):Pln:={p with aggs:=[]}
theorem Rc:fit t↔tm.Br t=true:=by rw[tm.LK];exact Iff.rfl
theorem MA(h:fit t):tm.Br t=true:=Rc.1 h
def K9(m s:Int):Int:=if m=1099511627776 then 1099511627776 else m - s
theorem DY{a b c d:Int}(e:a=c)(f:b=d):Ending.returned (.tuple #[vI a,vI b])= .returned (.tuple #[vI c,vI d]):=by rw[e,f]
theorem Ab3(m s:Int)(w:ϙ)(d:fit m)(f:fit s):
 η 359 #[vI m,vI s] w (θ w (.tuple #[vI (K9 m s),ω])):=by
 have h:tm.Abk m s=true:=by unfold tm.Abk;rw[MA d,MA f];rfl
 obtain⟨i,j⟩:=d;obtain⟨k,o⟩:=f;by_cases e:m=1099511627776
 ·subst e;have b:ϛ (K9 1099511627776 s=1099511627776):=rfl;go_enter func359,ntmps359;go_wp2_with (go_at_call 366;refine(tm.UG _ 1099511627776 s _ ϡ ϡ).mono ?_;rintro e g ⟨rfl,c⟩;subst c)
  go_ret2
  refine⟨DY b.o.symm rfl,?_⟩
  repeat (first|exact bR|apply Below.drew|(refine Below.alloc ?_ Ϥ _))
 ·have q:(m==1099511627776)=false:=by simpa using e
  have b:ϛ (K9 m s=m - s):=if_neg e;clear e;go_enter func359,ntmps359;go_wp2_with (go_at_call 366;refine(tm.UG _ m s _ ϡ ϡ).mono ?_;rintro e g ⟨rfl,c⟩;subst c)
  go_ret2
  refine⟨DY b.o.symm rfl,?_⟩
  repeat (first|exact bR|apply Below.drew|(refine Below.alloc ?_ Ϥ _))
def WE(mark size:Int):Int:=if mark=1099511627776 then 1099511627776 else tm.start (mark+1) size - 1
def FO(p:Pln)(side mark:Int):Int:=
 if p.kind=1 then K9 mark (if side=2 then -p.low else p.high)else if p.kind=2 then WE mark p.size else if side=2 then -1099511627777 else mark
def Bm(side:Int):Bool:=decide (side=1\/side=2)
def LM(p:Pln)(side mark:Int):Int:=if Ag p=0 then(if Bm side=true then(if tm.Br mark=true then 0 else 3)else 4)else Ag p
def O4(p:Pln)(side mark:Int):Int:=if LM p side mark=0 then FO p side mark else 0
theorem CS(side:Int)(w:ϙ):η 210 #[vI side] w λe d=>e= .returned (.bool (Bm side))/\d=w:=by
 by_cases b:side=1
 ·subst b;go_enter func210,ntmps210;go_wp2;go_ret;exact⟨rfl,rfl⟩
 ·have f:(side==1)=false:=by simpa using b
  have c:ϛ (Bm side=(side==2)):=by show Bm side=_;unfold Bm;exact Bool.eq_iff_iff.2 (by simp[b])
  clear b;go_enter func210,ntmps210;go_wp2;go_ret;exact⟨Aa c.o.symm,rfl⟩
theorem WG(p:Pln)(x:PA)(side:Int)(w:ϙ)(c:fit p.low):
 η 360 #[Ap p x,vI side] w (θ w (vI (if side=2 then -p.low else p.high))):=by
 obtain⟨q,C,B,m,H,u,left,right,A,G,i,h,e⟩:=p;obtain⟨l,s,r,D,v,z,E,F,g,f,a,d⟩:=x;unfold Ap;dsimp only at c⊢;obtain⟨j,k⟩:=c;by_cases b:side=2
 ·subst b;rw[if_pos rfl];go_enter func360,ntmps360;go_wp2;go_ret;exact⟨Aj (by first|rfl|omega),Ϩ⟩
 ·have o:(side==2)=false:=by simpa using b
  rw[if_neg b];clear b;go_enter func360,ntmps360;go_wp2;go_ret;exact⟨rfl,Ϩ⟩
theorem Re(b size:Int)(w:ϙ)(k:fit b)(h:1<=size)(i:size<=1099511627776):
 η 361 #[vI b,vI size] w (θ w (.tuple #[vI (WE b size),ω])):=by
 obtain⟨s,u⟩:=k;by_cases e:b=1099511627776
 ·subst e;have c:ϛ (WE 1099511627776 size=1099511627776):=rfl;go_enter func361,ntmps361;go_wp2
  go_ret2
  exact⟨DY c.o.symm rfl,bR⟩
 ·have v:(b==1099511627776)=false:=by simpa using e
  have j:tm.Br (b+1)=true:=MA ⟨ϝ,ϝ⟩;have c:ϛ (WE b size=tm.start (b+1) size - 1):=if_neg e;have o:=tm.YP (b+1) size ϝ;obtain⟨q,r⟩:=o;clear e;have K:ϛ (∀d,CT 367 #[vI (b+1),vI size] d λe g=>e= .returned (.tuple #[vI (tm.start (b+1) size),vI (tm.start (b+1) size+size),ω])/\g=d):=λd=>tm.Mw (b+1) size d j h i;obtain⟨z,f⟩:=nM (tm.start (b+1) size);rw[f]at K c q r;clear f;go_enter func361,ntmps361;go_wp2_with (go_at_call 367;refine(K.o _).mono ?_;rintro e g ⟨rfl,m⟩;subst m)
  go_ret2
  exact⟨DY c.o.symm rfl,bR⟩
theorem Aet(h:Ag p=0)(b:p.kind=1):fit p.low/\fit p.high:=by
 have:=(Bf h).2.1.1;rw[if_pos b]at this;exact this
theorem ok_2(h:Ag p=0)(b:p.kind=2):1<=p.size/\p.size<=1099511627776:=by
 have:=(Bf h).2.1.2.1;rw[if_pos b]at this;exact this
theorem Ab4(h:fit t):fit (-t):=by unfold fit at *;omega
def GH(pe:Int)(sb fb:Bool):Int:=if pe=0 then(if sb=true then(if fb=true then 0 else 3)else 4)else pe
theorem JJ(p:Pln)(x:PA)(side c:Int)(w:ϙ)(b:wfPlan p)(hp:planAt w p x):
 η 349 #[Ap p x,vI side,vI c] w (θ w (.tuple #[vI (O4 p side c),vI (LM p side c)])):=by
 have E:ϛ (∀d,Ϝ w d->CT 32 #[Ap p x] d (θ d (vI (Ag p)))):=λd hb=>C0 p x d b (Ae hp hb);have i:ϛ (LM p side c=GH (Ag p) (Bm side) (tm.Br c)):=rfl;have f:ϛ (O4 p side c=if GH (Ag p) (Bm side) (tm.Br c)=0 then FO p side c else 0):=rfl;have k:ϛ (∀d,Ag p=0->p.kind=1->CT 360 #[Ap p x,vI side] d (θ d (vI (if side=2 then -p.low else p.high)))):=λd h F=>WG p x side d (Aet h F).1;have m:ϛ (Ag p=0->p.kind=1->fit (if side=2 then -p.low else p.high)):=λh F=>by
  have:=Aet h F;split
  ·exact Ab4 this.1
  ·exact this.2
 have A:ϛ (Ag p=0->p.kind=2->1<=p.size/\p.size<=1099511627776):=λh F=>ok_2 h F;have o:ϛ (p.kind=1->FO p side c=K9 c (if side=2 then -p.low else p.high)):=λh=>if_pos h;have v:ϛ (p.kind=2->FO p side c=WE c p.size):=λh=>by show FO p side c=_;unfold FO;rw[if_neg ϝ,if_pos h]
 have z:ϛ (¬p.kind=1->¬p.kind=2->FO p side c=if side=2 then -1099511627777 else c):=λh1 h2=>by show FO p side c=_;unfold FO;rw[if_neg h1,if_neg h2]
 obtain⟨L,af⟩:=nM (Ag p);rw[af]at E i f k m A;obtain⟨Z,ag⟩:=nM (if side=2 then -p.low else p.high);rw[ag]at k m o;obtain⟨M,ae⟩:=nM (O4 p side c);obtain⟨ge,ad⟩:=nM (LM p side c);obtain⟨H,ab⟩:=nM (FO p side c);rw[ae]at f⊢;rw[ad]at i⊢;rw[ab]at f o v z;clear af ag ae ad ab b hp;obtain⟨J,aw,av,ap,ah,aq,left,right,au,a0,am,al,ak⟩:=p;obtain⟨l,lc,r,rc,lk,ar,rk,az,g,gc,a,ac⟩:=x;unfold Ap at E k⊢;dsimp only at E k m A o v z⊢;obtain⟨n6,R⟩:∃n,left.length=n:=⟨_,rfl⟩;obtain⟨n7,T⟩:∃n,right.length=n:=⟨_,rfl⟩;obtain⟨n8,U⟩:∃n,au.length=n:=⟨_,rfl⟩;obtain⟨n9,V⟩:∃n,a0.length=n:=⟨_,rfl⟩;obtain⟨ax,N⟩:∃n,al.length=n:=⟨_,rfl⟩;obtain⟨ay,O⟩:∃n,ak.length=n:=⟨_,rfl⟩;rw[R,T,U,V,N,O]at E k;rw[R,T,U,V,N,O];clear R T U V N O;go_enter func349,ntmps349;go_wp2_with fail;refine(E.o _ Ϩ).mono ?_;rintro e d ⟨rfl,W⟩;have s:=Ϩ.trans (W.mono ϟ);obtain⟨a2,a3⟩:=DF W;have a4:w.heap.size<d.heap.size:=(by have:=W.size;simp at this;omega);by_cases C:L=0
 ·subst C
  cases hsb:Bm side
  ·rw[hsb]at i f;go_wp2_with (go_at_call 210;refine(CS _ _).mono ?_;rintro e j ⟨rfl,b⟩;subst b)
   go_ret2
   exact⟨DY (by rw[f.o];rfl) (by rw[i.o];rfl),s⟩
  rw[hsb]at i f
  cases hfb:tm.Br c
  ·rw[hfb]at i f;go_wp2_with (first
    |(go_at_call 210;refine(CS _ _).mono ?_;rintro e j ⟨rfl,b⟩;subst b)
    |(go_at_call 197;refine(tm.CF _ _).mono ?_;rintro e j ⟨rfl,b⟩;subst b))
   go_ret2
   exact⟨DY (by rw[f.o];rfl) (by rw[i.o];rfl),s⟩
  rw[hfb]at i f;have aa:ϛ (fit c):=Rc.2 hfb;have B:ϛ (M=H):=f.o;have u:ϛ (ge=0):=i.o;clear f i;by_cases G:J=1
  ·subst G;have HG:=o.o rfl;have q:ϛ (H=K9 c Z):=HG;have KR:ϛ (∀d,CT 360 #[.agg #[vI 1,vI aw,vI av,vI ap,vI ah,vI aq,vS l n6 lc,vS r n7 rc,vS lk n8 ar,vS rk n9 az,.bool am,vS g ax gc,vS a ay ac],vI side] d (θ d (vI Z))):=λd=>k.o d rfl rfl;have ai:ϛ (fit Z):=m.o rfl rfl;clear HG k m o v z A;go_wp2_with (first
    |(go_at_call 210;refine(CS _ _).mono ?_;rintro e j ⟨rfl,b⟩;subst b)
    |(go_at_call 197;refine(tm.CF _ _).mono ?_;rintro e j ⟨rfl,b⟩;subst b)
    |(go_at_call 360;refine(KR.o _).mono ?_;rintro e w2 ⟨rfl,an⟩;have ao:=bT s an)
    |(go_at_call 359;refine(Ab3 _ _ _ aa.o ai.o).mono ?_;rintro e w3 ⟨rfl,X⟩;have Y:=bT ao X))
   go_ret2
   exact⟨DY (by rw[B.o,q.o]) u.o.symm,Y⟩
  ·have a5:(J==1)=false:=by simpa using G
   by_cases I:J=2
   ·subst I;have q:ϛ (H=WE c ah):=v.o rfl;have aj:=A.o rfl rfl;obtain⟨s1,D⟩:=aj;clear k m o v z A G;go_wp2_with (first
     |(go_at_call 210;refine(CS _ _).mono ?_;rintro e j ⟨rfl,b⟩;subst b)
     |(go_at_call 197;refine(tm.CF _ _).mono ?_;rintro e j ⟨rfl,b⟩;subst b)
     |(go_at_call 361;refine(Re _ _ _ aa.o s1 D).mono ?_;rintro e w3 ⟨rfl,X⟩;have Y:=bT s X))
    go_ret2
    exact⟨DY (by rw[B.o,q.o]) u.o.symm,Y⟩
   ·have a6:(J==2)=false:=by simpa using I
    have q:ϛ (H=if side=2 then -1099511627777 else c):=z.o G I;clear k m o v z A G I;by_cases D:side=2
    ·subst D;go_wp2_with (first
      |(go_at_call 210;refine(CS _ _).mono ?_;rintro e j ⟨rfl,b⟩;subst b)
      |(go_at_call 197;refine(tm.CF _ _).mono ?_;rintro e j ⟨rfl,b⟩;subst b))
     go_ret2
     exact⟨DY (by rw[B.o,q.o];rfl) u.o.symm,s⟩
    ·have a7:(side==2)=false:=by simpa using D
     rw[if_neg D]at q;clear D;go_wp2_with (first
      |(go_at_call 210;refine(CS _ _).mono ?_;rintro e j ⟨rfl,b⟩;subst b)
      |(go_at_call 197;refine(tm.CF _ _).mono ?_;rintro e j ⟨rfl,b⟩;subst b))
     go_ret2
     exact⟨DY (by rw[B.o,q.o]) u.o.symm,s⟩
 ·have a1:(L !=0)=true:=by simpa using C
  have u:ϛ (ge=L):=by show ge=L;rw[i.o];exact if_neg C
  have B:ϛ (M=0):=by
   show M=0;rw[f.o,if_neg];unfold GH;rw[if_neg C];exact C
  clear C i f;go_wp2
  go_ret2
  exact⟨DY B.o.symm u.o.symm,s⟩
def AD(p:Pln)(side:Int):List Int:=if side=2 then p.right else p.left
def keysOf(p:Pln)(side:Int):List Int:=if side=2 then p.rkeys else p.lkeys
def cA(x:PA)(side:Int):Option Addr:=if side=2 then x.r else x.l
def cC(x:PA)(side:Int):Nat:=if side=2 then x.rc else x.lc
def kA(x:PA)(side:Int):Option Addr:=if side=2 then x.rk else x.lk
def kC(x:PA)(side:Int):Nat:=if side=2 then x.rkc else x.lkc
theorem Ad9(h:planAt w p x)(side:Int):Ay w (cA x side) (AD p side):=by
 unfold cA AD;split
 ·exact h.r
 ·exact h.l
theorem Gx(h:planAt w p x)(side:Int):Ay w (kA x side) (keysOf p side):=by
 unfold kA keysOf;split
 ·exact h.rk
 ·exact h.lk
theorem UU(h:wfPlan p)(side:Int):(AD p side).length<=χ:=by
 unfold AD;split
 ·exact h.r
 ·exact h.l
def JK(c:Cel)(t:Int):Bool:=decide (c.k=0\/c.k=t)
def DZ(r:List Cel)(c:List Int):Bool:=decide (r.length=c.length)&&allB r.length (λi=>JK (r.getD i ϰ) (c.getD i 0))
def Aeu(p:Pln)(side:Int)(r:List Cel):Int:=
 if Bm side=false then 4 else if r.length≠(AD p side).length then 2 else if FR r≠0 then FR r else if DZ r (AD p side)=false then 5 else 0
def Bn(p:Pln)(side:Int)(r:List Cel):Int:=if Ag p=0 then Aeu p side r else Ag p
theorem Lz(p:Pln)(x:PA)(side:Int)(w:ϙ):
 η 280 #[Ap p x,vI side] w (θ w (vS (cA x side) (AD p side).length (cC x side))):=by
 unfold cA cC AD;obtain⟨k,z,v,i,E,o,left,right,u,D,h,f,d⟩:=p;obtain⟨l,m,r,A,q,s,B,C,g,e,a,c⟩:=x;unfold Ap;dsimp only;by_cases b:side=2
 ·subst b;simp only[if_true];go_enter func280,ntmps280;go_wp2;go_ret;exact⟨rfl,Ϩ⟩
 ·have j:(side==2)=false:=by simpa using b
  simp only[if_neg b];clear b;go_enter func280,ntmps280;go_wp2;go_ret;exact⟨rfl,Ϩ⟩
theorem WH(p:Pln)(x:PA)(side:Int)(w:ϙ):
 η 255 #[Ap p x,vI side] w (θ w (vS (kA x side) (keysOf p side).length (kC x side))):=by
 unfold kA kC keysOf;obtain⟨k,z,v,i,E,o,left,right,u,D,h,f,d⟩:=p;obtain⟨l,m,r,A,q,s,B,C,g,e,a,c⟩:=x;unfold Ap;dsimp only;by_cases b:side=2
 ·subst b;simp only[if_true];go_enter func255,ntmps255;go_wp2;go_ret;exact⟨rfl,Ϩ⟩
 ·have j:(side==2)=false:=by simpa using b
  simp only[if_neg b];clear b;go_enter func255,ntmps255;go_wp2;go_ret;exact⟨rfl,Ϩ⟩
theorem Ab5(i:Nat)(B:Nat)(ad:Ϛ)(z:Nat)(c:List Int)(k n:Int)(s:ByteArray)(w:ϙ)(j:i<c.length)(C:c.length<=χ)(g:Ay w ad c)(f:Δ w B 0 (vS ad c.length z)):
 η 242 #[vI i,.agg #[vI k,vI n,.string s],μ B] w (θ w (.bool (JK ⟨k,n,s⟩ (c.getD i 0)))):=by
 have e:=bLt _ _ f;have D:B<w.heap.size:=e;obtain⟨v,I,A,r⟩:=g i j;subst A;have h:=bLt _ _ r;have E:v<w.heap.size:=h;have b:ϛ (JK ⟨k,n,s⟩ (c.getD i 0)=decide (k=0\/k=c.getD i 0)):=rfl;obtain⟨m,o⟩:=nM c.length;obtain⟨t,q⟩:=nM (c.getD i 0);rw[o]at j C f;rw[q]at r b⊢;have G:(0:Int)<=(i:Int):=ϝ;have H:(i:Int)<(m:Int):=ϝ;clear o q g e h;by_cases d:k=0
 ·subst d;go_enter func242,ntmps242;go_wp2
  go_quiet (fail)
  go_wp2;go_ret;exact⟨Aa (by rw[b.o];simp),JI Ϩ _⟩
 ·have F:(k==0)=false:=by simpa using d
  have u:ϛ (JK ⟨k,n,s⟩ t=(k==t)):=by show JK ⟨k,n,s⟩ t=_;rw[b.o];exact Bool.eq_iff_iff.2 (by simp[d])
  clear d b;go_enter func242,ntmps242;go_wp2
  go_quiet (fail)
  go_wp2;go_ret;exact⟨Aa u.o.symm,JI Ϩ _⟩
theorem KX(a ad:Ϛ)(f g:Nat)(r:List Cel)(c:List Int)(w:ϙ)(z:r.length<=χ)(v:c.length<=χ)(ha:vl.rowAt w a r)(u:Ay w ad c):
 η 177 #[vS a r.length f,vS ad c.length g] w (θ w (.bool (DZ r c))):=by
 have K:ϛ (∀B b,Ϝ w b->r.length=c.length->Δ b B 0 (vS ad c.length g)->
  η 241 #[vS a r.length f,.func (.func 242) #[] #[μ B]] b (θ b (.bool (allB r.length (λi=>JK (r.getD i ϰ) (c.getD i 0)))))):=by
  intro B b q G e0;exact Px 242 (enters_of func242 Ϡ rfl) #[μ B] (λi=>JK (r.getD i ϰ) (c.getD i 0)) a f r b z (Ab ha q)
   (λi E F s=>Ab5 i B ad g c _ _ _ E ϝ v (Ao (Ao u q) s) (cLz s e0))
 have d:ϛ (DZ r c=(decide (r.length=c.length)&&allB r.length (λi=>JK (r.getD i ϰ) (c.getD i 0)))):=rfl;obtain⟨H,A⟩:=nM (allB r.length (λi=>JK (r.getD i ϰ) (c.getD i 0)));rw[A]at K d;obtain⟨m,o⟩:=nM r.length;obtain⟨k,j⟩:=nM c.length;rw[o,j]at K d;rw[o,j];clear o j A ha u z v;by_cases h:m=k
 ·subst h;rw[show decide (m=m)=true by simp]at d;have D:((m:Int)==m)=true:=ϟ;go_enter func177,ntmps177;go_wp2_with (go_at_call 241;refine(K.o _ _ Ϩ ϥ ϡ).mono ?_;rintro e b ⟨rfl,C⟩);go_ret;exact⟨Aa (by rw[d.o];simp),Ϩ.trans (C.mono ϟ)⟩
 ·have D:((m:Int)==k)=false:=Ϣ;rw[decide_eq_false h]at d;clear h;go_enter func177,ntmps177;go_wp2;go_ret;exact⟨Aa (by rw[d.o];rfl),Ϩ⟩
def UW(sb:Bool)(n m:Nat)(er:Int)(tb:Bool):Int:=if sb=false then 4 else if n≠m then 2 else if er≠0 then er else if tb=false then 5 else 0
theorem GI(p:Pln)(x:PA)(side:Int)(D:Ϛ)(cr:Nat)(r:List Cel)(w:ϙ)(s:wfPlan p)(hp:planAt w p x)(hr:vl.rowAt w D r)(a7:B9 r)(ap:r.length<=χ):
 η 251 #[Ap p x,vI side,vS D r.length cr] w (θ w (vI (Bn p side r))):=by
 have o:=hIz (λ(f:ϙ) (F:Ϝ w f)=>C0 p x f s (Ae hp F));have q:=hIz (λ(f:ϙ)=>Lz p x side f);have M:=hIz (λ(f:ϙ) (F:Ϝ w f)=>KX D (cA x side) cr (cC x side) r (AD p side) f ap (UU s side) (Ab hr F) (Ao (Ad9 hp side) F));have b:ϛ (Bn p side r=if Ag p=0 then UW (Bm side) r.length (AD p side).length (FR r) (DZ r (AD p side))else Ag p):=rfl;have a0:=UU s side;have HR:ϛ (vl.rowAt w D r):=hr;obtain⟨I,aq⟩:=nM (Ag p);obtain⟨d,af⟩:=nM (Bn p side r);obtain⟨ca,Z⟩:=nM (cA x side);obtain⟨cc,aa⟩:=nM (cC x side);obtain⟨ka,a2⟩:=nM (kA x side);obtain⟨kc,a3⟩:=nM (kC x side);obtain⟨cn,A⟩:=nM ((AD p side).length);obtain⟨kn,a4⟩:=nM ((keysOf p side).length);obtain⟨tb,ah⟩:=nM (DZ r (AD p side));rw[aq]at o b;rw[Z,aa,A]at q;rw[Z,aa,A,ah]at M;rw[af,A,ah]at b;rw[A]at a0;rw[af];clear aq af Z aa a2 a3 A a4 ah hp s hr;obtain⟨n,hn⟩:=nM r.length;have C:ϛ (r.length=n):=hn;rw[hn]at M b ap⊢;clear hn;obtain⟨bd,bi,bh,bc,bn,be,left,right,a8,a9,ba,aw,av⟩:=p;obtain⟨l,lc,rr,rc,lk,bg,rk,bm,g,gc,a,ac⟩:=x;unfold Ap at o q⊢;dsimp only at o q⊢;obtain⟨n6,T⟩:∃n,left.length=n:=⟨_,rfl⟩;obtain⟨n7,U⟩:∃n,right.length=n:=⟨_,rfl⟩;obtain⟨n8,V⟩:∃n,a8.length=n:=⟨_,rfl⟩;obtain⟨n9,W⟩:∃n,a9.length=n:=⟨_,rfl⟩;obtain⟨bj,O⟩:∃n,aw.length=n:=⟨_,rfl⟩;obtain⟨bk,R⟩:∃n,av.length=n:=⟨_,rfl⟩;rw[T,U,V,W,O,R]at o q;rw[T,U,V,W,O,R];clear T U V W O R;go_enter func251,ntmps251;go_wp2_with fail;refine(o.o _ Ϩ).mono ?_;rintro e f ⟨rfl,X⟩;have Y:=Ϩ.trans (X.mono ϟ);obtain⟨az,a1⟩:=DF X;by_cases E:I=0
 ·subst E;rw[if_pos rfl]at b
  cases hsb:Bm side
  ·rw[hsb]at b;go_wp2_with (go_at_call 210;refine(CS _ _).mono ?_;rintro e w' ⟨rfl,s⟩;subst s);go_ret;exact⟨Aj (by rw[b.o];rfl),Y⟩
  rw[hsb]at b;go_wp2_with fail;refine(CS _ _).mono ?_;rintro e w' ⟨rfl,a6⟩;subst a6;rw[hsb];go_wp2_with fail;refine(q.o _).mono ?_;rintro e w2 ⟨rfl,am⟩;have an:=bT Y am;clear az a1 o q X am;by_cases ae:n=cn
  ·subst ae;have a5:((n:Int) !=n)=false:=ϟ;go_wp2
   go_loopw [11,30] (λ_ i wr=> ∃j:Nat,j<=n/\i=vI j/\Ϝ w wr/\∀i,i<j->(r.getD i ϰ).ok) (λ_ i _=>n - (intOf i).toNat)
   case atStart=>exact⟨0,Nat.zero_le _,rfl,an,λi hi=>absurd hi (Nat.not_lt_zero i)⟩
   case round=>
    obtain⟨j,hj,rfl,c,al⟩:=hrel;have L:ϛ (∀i,i<j->(r.getD i ϰ).ok):=al;have ag:=c.size;clear al;by_cases ad:j<n
    ·obtain⟨b1,o1,e1,x1,x2,x3⟩:=HR.o j (by rw[C.o];exact ad);subst e1;have q1:=cLz c x1;have q2:=cLz c x2;have q3:=cLz c x3;have ai:=AcN a7 j (by rw[C.o];exact ad);have B:ϛ (¬(r.getD j ϰ).ok->FR r=chk (r.getD j ϰ).k (r.getD j ϰ).n (r.getD j ϰ).s):=Vb r j (by rw[C.o];exact ad) L.o;have u:ϛ ((r.getD j ϰ).ok↔chk (r.getD j ϰ).k (r.getD j ϰ).n (r.getD j ϰ).s=0):=Iff.rfl;have aj:ϛ ((r.getD j ϰ).ok->∀i,i<j+1->(r.getD i ϰ).ok):=λh i hi=>by
      rcases Nat.lt_succ_iff_lt_or_eq.1 hi with N|N
      ·exact L.o i N
      ·rw[N];exact h
     obtain⟨OK,ak⟩:=nM ((r.getD j ϰ).ok);rw[ak]at B u aj;obtain⟨⟨G,H,J⟩,ao⟩:∃z,r.getD j ϰ=z:=⟨_,rfl⟩;rw[ao]at q1 q2 q3 ai B u;dsimp only at q1 q2 q3 ai B u;obtain⟨⟨bo,bp⟩,au⟩:=ai;have i1:(0:Int)<=(j:Int):=ϝ;have i2:(j:Int)<(n:Int):=ϝ;clear ak ao x1 x2 x3;by_cases m:chk G H J=0
     ·have ay:(chk G H J !=0)=false:=by simpa using m
      have HO:ϛ OK:=u.o.2 m;clear m;go_wp2_with (go_at_call 183;refine(vl.AH _ _ _ _ au).mono ?_;rintro e wc ⟨rfl,v⟩;have ab:=(c.alloc ag _).trans (v.mono Ϣ));go_roundw
      case rel=>exact⟨j+1,ϝ,by go_num,ab,aj.o HO.o⟩
      case measure=>simp[intOf];omega
     ·have ay:(chk G H J !=0)=true:=by simpa using m
      have k:ϛ (d=chk G H J):=by
       show d=_;rw[b.o,B.o (λh=>m (u.o.1 h))];unfold UW;rw[if_neg Ϟ,if_neg ϟ,if_pos m]
      clear m;go_wp2_with (go_at_call 183;refine(vl.AH _ _ _ _ au).mono ?_;rintro e wc ⟨rfl,v⟩;have ab:=(c.alloc ag _).trans (v.mono Ϣ));go_ret;exact⟨Aj k.o.symm,ab⟩
    ·have k:ϛ (d=if tb=false then 5 else 0):=by
      show d=_;rw[b.o,Nm r j (by rw[C.o];omega) L.o];unfold UW;rw[if_neg Ϟ,if_neg ϟ,if_neg ϟ]
     go_wp2_with fail;refine(M.o _ c).mono ?_;rintro e w3 ⟨rfl,ax⟩;have v:=c.trans (ax.mono ag)
     cases tb
     all_goals
      go_wp2;go_ret;exact⟨Aj k.o.symm,v⟩
  ·have a5:((n:Int) !=cn)=true:=Ϣ;have k:ϛ (d=2):=by
    show d=2;rw[b.o];unfold UW;rw[if_neg Ϟ,if_pos ae]
   clear ae;go_wp2;go_ret;exact⟨Aj k.o.symm,an⟩
 ·have bb:(I !=0)=true:=by simpa using E
  have k:ϛ (d=I):=by show d=I;rw[b.o,if_neg E]
  clear E;go_wp2;go_ret;exact⟨Aj k.o.symm,Y⟩
end pl
namespace gr
variable {P : Program} {ops : Array Oper} {Q : Exit -> Act -> World -> Prop} {S : World -> Prop} {a a' : Act} {w : ϙ} {md : Region.Mode} {fuel : Nat} {listed : Array Bool} {oi : Oper}
theorem Ds{id:Nat}(N:Nat)(d:ops.size=N)(c:P.follows .mixedOrders=true)(b:S w.drew)
 (h:S w.drew->wpAnyH P .any ops Q S N (Array.replicate N false) a w.drew):(Code.region id ops true).wp P Q a w:=
 wp_region_held_drew c b (by rw[d];exact h)
theorem skipJ(i:Nat)(d:Option Tmp)(f:S w)(h:wpAnyH P md ops Q S fuel (listed.setIfInBounds i true) a' w)
 (j:ops[i]? =some oi:=by exact rfl) (b:(Region.noSelect ops&&(Region.free md ops listed i&&(Region.ready md ops listed).contains i))=true:=by kernel_rfl) (g:oi.dst=d:=by exact rfl) (k:Region.wanted oi (yielded ops a.tmps)=false:=by exact rfl) (ha:a.put d undef=a':=by(simp only[Act.put,sI,sZ,sS];exact rfl))
 (e:∀c a w,Q (.panic c) (a.put oi.dst undef) w->Q (.panic c) a w:=by exact λ_ _ _ h=>h):wpAnyH P md ops Q S (fuel+1) listed a w:=by
 rw[Bool.and_eq_true,Bool.and_eq_true]at b;exact wpAnyH_take j b.1 b.2.1 b.2.2 e (Or.inr ⟨k,rfl⟩) f (by rw[g,ha];exact h)
theorem Rf{v:Value}(i:Nat)(d:Option Tmp)(f:S w)(h:wpAnyH P md ops Q S fuel (listed.setIfInBounds i true) a' w)
 (k:ops[i]? =some oi:=by exact rfl) (b:(Region.noSelect ops&&(Region.free md ops listed i&&(Region.ready md ops listed).contains i))=true:=by kernel_rfl) (j:oi.dst=d:=by exact rfl) (m:Region.wanted oi (yielded ops a.tmps)=true:=by exact rfl) (hy:∀w,S w->(execOp a.eval oi).run P w= .ok (.value v) w:=by(intro o g;(try dsimp only at g);first|(go_simp;done)|(go_simp;with_reducible rfl))) (ha:a.put d v=a':=by(simp only[Act.put,sI,sZ,sS];exact rfl))
 (e:∀c a w,Q (.panic c) (a.put oi.dst v) w->Q (.panic c) a w:=by exact λ_ _ _ h=>h):wpAnyH P md ops Q S (fuel+1) listed a w:=by
 rw[Bool.and_eq_true,Bool.and_eq_true]at b;exact wpAnyH_take k b.1 b.2.1 b.2.2 e (Or.inl ⟨m,hy⟩) f (by rw[j,ha];exact h)
end gr
namespace jn
variable {P : Program} {a : Act} {w : ϙ} {K : Act -> World -> Prop} {Q : Exit -> Act -> World -> Prop} {l n : Nat} {ops : Array Oper}
theorem Aev{o:Oper}(d:∀c,o.op≠ .defer c)(h:o.wp P a w K Q):o.wpIn (Fence.wide.inRound l) n P a w K Q:=by
 refine⟨λf _=>trivial,?_⟩;rw[Oper.semAt_eq _ _ _ d];unfold Oper.wp at h;generalize (execOp a.eval o).run P w=r at *
 cases r with
 |ok x w'=>
  cases x<;>simp only[Oper.upon,Oper.uponIn]at h⊢ <;>
   first
    |exact h
    |exact⟨λe=>by simp[Fence.wide]at e,CallsIn.inRound l (callsIn_wide.2 h)⟩
    |exact⟨λe=>by simp[Fence.wide]at e,λc b _=>let ⟨v,w',r,s⟩:=h c b;⟨v,w',r,stepsIn_wide.2 s⟩⟩
    |exact h.elim
 |halt x w'=>cases x<;>simp only[Oper.upon,Oper.uponIn]at h⊢ <;>exact h
theorem Ab6{e:Act->World->Prop}{i:Nat}(g:∀(i:Nat) (o:Oper),ops[i]? =some o->∀c,o.op≠Op.defer c)(j:¬LetsOut Q)(b:∀a w,K a w->e a w)(h:wpOp P ops Q i K a w):wpOpIn (Fence.wide.inRound l) n P ops Q i e a w:=by
 unfold wpOp at h;unfold wpOpIn
 cases ho:ops[i]? with
 |none=>simp only[ho]at h⊢;exact b _ _ h
 |some o=>
  simp only[ho]at h⊢;split
  ·rename_i d;simp only[d,if_true]at h;rcases h with h|h
   ·exact Oper.wpIn_mono b (Aev (g i o ho) h)
   ·exact absurd h.2 j
  ·rename_i d;simp only[d]at h;exact⟨λf _=>trivial,b _ _ h⟩
theorem Zx{P:Program}{md:Region.Mode}{ops:Array Oper}{Q:Exit->Act->World->Prop}{l n:Nat}(b:∀(i:Nat) (o:Oper),ops[i]? =some o->∀c,o.op≠Op.defer c)(d:¬LetsOut Q):∀(fuel:Nat) (listed:Array Bool) (a:Act) (w:ϙ),wpAny P md ops Q fuel listed a w->wpAnyIn (Fence.wide.inRound l) n P md ops Q fuel listed a w
 |0,_,_,_,h=>h
 |fuel+1,_,_,_,h=>⟨h.1,λi f=>Ab6 b d (λa' g e=>Zx b d fuel _ a' g e) (h.2 i f)⟩
theorem Zy{S:World->Prop}{id:Nat}(N:Nat)(g:ops.size=N)(b:P.follows .mixedOrders=true)(j:ops.toList.all (λo=>match o.op with| .defer _=>false|_=>true)=true)(k:¬LetsOut Q)(f:S w.drew)
 (h:S w.drew->wpAnyH P .any ops Q S N (Array.replicate N false) a w.drew):(Code.region id ops true).wpIn (Fence.wide.inRound l) n P Q a w:=by
 refine wpIn_region_any b ?_;rw[g];refine Zx (λi o m c e=>?_) k _ _ _ _ (wpAny_of_held _ _ _ _ (h f));have b:o∈ops.toList:=by
  obtain⟨q,d⟩:=Array.getElem?_eq_some_iff.1 m;rw[<-d];simp
 have:=List.all_eq_true.1 j o b;rw[e]at this
 cases this
end jn
end Go.Proofs.YtfkihidbnfkbaaaGreatDoor
