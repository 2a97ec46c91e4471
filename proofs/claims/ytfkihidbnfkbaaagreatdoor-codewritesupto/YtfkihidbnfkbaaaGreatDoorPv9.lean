import Derived.Test.YtfkihidbnfkbaaaGreatDoorPv8
set_option linter.all false
set_option maxHeartbeats 16000000
set_option maxRecDepth 100000
open Go.ChangeShapes Go.WideShapes Go.ChangeAt Go.RowKit List
namespace Go.Proofs.YtfkihidbnfkbaaaGreatDoor
open Go.Proofs.Tryz
namespace pl
open vl
def yes(b:Bool)(P:Prop):Prop:=b=true->P
def S6(p:Pln)(i:Nat):Bool:=decide (p.left.getD (p.lkeys.getD i 0).toNat 0=p.right.getD (p.rkeys.getD i 0).toNat 0)
theorem XS(p:Pln):decide (Gv p)=allB p.lkeys.length (S6 p):=by
 refine(Em ?_).symm;rw[AF];unfold Gv S6;simp only[decide_eq_true_eq]
def AcT(w:World)(B:Nat)(p:Pln)(x:PA):Prop:=
 Δ w B 6 (vS x.l p.left.length x.lc)/\Δ w B 7 (vS x.r p.right.length x.rc)/\Δ w B 9 (vS x.rk p.rkeys.length x.rkc)
theorem AcU(i:Nat)(B:Nat)(p:Pln)(x:PA)(w:Ϡ)(e:wfPlan p)(F:AcT w B p x)(c:planAt w p x)(v:i<p.lkeys.length)(G:p.lkeys.length=p.rkeys.length)(h1:Bj p.lkeys p.left.length)(o:Bj p.rkeys p.right.length):
 χ 199 #[vI i,vI (p.lkeys.getD i 0),ω B] w (ψ w (.bool (S6 p i))):=by
 have b:Ϣ (S6 p i=decide (p.left.getD (p.lkeys.getD i 0).toNat 0=p.right.getD (p.rkeys.getD i 0).toNat 0)):=rfl;obtain⟨j,k,m⟩:=F;have f:=h1.1 _ (CQ (d:=0) v);have g:=o.1 _ (CQ (d:=0) (show i<p.rkeys.length by omega));obtain⟨W,ae,h,R⟩:=c.rk i Ϥ;obtain⟨T,t⟩:=nM (p.lkeys.getD i 0);obtain⟨U,u⟩:=nM (p.rkeys.getD i 0);rw[t]at f b⊢;rw[u]at g b R;obtain⟨C,H⟩:=Int.eq_ofNat_of_zero_le f.1;obtain⟨D,I⟩:=Int.eq_ofNat_of_zero_le g.1;subst H I;rw[Int.toNat_natCast,Int.toNat_natCast]at b;obtain⟨bl,ol,el,N⟩:=c.l C Ϥ;obtain⟨V,oq,eq,O⟩:=c.r D Ϥ;obtain⟨v1,z⟩:=nM (p.left.getD C 0);obtain⟨v2,A⟩:=nM (p.right.getD D 0);rw[z]at N b;rw[A]at O b;rw[el]at j;rw[eq]at k;rw[h]at m;obtain⟨n6,q⟩:∃n,p.left.length=n:=⟨_,rfl⟩;obtain⟨n7,r⟩:∃n,p.right.length=n:=⟨_,rfl⟩;obtain⟨E,s⟩:∃n,p.rkeys.length=n:=⟨_,rfl⟩;have J:=e.l;have L:=e.r;have M:=e.rk;have X:i<E:=Ϥ;rw[q]at j f J;rw[r]at k g L;rw[s]at m M;obtain⟨aa,ab⟩:=f;obtain⟨ac,ad⟩:=g;have Y:=nn0 i;have Z:(i:Int)<(E:Int):=Ϥ;clear t u z A q r s e c h1 o v G el eq h;go_enter func199,ntmps199;go_wp2
 go_region
 all_goals
  go_wp2;go_ret;refine⟨Aa (by rw[b.o];exact Bool.eq_iff_iff.2 Ϧ),?_⟩
  repeat (first|exact bR|apply Below.drew)
theorem Pd(p:Pln)(x:PA)(w:Ϡ)(f:wfPlan p)(u:planAt w p x):
 χ 135 #[Aj p x] w (ψ w (.bool (decide (Iy p)))):=by
 have h:=hIz (λ(b:Ϡ) (m:ϣ w b)=>FK x.lk x.l x.lkc x.lc p.left.length p.lkeys b f.lk f.l (Al u.lk m));have j:=hIz (λ(b:Ϡ) (m:ϣ w b)=>FK x.rk x.r x.rkc x.rc p.right.length p.rkeys b f.rk f.r (Al u.rk m));have k:Ϣ (∀B b,ϣ w b->p.lkeys.length=p.rkeys.length->Bj p.lkeys p.left.length->Bj p.rkeys p.right.length->Δ b B 6 (vS x.l p.left.length x.lc)->Δ b B 7 (vS x.r p.right.length x.rc)->Δ b B 9 (vS x.rk p.rkeys.length x.rkc)->
  χ 132 #[vS x.lk p.lkeys.length x.lkc,.func (.func 199) #[] #[ω B]] b (ψ b (.bool (decide (Gv p))))):=by
  intro B b m t X Y U V W;rw[XS];exact Hq 199 (enters_of func199 ϧ rfl) #[ω B] (S6 p) x.lk x.lkc p.lkeys b f.lk (Al u.lk m)
   (λi J hi d=>AcU i B p x J f ⟨cLz d U,cLz d V,cLz d W⟩ (Ae (Ae u m) d) hi t X Y)
 have c:Ϣ (decide (Iy p)=(decide (p.lkeys.length=p.rkeys.length)&&decide (Bj p.lkeys p.left.length)&&decide (Bj p.rkeys p.right.length)&&decide (Gv p))):=by
  refine(Em ?_).symm;unfold Iy;simp only[Bool.and_eq_true,decide_eq_true_eq,and_assoc]
 have A:yes (decide (Bj p.lkeys p.left.length)) (Bj p.lkeys p.left.length):=of_decide_eq_true;have C:yes (decide (Bj p.rkeys p.right.length)) (Bj p.rkeys p.right.length):=of_decide_eq_true;obtain⟨q1,N⟩:=nM (decide (Bj p.lkeys p.left.length));obtain⟨q2,O⟩:=nM (decide (Bj p.rkeys p.right.length));obtain⟨q3,R⟩:=nM (decide (Gv p));rw[N]at h c A;rw[O]at j c C;rw[R]at k c;clear N O R f u;obtain⟨P1,L⟩:=nM (Bj p.lkeys p.left.length);obtain⟨P2,M⟩:=nM (Bj p.rkeys p.right.length);rw[L]at k A;rw[M]at k C;clear L M;obtain⟨am,aq,ap,ak,au,an,left,right,ad,ae,ah,ag,af⟩:=p;obtain⟨l,lc,r,rc,lk,ao,rk,ar,g,gc,a,ac⟩:=x;unfold Aj;dsimp only at h j k c⊢;obtain⟨n6,v⟩:∃n,left.length=n:=⟨_,rfl⟩;obtain⟨n7,z⟩:∃n,right.length=n:=⟨_,rfl⟩;obtain⟨o,q⟩:∃n,ad.length=n:=⟨_,rfl⟩;obtain⟨T,s⟩:∃n,ae.length=n:=⟨_,rfl⟩;rw[v,q]at h;rw[z,s]at j;rw[v,z,q,s]at k;rw[q,s]at c;rw[v,z,q,s];clear v z q s;by_cases t:o=T
 ·subst t;have ab:((o:Int)==o)=true:=Ϧ;rw[show decide (o=o)=true by simp]at c
  cases q1<;>cases q2<;>cases q3
  all_goals
   go_enter func135,ntmps135;go_wp2_with (first
    |(go_at_call 136;have tk:=h;refine(h.o _ ϯ).mono ?_;rintro e b ⟨rfl,D⟩;have E:=ϯ.trans (D.mono Ϧ);obtain⟨G,ai⟩:=Cu D;have I:w.heap.size<b.heap.size:=(by have:=D.size;simp at this;omega);clear h)
    |(go_at_call 136;have tk:=j;refine(j.o _ E).mono ?_;rintro e J ⟨rfl,d⟩;have F:=bT E d;obtain⟨H,aj⟩:=Cu d;have al:w.heap.size<J.heap.size:=(by have:=d.size;omega);clear j)
    |(go_at_call 132;refine(k.o _ _ F Ϭ (A rfl) (C rfl) (by rw[H _ _ I,G _ _ Ϧ];go_simp) (by rw[H _ _ I,G _ _ Ϧ];go_simp) (by rw[H _ _ I,G _ _ Ϧ];go_simp)).mono ?_;rintro e w3 ⟨rfl,Z⟩;have aa:=bT F Z))
   go_ret;refine⟨Aa (by rw[c.o];rfl),?_⟩
   first
    |exact aa
    |exact F
    |exact E
 ·have ab:((o:Int)==T)=false:=ϩ;rw[decide_eq_false t]at c;clear t;go_enter func135,ntmps135;go_wp2;go_ret;exact⟨Aa (by rw[c.o];rfl),ϯ⟩
def Nl(c:List Int)(a:Int×Int):Bool:=decide (CN c a)
theorem AcV(i:Int)(B:Nat)(ad:ϡ)(H:Nat)(c:List Int)(f k:Int)(w:Ϡ)(o:c.length<=ύ)(u:Ay w ad c)(t:Δ w B 0 (vS ad c.length H)):
 χ 203 #[vI i,.agg #[vI f,vI k],ω B] w (ψ w (.bool (Nl c (f,k)))):=by
 have L:=bLt _ _ t;have b:Ϣ (Nl c (f,k)=true↔if f=1 then k=0 else(0<=k/\k<(c.length:Int))/\(f=2->c.getD k.toNat 0=2)):=by show Nl c (f,k)=true↔CN c (f,k);unfold Nl;exact decide_eq_true_iff
 have E:=hV0 u;obtain⟨n,r⟩:∃n,c.length=n:=⟨_,rfl⟩;have F:=hV0 r;rw[r]at o t b;clear r u;have O:B<w.heap.size:=L;by_cases q:f=1
 ·subst q;rw[if_pos rfl]at b;go_enter func203,ntmps203;go_wp2;go_ret;exact⟨Aa (Bool.eq_iff_iff.2 (by rw[b.o];simp)),ϯ⟩
 ·have N:(f==1)=false:=by simpa using q
  rw[if_neg q]at b;clear q
  cases hbt:AA k 0 ((n:Int) - 1)with
  |false=>
   have z:=(CH _ _ _).1 hbt;have g:Ϣ (Nl c (f,k)=false):=Bool.eq_false_iff.2 (λh=>z ⟨(b.o.1 h).1.1,by have:=(b.o.1 h).1.2;omega⟩);clear z b;by_cases d:f=2
   ·subst d;go_enter func203,ntmps203;go_wp2_with (go_at_call 201;refine(F7 _ _ _ _ _ o).mono ?_;rintro e s ⟨rfl,j⟩;subst j);go_ret;exact⟨Aa g.o.symm,ϯ⟩
   ·have J:(f==2)=false:=by simpa using d
    clear d;go_enter func203,ntmps203;go_wp2_with (go_at_call 201;refine(F7 _ _ _ _ _ o).mono ?_;rintro e s ⟨rfl,j⟩;subst j);go_ret;exact⟨Aa g.o.symm,ϯ⟩
  |true=>
   obtain⟨D,U⟩:=(Bh _ _ _).1 hbt;by_cases d:f=2
   ·subst d;obtain⟨m,rfl⟩:=Int.eq_ofNat_of_zero_le D;obtain⟨G,T,I,C⟩:=E.o m (by rw[F.o];omega);have g:Ϣ (Nl c (2,(m:Int))=decide (c.getD m 0=2)):=by
     show Nl c (2,(m:Int))=_;refine Bool.eq_iff_iff.2 ?_;rw[b.o];simp;omega
    subst I;obtain⟨v,A⟩:=nM (c.getD m 0);rw[A]at C g;have M:=bLt _ _ C;have R:G<w.heap.size:=M;clear A b;have V:(m:Int)<(n:Int):=Ϥ;go_enter func203,ntmps203;go_wp2_with (go_at_call 201;refine(F7 _ _ _ _ _ o).mono ?_;rintro e s ⟨rfl,j⟩;subst j);go_ret;exact⟨Aa (by rw[g.o];exact Bool.eq_iff_iff.2 Ϧ),ϯ⟩
   ·have J:(f==2)=false:=by simpa using d
    have g:Ϣ (Nl c (f,k)=true):=b.o.2 ⟨⟨D,Ϥ⟩,λh=>absurd h d⟩;clear d b;go_enter func203,ntmps203;go_wp2_with (go_at_call 201;refine(F7 _ _ _ _ _ o).mono ?_;rintro e s ⟨rfl,j⟩;subst j);go_ret;exact⟨Aa g.o.symm,ϯ⟩
def Ht(c:List Int)(l:List (Int×Int)):Prop:=∀a∈l,CN c a
instance(c:List Int)(l:List (Int×Int)):Decidable (Ht c l):=by unfold Ht;infer_instance
theorem Aar(c:List Int)(l:List (Int×Int)):decide (Ht c l)=allB l.length (λi=>Nl c (l.getD i (0,0))):=by
 refine(Em ?_).symm;rw[AF];unfold Ht Nl;simp only[decide_eq_true_eq];exact EL (Q:=λa:Int×Int=>CN c a)
theorem Pe(a ad:ϡ)(d f:Nat)(l:List (Int×Int))(c:List Int)(w:Ϡ)(t:l.length<=ύ)(s:c.length<=ύ)(ha:DI w a l)(r:Ay w ad c):
 χ 137 #[vS a l.length d,vS ad c.length f] w (ψ w (.bool (decide (Ht c l)))):=by
 have K:Ϣ (∀B b,ϣ w b->Δ b B 0 (vS ad c.length f)->
  χ 195 #[vS a l.length d,.func (.func 203) #[] #[ω B]] b (ψ b (.bool (decide (Ht c l))))):=by
  intro B b o e0;rw[Aar];exact Kc 203 (enters_of func203 ϧ rfl) #[ω B] (λi=>Nl c (l.getD i (0,0))) a d l b t (Cp ha o)
   (λi v z q=>AcV i B ad f c _ _ v s (Al (Al r o) q) (cLz q e0))
 obtain⟨m,h⟩:=nM l.length;obtain⟨k,g⟩:=nM c.length;obtain⟨A,j⟩:=nM (decide (Ht c l));rw[h,g,j]at K;rw[h,g,j];clear h g j ha r t s;go_enter func137,ntmps137;go_wp2_with (go_at_call 195;refine(K.o _ _ ϯ Ϩ).mono ?_;rintro e b ⟨rfl,u⟩);go_ret;exact⟨rfl,ϯ.trans (u.mono Ϧ)⟩
end pl
namespace pl
variable {P : Program} {md : Region.Mode} {ops : Array Oper} {Q : Exit -> Act -> World -> Prop} {S : World -> Prop} {fuel : Nat} {listed : Array Bool} {a : Act} {w : Ϡ} {oi : Oper} {x y : Int}
theorem Ae2(i:Nat)(d:Option Tmp)(j:ops[i]? =some oi)
 (m:Region.noSelect ops=true) (g:Region.free md ops listed i=true) (k:(Region.ready md ops listed).contains i=true) (b:∀c a w,Q (.panic c) (a.put oi.dst undef) w->Q (.panic c) a w) (f:oi.dst=d)
 (o:Region.wanted oi (yielded ops a.tmps)=false) (e:S w) (h:wpAnyH P md ops Q S fuel (listed.setIfInBounds i true) (a.put d undef) w):wpAnyH P md ops Q S (fuel+1) listed a w:=
 wpAnyH_take j m g k b (Or.inr ⟨o,rfl⟩) e (by rw[f];exact h)
theorem Ae3{v:Value}(i:Nat)(d:Option Tmp)(j:ops[i]? =some oi)
 (m:Region.noSelect ops=true) (g:Region.free md ops listed i=true) (k:(Region.ready md ops listed).contains i=true) (b:∀c a w,Q (.panic c) (a.put oi.dst v) w->Q (.panic c) a w) (f:oi.dst=d)
 (o:Region.wanted oi (yielded ops a.tmps)=true) (hy:∀w,S w->(execOp a.eval oi).run P w= .ok (.value v) w) (e:S w) (h:wpAnyH P md ops Q S fuel (listed.setIfInBounds i true) (a.put d v) w):wpAnyH P md ops Q S (fuel+1) listed a w:=
 wpAnyH_take j m g k b (Or.inl ⟨o,hy⟩) e (by rw[f];exact h)
theorem LG(b:Bool)(h:decide (x<=y)=b):∀t,binOp .leq t (vI x) (vI y)=pure (.bool b):=λt=>by rw[binOp_leq,h]
theorem EO(b:Bool)(h:(x !=y)=b):∀t,binOp .neq t (vI x) (vI y)=pure (.bool b):=λt=>by rw[binOp_neq,h]
theorem Aas(b:Bool)(h:(x==y)=b):∀t,binOp .eql t (vI x) (vI y)=pure (.bool b):=λt=>by rw[binOp_eql,h]
theorem JD(b:Bool)(h:decide (x<y)=b):∀t,binOp .lss t (vI x) (vI y)=pure (.bool b):=λt=>by rw[binOp_lss,h]
theorem Ex(b:Bool)(h:decide (x>y)=b):∀t,binOp .gtr t (vI x) (vI y)=pure (.bool b):=λt=>by rw[binOp_gtr,h]
theorem JF(b:Bool)(h:decide (x≥y)=b):∀t,binOp .geq t (vI x) (vI y)=pure (.bool b):=λt=>by rw[binOp_geq,h]
end pl
namespace gr
variable {P : Program} {ops : Array Oper} {Q : Exit -> Act -> World -> Prop} {S : World -> Prop} {a a' : Act} {w : Ϡ} {md : Region.Mode} {fuel : Nat} {listed : Array Bool} {oi : Oper}
theorem Dm{id:Nat}(N:Nat)(d:ops.size=N)(c:P.follows .mixedOrders=true)(b:S w.drew)
 (h:S w.drew->wpAnyH P .any ops Q S N (Array.replicate N false) a w.drew):(Code.region id ops true).wp P Q a w:=
 wp_region_held_drew c b (by rw[d];exact h)
theorem AfL(i:Nat)(d:Option Tmp)(f:S w)(h:wpAnyH P md ops Q S fuel (listed.setIfInBounds i true) a' w)
 (j:ops[i]? =some oi:=by exact rfl) (b:(Region.noSelect ops&&(Region.free md ops listed i&&(Region.ready md ops listed).contains i))=true:=by kernel_rfl) (g:oi.dst=d:=by exact rfl) (k:Region.wanted oi (yielded ops a.tmps)=false:=by exact rfl) (ha:a.put d undef=a':=by(simp only[Act.put,sI,sZ,sSz];exact rfl))
 (e:∀c a w,Q (.panic c) (a.put oi.dst undef) w->Q (.panic c) a w:=by exact λ_ _ _ h=>h):wpAnyH P md ops Q S (fuel+1) listed a w:=by
 rw[Bool.and_eq_true,Bool.and_eq_true]at b;exact wpAnyH_take j b.1 b.2.1 b.2.2 e (Or.inr ⟨k,rfl⟩) f (by rw[g,ha];exact h)
theorem PK{v:Value}(i:Nat)(d:Option Tmp)(f:S w)(h:wpAnyH P md ops Q S fuel (listed.setIfInBounds i true) a' w)
 (k:ops[i]? =some oi:=by exact rfl) (b:(Region.noSelect ops&&(Region.free md ops listed i&&(Region.ready md ops listed).contains i))=true:=by kernel_rfl) (j:oi.dst=d:=by exact rfl) (m:Region.wanted oi (yielded ops a.tmps)=true:=by exact rfl) (hy:∀w,S w->(execOp a.eval oi).run P w= .ok (.value v) w:=by(intro o g;(try dsimp only at g);first|(go_simp;done)|(go_simp;with_reducible rfl))) (ha:a.put d v=a':=by(simp only[Act.put,sI,sZ,sSz];exact rfl))
 (e:∀c a w,Q (.panic c) (a.put oi.dst v) w->Q (.panic c) a w:=by exact λ_ _ _ h=>h):wpAnyH P md ops Q S (fuel+1) listed a w:=by
 rw[Bool.and_eq_true,Bool.and_eq_true]at b;exact wpAnyH_take k b.1 b.2.1 b.2.2 e (Or.inl ⟨m,hy⟩) f (by rw[j,ha];exact h)
end gr
namespace pl
open vl
variable {l : List Int} {i : Nat} {p : Pln}
theorem Gf(p:Pln)(x:PA)(w:Ϡ)(O:planAt w p x)(n1:0<p.left.length)(n2:0<p.right.length)(m1:p.left.length<=400)(m2:p.right.length<=400):
 χ 87 #[Aj p x] w λe d=>(∃ad ap,e= .returned (vS ad (A7 p).length ap)/\Cm d w.heap.size (vS ad (A7 p).length ap) (A7 p))/\ϣ w d:=by
 obtain⟨C,hi,aw,ax,ay⟩:=info_parts Tryz.info3;have m:Ϣ (Tryz.prog.info? 3=some C/\C.zero=some (vI 0)/\C.size=1/\C.bytes=8):=⟨hi,aw,ax,ay⟩;clear hi aw ax ay;obtain⟨o,t,e1,_⟩:=O.l 0 n1;obtain⟨q,v,e2,_⟩:=O.r 0 n2;have al:Ϣ (∀d,ϣ w d->∀j u,(p.left.map Gc)[j]? =some u->d.cell? ((⟨o,t,none⟩:Addr).add j)=some u):=λd z=>by
  have h:=Al O.l z;rw[e1]at h;exact Hr h
 have am:Ϣ (∀d,ϣ w d->∀j u,(p.right.map Gc)[j]? =some u->d.cell? ((⟨q,v,none⟩:Addr).add j)=some u):=λd z=>by
  have h:=Al O.r z;rw[e2]at h;exact Hr h
 have aj:Ϣ ((p.left.map Gc).length=p.left.length):=lMp ..;have ak:Ϣ ((p.right.map Gc).length=p.right.length):=lMp ..;have ae:Ϣ (A7 p=p.left++p.right):=rfl;obtain⟨G,ar⟩:=nM (A7 p);rw[ar]at ae⊢;clear ar O;obtain⟨R,Z,Y,N,D,T,left,right,X,ab,J,I,F⟩:=p;obtain⟨l,A,r,B,U,V,rk,aa,g,H,a,E⟩:=x;unfold Aj;dsimp only at e1 e2 n1 n2 m1 m2 al am aj ak ae⊢;subst e1 e2;obtain⟨f,L⟩:∃n,left.length=n:=⟨_,rfl⟩;obtain⟨k,M⟩:∃n,right.length=n:=⟨_,rfl⟩;have an:Ϣ (G.length=f+k):=by show G.length=f+k;rw[ae.o,lAp,L,M]
 have H6:=hV0 L;have H7:=hV0 M;rw[L]at n1 m1 aj;rw[M]at n2 m2 ak;rw[an.o,L,M];clear L M;go_enter func87,ntmps87;go_wp2;refine wp_region_held_drew (S:=(λd=>Δ d w 6 (vS (some ⟨o,t,none⟩) f A)/\Δ d w 7 (vS (some ⟨q,v,none⟩) k B))) ϧ ⟨Ϩ,Ϩ⟩ (λc=>?_);refine tkz 1 4 c ?_;refine tkz 2 5 c ?_;refine tkz 4 7 c ?_;refine tkz 5 8 c ?_;refine rD 0 λK s=>?_;go_simp;refine s.out _ _ ⟨Ϩ,Ϩ⟩ (λc=>?_);clear s K
 try simp only[Act.put,sI,sZ,sSz]
 have ao:((w.alloc (.cells #[vI R,vI Z,vI Y,vI N,vI D,vI T,vS (some ⟨o,t,none⟩) f A,vS (some ⟨q,v,none⟩) k B,vS U X.length V,vS rk ab.length aa,.bool J,vS g I.length H,vS a F.length E] 32)).alloc (.cells #[] 3)).drew.ownsRow w 3 1 (vS (ϋ (w+1)) 0 0) 0 []:=by
  have h:=World.ownsRow_made (base:=w.heap.size) (e:=3) (size:=1) (ϊ w #[vI R,vI Z,vI Y,vI N,vI D,vI T,vS (some ⟨o,t,none⟩) f A,vS (some ⟨q,v,none⟩) k B,vS U X.length V,vS rk ab.length aa,.bool J,vS g I.length H,vS a F.length E] 32) #[] 0 Ϧ (Nat.zero_le _) rfl;have h2:=World.ownsRow.drew h;simpa using h2
 have ag:ϣ w ((w.alloc (.cells #[vI R,vI Z,vI Y,vI N,vI D,vI T,vS (some ⟨o,t,none⟩) f A,vS (some ⟨q,v,none⟩) k B,vS U X.length V,vS rk ab.length aa,.bool J,vS g I.length H,vS a F.length E] 32)).alloc (.cells #[] 3)).drew:=(ϯ.alloc Ϧ _).drew;have av:((w.alloc (.cells #[vI R,vI Z,vI Y,vI N,vI D,vI T,vS (some ⟨o,t,none⟩) f A,vS (some ⟨q,v,none⟩) k B,vS U X.length V,vS rk ab.length aa,.bool J,vS g I.length H,vS a F.length E] 32)).alloc (.cells #[] 3)).drew.heap.size=w.heap.size+2:=Ϧ;obtain⟨W,hW⟩:∃x,((w.alloc (.cells #[vI R,vI Z,vI Y,vI N,vI D,vI T,vS (some ⟨o,t,none⟩) f A,vS (some ⟨q,v,none⟩) k B,vS U X.length V,vS rk ab.length aa,.bool J,vS g I.length H,vS a F.length E] 32)).alloc (.cells #[] 3)).drew=x:=⟨_,rfl⟩;rw[hW]at ao ag av c⊢;clear hW;refine rD 3 λK s=>?_;refine step_append_lies W rfl (.tmp 3) (.tmp 5) 29 rfl w.heap.size 3 C (vI 0) 1 8 underlying29 m.o.1 m.o.2.1 m.o.2.2.1 m.o.2.2.2 rfl ϥ (vS (ϋ (w+1)) 0 0) 0 [] rfl ao ⟨o,t,none⟩ f A (left.map Gc) rfl (by rw[aj.o,Nat.mul_one]) (al.o _ ag) (Kd left) n1 Ϯ Ϥ Ϥ (w.heap.size+2) av ?_;intro g1 az w2 au af a1 a5;have aq:ϣ w w2:=ag.grown af Ϥ (λb z=>by cases z;simp);have a7:w.heap.size+2<=w2.heap.size:=by have:=af.size;omega
 have a4:w.heap.size+1<=g1:=by
  rcases a1 with h|h
  ·cases h;simp
  ·omega
 refine s.out _ _ ⟨af.cell c.1 (λh=>by simp[Value.ownBlock]at h),af.cell c.2 (λh=>by simp[Value.ownBlock]at h)⟩ (λc=>?_);clear s K
 try simp only[Act.put,sI,sZ,sSz]
 refine rD 6 λK s=>?_;refine step_append_lies w2 rfl (.tmp 6) (.tmp 8) 29 rfl w.heap.size 3 C (vI 0) 1 8 underlying29 m.o.1 m.o.2.1 m.o.2.2.1 m.o.2.2.2 rfl ϥ (vS (ϋ g1) (0+f) az) (0+f) ([]++left.map Gc) rfl au ⟨q,v,none⟩ k B (right.map Gc) rfl (by rw[ak.o,Nat.mul_one]) (am.o _ aq) (Kd right) n2 Ϯ Ϥ Ϥ w2.heap.size rfl ?_;intro g2 a0 w3 ai ah a3 a6;have a2:ϣ w w3:=aq.grown ah Ϥ (λb z=>by cases z;show w.heap.size<=g1;omega);refine s.out _ _ ⟨ah.cell c.1 (λh=>by simp[Value.ownBlock]at h;omega),ah.cell c.2 (λh=>by simp[Value.ownBlock]at h;omega)⟩ (λc=>?_);clear s K;simp only[Act.put,getElem_toArray,getElem_cons_succ,getElem_cons_zero,sI,sZ,sSz];refine tkz 7 2 c ?_;refine wpAnyH_done ϧ ?_ _;rw[Nat.zero_add,nil_append]at ai;rw[Nat.zero_add];have HO:Ϣ (Cm w3 w.heap.size (vS (ϋ g2) (f+k) a0) G):=by
  show w3.ownsRow _ _ _ _ G.length (G.map Gc);rw[an.o,ae.o,map_append];exact ai
 clear ai au;go_wp2;go_ret;exact⟨⟨_,_,rfl,HO.o⟩,a2⟩
theorem S7(l:List Int)(k:Nat):(l.take k).Pairwise (· ≠ ·)↔ ∀i j,i<j->j<k->j<l.length->l.getD i 0≠l.getD j 0:=by
 rw[pairwise_iff_getElem]
 constructor
 ·intro h i j b e c;have:=h i j (by rw[length_take];omega) (by rw[length_take];omega) b;rw[getElem_take,getElem_take]at this;rw[EN Ϥ,EN c];exact this
 ·intro h i j d c b;rw[length_take]at d c;have:=h i j b Ϥ Ϥ;rw[EN Ϥ,EN Ϥ]at this;rw[getElem_take,getElem_take];exact this
def Cw(l:List Int):Bool:=decide (l.Pairwise (· ≠ ·))
theorem XT(h:∀i j,i<j->j<l.length->l.getD i 0≠l.getD j 0):Cw l=true:=by
 have:=(S7 l l.length).2 (λi j b c _=>h i j b c);rw[take_length]at this;exact decide_eq_true this
theorem Aat{j:Nat}(c:i<j)(b:j<l.length)(h:l.getD i 0=l.getD j 0):Cw l=false:=by
 refine decide_eq_false (λd=>?_);have:=(S7 l l.length).1 (by rw[take_length];exact d) i j c b b;exact this h
theorem Nm(a:ϡ)(cap:Nat)(l:List Int)(w:Ϡ)(L:l.length<=ύ)(ha:Ay w a l):
 χ 149 #[vS a l.length cap] w (ψ w (.bool (Cw l))):=by
 obtain⟨n,s⟩:∃n,l.length=n:=⟨_,rfl⟩;have g:=hV0 s;rw[s]at L⊢;clear s;go_enter func149,ntmps149;go_wp2
 go_loopw [3,4] (λi _ wr=> ∃k:Nat,k<=n/\i=vI k/\ϣ w wr/\∀i j,i<j->j<k->l.getD i 0≠l.getD j 0) (λi _ _=>n - (intOf i).toNat)
 case atStart=>exact⟨0,Nat.zero_le _,rfl,bR,λi j q d=>absurd d (Nat.not_lt_zero j)⟩
 case round=>
  obtain⟨k,U,rfl,F,C⟩:=hrel;have u:=hV0 C;clear C;by_cases E:k<n
  ·obtain⟨b,o,e,G⟩:=ha k (by rw[g.o];exact E);subst e;have W:=nn0 k;have X:(k:Int)<(n:Int):=Ϥ;obtain⟨z,t⟩:=nM (l.getD k 0);have B:=hV0 t;rw[t]at G;clear t;go_wp2
   go_loopw [4] (λi O=> ∃m:Nat,m<=k/\i=vI m/\ϣ w O/\∀i,i<m->l.getD i 0≠z) (λi _=>k - (intOf i).toNat)
   case atStart=>exact⟨0,Nat.zero_le _,rfl,F,λi h=>absurd h (Nat.not_lt_zero i)⟩
   case round=>
    obtain⟨m,V,rfl,f,D⟩:=hrel;have v:=hV0 D;clear D;by_cases M:m<k
    ·obtain⟨R,o',I,H⟩:=ha m (by rw[g.o];omega)
     cases I
     have Y:=nn0 m;have Z:(m:Int)<(n:Int):=Ϥ;have q1:=cLz f G;have N:=cLz f H;obtain⟨y,hy⟩:∃y,l.getD m 0=y:=⟨_,rfl⟩;have A:=hV0 hy;rw[hy]at N;clear hy H ha;by_cases r:z=y
     ·subst r;have c:Ϣ (Cw l=false):=Aat M (by rw[g.o];exact E) (by rw[A.o,B.o]);go_wp2
      go_region
      all_goals
       go_wp2;go_ret;refine⟨Aa c.o.symm,?_⟩
       repeat (first|exact f|apply Below.drew)
     ·have T:(z==y)=false:=by simpa using r
      have c:Ϣ (l.getD m 0≠z):=by show l.getD m 0≠z;rw[A.o];exact λh=>r h.symm
      clear r;go_wp2
      go_region
      all_goals
       go_wp2;go_roundw;exact⟨m+1,Ϥ,by go_num,by(repeat (first|exact f|apply Below.drew)),λi J=>by
        rcases Nat.lt_succ_iff_lt_or_eq.1 J with h|h
        ·exact v.o i h
        ·rw[h];exact c.o⟩
       simp[intOf];omega
    ·go_wp2;go_roundw;exact⟨k+1,Ϥ,by go_num,f,λi j q d=>by
      rcases Nat.lt_succ_iff_lt_or_eq.1 d with h|h
      ·exact u.o i j q h
      ·rw[h,B.o];exact v.o i Ϥ⟩
     simp[intOf];omega
  ·have c:Ϣ (Cw l=true):=XT (λi j q d=>u.o i j q (by rw[g.o]at d;omega));go_wp2;go_ret;exact⟨Aa c.o.symm,F⟩
def PL(p:Pln)(j:Nat):Prop:=(0<=p.lkeys.getD j 0/\p.lkeys.getD j 0<(p.left.length:Int))/\(0<=p.rkeys.getD j 0/\p.rkeys.getD j 0<(p.right.length:Int))/\p.left.getD (p.lkeys.getD j 0).toNat 0=p.right.getD (p.rkeys.getD j 0).toNat 0
theorem AcW(h1:p.low<=p.high)(e:p.lkeys.length=p.rkeys.length)(g:Cw p.lkeys=true)(h:Cw p.rkeys=true)(k:Cw p.group=true)(c:∀j,j<p.lkeys.length->PL p j)
 (f:∀j,j<p.group.length->0<=p.group.getD j 0/\p.group.getD j 0<((A7 p).length:Int)) (ha:∀j,j<p.aggs.length->CN (A7 p) (p.aggs.getD j (0,0))):Bf p:=by
 refine⟨h1,⟨e,⟨?_,of_decide_eq_true g⟩,⟨?_,of_decide_eq_true h⟩,λi b=>(c i b).2.2⟩,⟨?_,of_decide_eq_true k⟩,?_⟩
 ·exact(EL (d:=0) (Q:=λx:Int=>0<=x/\x<(p.left.length:Int))).1 (λi b=>(c i b).1)
 ·exact(EL (d:=0) (Q:=λx:Int=>0<=x/\x<(p.right.length:Int))).1 (λi b=>(c i Ϥ).2.1)
 ·exact(EL (d:=0) (Q:=λx:Int=>0<=x/\x<((A7 p).length:Int))).1 f
 ·exact(EL (d:=(0,0)) (Q:=λa:Int×Int=>CN (A7 p) a)).1 ha
theorem XU(h:Bf p):Cw p.lkeys=true/\Cw p.rkeys=true/\Cw p.group=true:=
 ⟨decide_eq_true h.2.1.2.1.2,decide_eq_true h.2.1.2.2.1.2,decide_eq_true h.2.2.1.2⟩
theorem AeV(h:Bf p)(j:Nat)(b:j<p.lkeys.length):PL p j:=by
 obtain⟨f,⟨g,c,d,e⟩,k,m⟩:=h;exact⟨c.1 _ (CQ b),d.1 _ (CQ Ϥ),e j b⟩
theorem UA(h:Bf p)(j:Nat)(b:j<p.group.length):0<=p.group.getD j 0/\p.group.getD j 0<((A7 p).length:Int):=h.2.2.1.1 _ (CQ b)
theorem UC(h:Bf p)(j:Nat)(b:j<p.aggs.length):CN (A7 p) (p.aggs.getD j (0,0)):=h.2.2.2 _ (CQ b)
theorem Dn{B:Nat}{a w:Ϡ}(h:Below B a w)(q:Nat):Below B a (w.drewN q):=⟨h.os,h.tape,h.output,h.size,h.block⟩
theorem Pf(p:Pln)(x:PA)(w:Ϡ)(c:wfPlan p)(hp:planAt w p x)(n1:0<p.left.length)(n2:0<p.right.length)(m1:p.left.length<=400)(m2:p.right.length<=400):
 χ 88 #[Aj p x] w (ψ w (.bool (!decide (Bf p)))):=by
 have J:Ϣ (¬Bf p->(!decide (Bf p))=true):=λh=>by show(!decide (Bf p))=true;rw[decide_eq_false h];rfl
 have HF:Ϣ (Bf p->(!decide (Bf p))=false):=λh=>by show(!decide (Bf p))=false;rw[decide_eq_true h];rfl
 obtain⟨f,ct⟩:=nM (!decide (Bf p));rw[ct]at J HF⊢;clear ct;have ag:(A7 p).length=p.left.length+p.right.length:=by unfold A7;rw[lAp]
 have K1:=hIz (λ(C:Ϡ) (R:ϣ w C)=>Nm x.lk x.lkc p.lkeys C c.lk (Al hp.lk R));have K2:=hIz (λ(C:Ϡ) (R:ϣ w C)=>Nm x.rk x.rkc p.rkeys C c.rk (Al hp.rk R));have K3:=hIz (λ(C:Ϡ) (R:ϣ w C)=>Nm x.g x.gc p.group C c.g (Al hp.g R));have K4:=hIz (λ(C:Ϡ) (R:ϣ w C)=>Gf p x C (Ae hp R) n1 n2 m1 m2);have s:Ϣ (p.low<=p.high->p.lkeys.length=p.rkeys.length->Cw p.lkeys=true->Cw p.rkeys=true->Cw p.group=true->(∀j,j<p.lkeys.length->PL p j)->(∀j,j<p.group.length->0<=p.group.getD j 0/\p.group.getD j 0<((A7 p).length:Int))->(∀j,j<p.aggs.length->CN (A7 p) (p.aggs.getD j (0,0)))->Bf p):=AcW;have L:Ϣ (Bf p->Cw p.lkeys=true/\Cw p.rkeys=true/\Cw p.group=true):=XU;have aa:Ϣ (Bf p->∀j,j<p.lkeys.length->PL p j):=AeV;have O:Ϣ (Bf p->∀j,j<p.group.length->0<=p.group.getD j 0/\p.group.getD j 0<((A7 p).length:Int)):=UA;have ai:Ϣ (Bf p->∀j,j<p.aggs.length->CN (A7 p) (p.aggs.getD j (0,0))):=UC;have ab:Ϣ (Bf p->p.low<=p.high/\p.lkeys.length=p.rkeys.length):=λh=>⟨h.1,h.2.1.1⟩;have Y:Ϣ (∀j,PL p j↔(0<=p.lkeys.getD j 0/\p.lkeys.getD j 0<(p.left.length:Int))/\(0<=p.rkeys.getD j 0/\p.rkeys.getD j 0<(p.right.length:Int))/\p.left.getD (p.lkeys.getD j 0).toNat 0=p.right.getD (p.rkeys.getD j 0).toNat 0):=λj=>Iff.rfl;have HP:planAt w p x:=hp;obtain⟨G,hG⟩:=nM (PL p);rw[hG]at s aa Y;obtain⟨FO,b8⟩:=nM (Bf p);rw[b8]at J HF s L aa O ai ab;obtain⟨q1,cp⟩:=nM (Cw p.lkeys);obtain⟨q2,cq⟩:=nM (Cw p.rkeys);obtain⟨q3,cr⟩:=nM (Cw p.group);rw[cp]at K1 s L;rw[cq]at K2 s L;rw[cr]at K3 s L;obtain⟨t,ci⟩:=nM (A7 p);rw[ci]at K4 s O ai ag;clear hG b8 cp cq cr ci hp;obtain⟨bi,bm,bj,bn,bh,be⟩:=HP;obtain⟨ee,ef,da,db,dc,dd,cy,cz⟩:=c;obtain⟨ei,en,a0,ax,ep,ej,left,right,df,dg,d1,u,d⟩:=p;obtain⟨l,lc,r,rc,lk,em,rk,eo,g,gc,a,ac⟩:=x;unfold Aj at K4⊢;dsimp only at K1 K2 K3 K4 s L aa O ai ab Y ag n1 n2 m1 m2 bi bm bj bn bh be da db dc dd cy cz⊢
 have dw:=hV0 bi;have dy:=hV0 bm;have dx:=hV0 bj;have dz:=hV0 bn;have dv:=hV0 bh;have du:=hV0 be;clear bi bm bj bn bh be ee ef;obtain⟨n6,h6⟩:∃n,left.length=n:=⟨_,rfl⟩;obtain⟨n7,h7⟩:∃n,right.length=n:=⟨_,rfl⟩;obtain⟨I,h8⟩:∃n,df.length=n:=⟨_,rfl⟩;obtain⟨n9,h9⟩:∃n,dg.length=n:=⟨_,rfl⟩;obtain⟨V,ak⟩:∃n,u.length=n:=⟨_,rfl⟩;obtain⟨ah,al⟩:∃n,d.length=n:=⟨_,rfl⟩;obtain⟨H,aw⟩:∃n,t.length=n:=⟨_,rfl⟩;have H6:=hV0 h6;have H7:=hV0 h7;have H8:=hV0 h8;have H9:=hV0 h9;have dl:=hV0 ak;have dm:=hV0 al;have bu:=hV0 aw;rw[h8]at K1 s ab aa dc;rw[h9]at K2 s ab dd;rw[ak]at K3 s O cy;rw[al]at s ai cz;rw[aw]at s O ag;rw[h6,h7,h8,h9,ak,al,aw]at K4;rw[h6]at n1 m1 Y da ag;rw[h7]at n2 m2 Y db ag;rw[h6,h7,h8,h9,ak,al];have fb:0<H:=Ϥ;have fc:H<=800:=Ϥ;clear h6 h7 h8 h9 ak al aw ag;by_cases d8:a0<=ax
 ·have d9:¬ax<a0:=Ϥ;by_cases ck:I=n9
  ·subst ck;have d5:((I:Int) !=I)=false:=Ϧ
   cases q1
   ·have b:Ϣ (f=true):=J.o (λh=>absurd (L.o h).1 ϥ);go_enter func88,ntmps88;go_wp2_with fail;refine(K1.o _ ϯ).mono ?_;rintro e C ⟨rfl,ae⟩;go_wp2;go_ret;exact⟨Aa b.o.symm,ϯ.trans (ae.mono Ϧ)⟩
   go_enter func88,ntmps88;go_wp2_with fail;refine(K1.o _ ϯ).mono ?_;rintro e C ⟨rfl,ae⟩;have a8:=ϯ.trans (ae.mono Ϧ);obtain⟨v,d2⟩:=Cu ae;have D:w.heap.size<C.heap.size:=(by have:=ae.size;simp at this;omega);go_wp2_with fail;refine(K2.o _ a8).mono ?_;rintro e w2 ⟨rfl,aq⟩;have au:=bT a8 aq;obtain⟨A,d3⟩:=Cu aq;have E:w.heap.size<w2.heap.size:=(by have:=aq.size;omega)
   cases q2
   ·have b:Ϣ (f=true):=J.o (λh=>absurd (L.o h).2.1 ϥ);go_wp2;go_ret;exact⟨Aa b.o.symm,au⟩
   go_wp2_with fail;refine(K3.o _ au).mono ?_;rintro e o ⟨rfl,ar⟩;have cd:=bT au ar;have fe:w.heap.size<o.heap.size:=(by have:=ar.size;omega);obtain⟨B,d4⟩:=Cu ar
   cases q3
   ·have b:Ϣ (f=true):=J.o (λh=>absurd (L.o h).2.2 ϥ);go_wp2;go_ret;exact⟨Aa b.o.symm,cd⟩
   have s0:Δ o w 0 (vI ei):=by rw[B _ _ E,A _ _ D,v _ _ Ϧ];go_simp
   have s1:Δ o w 1 (vI en):=by rw[B _ _ E,A _ _ D,v _ _ Ϧ];go_simp
   have s2:Δ o w 2 (vI a0):=by rw[B _ _ E,A _ _ D,v _ _ Ϧ];go_simp
   have s3:Δ o w 3 (vI ax):=by rw[B _ _ E,A _ _ D,v _ _ Ϧ];go_simp
   have s4:Δ o w 4 (vI ep):=by rw[B _ _ E,A _ _ D,v _ _ Ϧ];go_simp
   have s5:Δ o w 5 (vI ej):=by rw[B _ _ E,A _ _ D,v _ _ Ϧ];go_simp
   have s6:Δ o w 6 (vS l n6 lc):=by rw[B _ _ E,A _ _ D,v _ _ Ϧ];go_simp
   have s7:Δ o w 7 (vS r n7 rc):=by rw[B _ _ E,A _ _ D,v _ _ Ϧ];go_simp
   have s8:Δ o w 8 (vS lk I em):=by rw[B _ _ E,A _ _ D,v _ _ Ϧ];go_simp
   have s9:Δ o w 9 (vS rk I eo):=by rw[B _ _ E,A _ _ D,v _ _ Ϧ];go_simp
   have dh:Δ o w 10 (.bool d1):=by rw[B _ _ E,A _ _ D,v _ _ Ϧ];go_simp
   have di:Δ o w 11 (vS g V gc):=by rw[B _ _ E,A _ _ D,v _ _ Ϧ];go_simp
   have dj:Δ o w 12 (vS a ah ac):=by rw[B _ _ E,A _ _ D,v _ _ Ϧ];go_simp
   clear v d2 A d3 B d4 ae aq ar a8 au K1 K2 K3 L;have dr:Ϣ ((∀j,j<I->G j)->(∀j,j<V->0<=u.getD j 0/\u.getD j 0<(H:Int))->(∀j,j<ah->CN t (d.getD j (0,0)))->FO):=λh1 h2 h3=>s.o Ϭ Ϭ Ϭ Ϭ Ϭ h1 h2 h3;clear s;go_wp2
   go_loopw [3,4,5] (λi _ _ wr=> ∃k:Nat,k<=I/\i=vI k/\ϣ o wr/\∀j,j<k->G j) (λi _ _ _=>I - (intOf i).toNat)
   case atStart=>exact⟨0,Nat.zero_le _,rfl,bR,λi hi=>absurd hi (Nat.not_lt_zero i)⟩
   case round=>
    obtain⟨k,hk,rfl,ay,b9⟩:=hrel;have HA:=hV0 b9;clear b9;obtain⟨c0,c1,c2,c3,c4,c5,c6,c7,c8,c9,bx,bz,b0⟩:=Aae ay s0 s1 s2 s3 s4 s5 s6 s7 s8 s9 dh di dj;have T:=bT cd ay;have ed:=T.size;by_cases bd:k<I
    ·obtain⟨bk,ok,ek,xk⟩:=dx.o k (by rw[H8.o];exact bd);obtain⟨bq,oq,eq,xq⟩:=dz.o k (by rw[H9.o];exact bd);subst ek eq;have yk:=cLz T xk;have yq:=cLz T xq;have i1:=nn0 k;have i2:(k:Int)<(I:Int):=Ϥ;have Z:=Y.o k;obtain⟨av,cc⟩:=nM (df.getD k 0);obtain⟨bv,cg⟩:=nM (dg.getD k 0);rw[cc]at yk Z;rw[cg]at yq Z;have X:Ϣ (G k↔(0<=av/\av<(n6:Int))/\(0<=bv/\bv<(n7:Int))/\left.getD av.toNat 0=right.getD bv.toNat 0):=Z;have a5:Ϣ (¬G k->f=true):=λh=>J.o (λhf=>h (aa.o hf k bd));clear cc cg Z xk xq;go_wp2
     go_quiet (fail)
     have co:=Dn ay nq;have af:=Dn T nq;have eh:(wr.drewN nq).heap.size=wr.heap.size:=rfl;obtain⟨wq,az⟩:∃x,wr.drewN nq=x:=⟨_,rfl⟩;have d6:Δ wq w 6 (vS l n6 lc):=by rw[<-az];exact c6
     have d7:Δ wq w 7 (vS r n7 rc):=by rw[<-az];exact c7
     rw[az]at co af eh⊢;clear az
     cases pa:AA av 0 ((n6:Int) - 1)with
     |false=>
      have b:Ϣ (f=true):=a5.o (λh=>(CH _ _ _).1 pa ⟨(X.o.1 h).1.1,by have:=(X.o.1 h).1.2;omega⟩);go_wp2
      go_quiet (
       (go_at_call 83;exact Calls.quiet_of_same (Ap _ _ _ _))
       )
      go_wp2;go_ret;exact⟨Aa b.o.symm,Dn af _⟩
     |true=>
      cases pb:AA bv 0 ((n7:Int) - 1)with
      |false=>
       have b:Ϣ (f=true):=a5.o (λh=>(CH _ _ _).1 pb ⟨(X.o.1 h).2.1.1,by have:=(X.o.1 h).2.1.2;omega⟩);go_wp2
       go_quiet (
        (go_at_call 83;exact Calls.quiet_of_same (Ap _ _ _ _))
        )
       go_wp2;go_ret;exact⟨Aa b.o.symm,Dn af _⟩
      |true=>
       obtain⟨a1,a2⟩:=(Bh _ _ _).1 pa;obtain⟨b1,b2⟩:=(Bh _ _ _).1 pb;obtain⟨ma,rfl⟩:=Int.eq_ofNat_of_zero_le a1;obtain⟨mb,rfl⟩:=Int.eq_ofNat_of_zero_le b1;obtain⟨bl,ol,el,xl⟩:=dw.o ma (by rw[H6.o];omega);obtain⟨br,fg,er,xr⟩:=dy.o mb (by rw[H7.o];omega);subst el er;have yl:=cLz af xl;have yr:=cLz af xr;have ao:Ϣ (G k↔left.getD ma 0=right.getD mb 0):=by
        show G k↔_;rw[X.o,Int.toNat_natCast,Int.toNat_natCast]
        constructor
        ·exact λh=>h.2.2
        ·exact λh=>⟨⟨Ϥ,Ϥ⟩,⟨Ϥ,Ϥ⟩,h⟩
       obtain⟨vl,cw⟩:=nM (left.getD ma 0);obtain⟨vr,cx⟩:=nM (right.getD mb 0);rw[cw]at yl ao;rw[cx]at yr ao;have a3:(ma:Int)<(n6:Int):=Ϥ;have b3:(mb:Int)<(n7:Int):=Ϥ;clear cw cx xl xr X;by_cases he:vl=vr
       ·have Z:Ϣ (G k):=ao.o.2 he;have eb:(vl !=vr)=false:=by simpa using he
        clear he;go_wp2
        go_quiet (
         (go_at_call 83;exact Calls.quiet_of_same (Ap _ _ _ _))
         )
        go_wp2;go_roundw;exact⟨k+1,Ϥ,by go_num,Dn co _,λj N=>by
         rcases Nat.lt_succ_iff_lt_or_eq.1 N with h|h
         ·exact HA.o j h
         ·rw[h];exact Z.o⟩
        simp[intOf];omega
       ·have b:Ϣ (f=true):=a5.o (λh=>he (ao.o.1 h));have eb:(vl !=vr)=true:=by simpa using he
        clear he;go_wp2
        go_quiet (
         (go_at_call 83;exact Calls.quiet_of_same (Ap _ _ _ _))
         )
        go_wp2;go_ret;exact⟨Aa b.o.symm,Dn af _⟩
    ·have dq:Ϣ (∀j,j<I->G j):=λj N=>HA.o j Ϥ;clear aa Y HA;go_wp2_with fail;refine(K4.o _ T).mono ?_;rintro e w4 ⟨⟨ad,eu,rfl,ho⟩,a7⟩;have bw:Ϣ (Ay w4 ad t):=(Ea ho).1;have cf:=bT T a7;obtain⟨e0,e1,e2,e3,e4,e5,e6,e7,e8,e9,b4,b5,b6⟩:=Aae a7 c0 c1 c2 c3 c4 c5 c6 c7 c8 c9 bx bz b0;clear ho a7 ay T ed K4 c0 c1 c2 c3 c4 c5 c6 c7 c8 c9 bx bz b0 s0 s1 s2 s3 s4 s5 s6 s7 s8 s9 dh di dj;go_wp2
     go_loopw [7] (λi es=> ∃m:Nat,m<=V/\i=vI m/\ϣ w4 es/\∀j,j<m->0<=u.getD j 0/\u.getD j 0<(H:Int)) (λi _=>V - (intOf i).toNat)
     case atStart=>exact⟨0,Nat.zero_le _,rfl,bR,λi hi=>absurd hi (Nat.not_lt_zero i)⟩
     case round=>
      obtain⟨m,hm,rfl,am,ca⟩:=hrel;have a4:=hV0 ca;clear ca;obtain⟨ex,ey,d0⟩:=lk3 am b4 b5 b6;have a9:=bT cf am;by_cases cl:m<V
      ·obtain⟨bg,og,eg,xg⟩:=dv.o m (by rw[dl.o];exact cl);subst eg;have yg:=cLz a9 xg;have i1:=nn0 m;have i2:(m:Int)<(V:Int):=Ϥ;have bs:Ϣ (¬(0<=u.getD m 0/\u.getD m 0<(H:Int))->f=true):=λh=>J.o (λhf=>h (O.o hf m cl));obtain⟨gv,bb⟩:=nM (u.getD m 0);have ds:=hV0 bb;rw[bb]at yg bs;clear bb xg
       cases pg:AA gv 0 ((H:Int) - 1)with
       |false=>
        have b:Ϣ (f=true):=bs.o (λh=>(CH _ _ _).1 pg ⟨h.1,Ϥ⟩);go_wp2_with
         (go_at_call 83;refine(Ap _ _ _ _).mono ?_;rintro e W ⟨rfl,c⟩;subst c)
        go_ret;exact⟨Aa b.o.symm,a9⟩
       |true=>
        have HY:Ϣ (0<=u.getD m 0/\u.getD m 0<(H:Int)):=by
         show 0<=u.getD m 0/\u.getD m 0<(H:Int);have:=(Bh _ _ _).1 pg;rw[ds.o];omega
        go_wp2_with
         (go_at_call 83;refine(Ap _ _ _ _).mono ?_;rintro e W ⟨rfl,c⟩;subst c)
        go_roundw;exact⟨m+1,Ϥ,by go_num,am,λj N=>by
         rcases Nat.lt_succ_iff_lt_or_eq.1 N with h|h
         ·exact a4.o j h
         ·rw[h];exact HY.o⟩
        simp[intOf];omega
      ·have dp:Ϣ (∀j,j<V->0<=u.getD j 0/\u.getD j 0<(H:Int)):=λj N=>a4.o j Ϥ;obtain⟨W2,rfl⟩:∃x,x=wr:=⟨_,rfl⟩;have dt:Ϣ (Ay W2 ad t):=Al bw.o am;clear a4 O bw am cf e0 e1 e2 e3 e4 e5 e6 e7 e8 e9 b4 b5 b6;go_wp2
       go_loopw [8,9] (λi _ et=> ∃m:Nat,m<=ah/\i=vI m/\ϣ W2 et/\∀j,j<m->CN t (d.getD j (0,0))) (λi _ _=>ah - (intOf i).toNat)
       case atStart=>exact⟨0,Nat.zero_le _,rfl,bR,λi hi=>absurd hi (Nat.not_lt_zero i)⟩
       case round=>
        obtain⟨q,hq,rfl,U,cb⟩:=hrel;have bp:=hV0 cb;clear cb;have fa:=cLz U d0;have M:=bT a9 U;have bo:=U.size;by_cases cm:q<ah
        ·obtain⟨ba,oa,ea,xa,xb⟩:=du.o q (by rw[dm.o];exact cm);subst ea;have ya:=cLz M xa;have yb:=cLz M xb;have i1:=nn0 q;have i2:(q:Int)<(ah:Int):=Ϥ;have an:Ϣ (¬CN t (d.getD q (0,0))->f=true):=λh=>J.o (λhf=>h (ai.o hf q cm));have ap:Ϣ (CN t (d.getD q (0,0))->∀j,j<q+1->CN t (d.getD j (0,0))):=λh j N=>by
          rcases Nat.lt_succ_iff_lt_or_eq.1 N with h1|h1
          ·exact bp.o j h1
          ·rw[h1];exact h
         have F:Ϣ (CN t (d.getD q (0,0))↔if (d.getD q (0,0)).1=1 then(d.getD q (0,0)).2=0 else(0<=(d.getD q (0,0)).2/\(d.getD q (0,0)).2<(H:Int))/\((d.getD q (0,0)).1=2->t.getD (d.getD q (0,0)).2.toNat 0=2)):=by
          show CN t (d.getD q (0,0))↔_;rw[<-bu.o];exact Iff.rfl
         obtain⟨AO,b7⟩:=nM (CN t (d.getD q (0,0)));rw[b7]at an ap F;obtain⟨⟨fv,cv⟩,cj⟩:∃z,d.getD q (0,0)=z:=⟨_,rfl⟩;rw[cj]at ya yb F;dsimp only at ya yb F;clear cj b7 xa xb;by_cases f1:fv=1
         ·subst f1;rw[if_pos rfl]at F;by_cases k0:cv=0
          ·subst k0;have aj:Ϣ AO:=F.o.2 rfl;go_wp2_with
            (go_at_call 83;refine(Ap _ _ _ _).mono ?_;rintro e W ⟨rfl,c⟩;subst c)
           go_roundw;exact⟨q+1,Ϥ,by go_num,(U.alloc bo _),ap.o aj.o⟩;simp[intOf];omega
          ·have ff:(cv !=0)=true:=by simpa using k0
           have b:Ϣ (f=true):=an.o (λh=>k0 (F.o.1 h));clear k0;go_wp2_with
            (go_at_call 83;refine(Ap _ _ _ _).mono ?_;rintro e W ⟨rfl,c⟩;subst c)
           go_ret;exact⟨Aa b.o.symm,M.alloc M.size _⟩
         ·rw[if_neg f1]at F;have ev:(fv==1)=false:=by simpa using f1
          have ew:(fv !=1)=true:=by simpa using f1
          clear f1
          cases pc:AA cv 0 ((H:Int) - 1)with
          |false=>
           have b:Ϣ (f=true):=an.o (λh=>(CH _ _ _).1 pc ⟨(F.o.1 h).1.1,by have:=(F.o.1 h).1.2;omega⟩);go_wp2_with
            (go_at_call 83;refine(Ap _ _ _ _).mono ?_;rintro e W ⟨rfl,c⟩;subst c)
           go_ret;exact⟨Aa b.o.symm,M.alloc M.size _⟩
          |true=>
           obtain⟨y1,y2⟩:=(Bh _ _ _).1 pc;by_cases f2:fv=2
           ·subst f2;obtain⟨mc,rfl⟩:=Int.eq_ofNat_of_zero_le y1;obtain⟨bc,oc,ec,xc⟩:=dt.o mc (by rw[bu.o];omega);subst ec;have yc:=cLz U xc;have de:=bLt _ _ yc;have fd:bc<wr.heap.size:=de;have y3:(mc:Int)<(H:Int):=Ϥ;have a6:Ϣ (AO↔t.getD mc 0=2):=by
             show AO↔_;rw[F.o,Int.toNat_natCast];exact⟨λh=>h.2 rfl,λh=>⟨⟨Ϥ,Ϥ⟩,λ_=>h⟩⟩
            obtain⟨vc,cu⟩:=nM (t.getD mc 0);rw[cu]at yc a6;clear cu xc F de;by_cases v2:vc=2
            ·subst v2;have aj:Ϣ AO:=a6.o.2 rfl;go_wp2_with
              (go_at_call 83;refine(Ap _ _ _ _).mono ?_;rintro e W ⟨rfl,c⟩;subst c)
             go_roundw;exact⟨q+1,Ϥ,by go_num,(U.alloc bo _),ap.o aj.o⟩;simp[intOf];omega
            ·have fh:(vc !=2)=true:=by simpa using v2
             have b:Ϣ (f=true):=an.o (λh=>v2 (a6.o.1 h));clear v2;go_wp2_with
              (go_at_call 83;refine(Ap _ _ _ _).mono ?_;rintro e W ⟨rfl,c⟩;subst c)
             go_ret;exact⟨Aa b.o.symm,M.alloc M.size _⟩
           ·have ez:(fv==2)=false:=by simpa using f2
            have aj:Ϣ AO:=F.o.2 ⟨⟨y1,Ϥ⟩,λh=>absurd h f2⟩;clear f2;go_wp2_with
             (go_at_call 83;refine(Ap _ _ _ _).mono ?_;rintro e W ⟨rfl,c⟩;subst c)
            go_roundw;exact⟨q+1,Ϥ,by go_num,(U.alloc bo _),ap.o aj.o⟩;simp[intOf];omega
        ·have b:Ϣ (f=false):=HF.o (dr.o dq.o dp.o (λj N=>bp.o j Ϥ));go_wp2;go_ret;exact⟨Aa b.o.symm,M⟩
  ·have b:Ϣ (f=true):=J.o (λh=>ck (ab.o h).2);have d5:((I:Int) !=n9)=true:=ϩ;go_enter func88,ntmps88;go_wp2;go_ret;exact⟨Aa b.o.symm,ϯ⟩
 ·have b:Ϣ (f=true):=J.o (λh=>d8 (ab.o h).1);have d9:ax<a0:=Ϥ;go_enter func88,ntmps88;go_wp2;go_ret;exact⟨Aa b.o.symm,ϯ⟩
theorem Dc(p:Pln)(x:PA)(w:Ϡ)(hw:wfPlan p)(Y:planAt w p x)(n1:0<p.left.length)(n2:0<p.right.length)(m1:p.left.length<=400)(m2:p.right.length<=400):
 χ 73 #[Aj p x] w (ψ w (.bool (decide (Bf p)))):=by
 have az:(A7 p).length<=800:=by unfold A7;rw[lAp];omega
 have J:=hIz (λ(F:Ϡ) (N:ϣ w F)=>Pd p x F hw (Ae Y N));have H:=hIz (λ(F:Ϡ) (N:ϣ w F)=>Ew p x F (Ae Y N) n1 n2 m1 m2);have L:=hIz (λU W (F:Ϡ) (N:ϣ w F)=>FK x.g U x.gc W (A7 p).length p.group F hw.g Ϥ (Al Y.g N));have I:=hIz (λU W (F:Ϡ) (N:ϣ w F) (hi:Ay F U (A7 p))=>Pe x.a U x.ac W p.aggs (A7 p) F hw.a Ϥ (Cp Y.a N) hi);have G:Ϣ (decide (Bf p)=(decide (p.low<=p.high)&&decide (Iy p)&&decide (Bj p.group (A7 p).length)&&decide (Ht (A7 p) p.aggs))):=by
  refine(Em ?_).symm;unfold Bf;simp only[Bool.and_eq_true,decide_eq_true_eq,and_assoc];exact Iff.rfl
 obtain⟨q1,ar⟩:=nM (decide (Iy p));obtain⟨q2,au⟩:=nM (decide (Bj p.group (A7 p).length));obtain⟨q3,av⟩:=nM (decide (Ht (A7 p) p.aggs));rw[ar]at J G;rw[au]at L G;rw[av]at I G;obtain⟨cn,ap⟩:=nM ((A7 p).length);rw[ap]at H L I;obtain⟨cs,aq⟩:=nM (A7 p);rw[aq]at H I;clear ar au av ap aq az hw Y n1 n2 m1 m2;obtain⟨ag,aj,R,O,an,ah,left,right,bb,bc,aa,ax,aw⟩:=p;obtain⟨l,lc,r,rc,lk,ai,rk,am,g,gc,a,ac⟩:=x;unfold Aj at J H⊢;dsimp only at J H L I G⊢;obtain⟨n6,h6⟩:∃n,left.length=n:=⟨_,rfl⟩;obtain⟨n7,h7⟩:∃n,right.length=n:=⟨_,rfl⟩;obtain⟨n8,h8⟩:∃n,bb.length=n:=⟨_,rfl⟩;obtain⟨n9,h9⟩:∃n,bc.length=n:=⟨_,rfl⟩;obtain⟨ak,ab⟩:∃n,ax.length=n:=⟨_,rfl⟩;obtain⟨al,ae⟩:∃n,aw.length=n:=⟨_,rfl⟩;rw[h6,h7,h8,h9,ab,ae]at J H;rw[ab]at L;rw[ae]at I;rw[h6,h7,h8,h9,ab,ae];clear h6 h7 h8 h9 ab ae;by_cases V:R<=O
 ·have t0:=LG (x:=R) (y:=O) true (decide_eq_true V);rw[decide_eq_true V]at G;clear V
  cases q1
  ·clear H L I;go_enter func73,ntmps73;go_wp2;refine wp_region_held_drew (S:=(λT=>Ϙ T w (vI ag) (vI aj) (vI R) (vI O) (vI an) (vI ah) (vS l n6 lc) (vS r n7 rc) (vS lk n8 ai) (vS rk n9 am) (.bool aa) (vS g ak gc) (vS a al ac))) ϧ ⟨Ϩ,Ϩ,Ϩ,Ϩ,Ϩ,Ϩ,Ϩ,Ϩ,Ϩ,Ϩ,Ϩ,Ϩ,Ϩ⟩ (λb=>?_);refine tkz 0 3 b ?_;refine tkz 1 4 b ?_;refine tkz 2 5 b ?_;refine tkz 3 6 b ?_;refine tkz 4 7 b ?_;refine tkz 5 8 b ?_;refine tkz 6 9 b ?_;refine rD 7 λK h=>?_;go_simp;refine(J.o _ (by first|exact ϯ.drew|exact ϯ)).mono ?_;rintro e Z ⟨rfl,c⟩;have M:ϣ w Z:=(by first|exact(ϯ.drew).trans (c.mono Ϧ)|exact ϯ.trans (c.mono Ϧ));go_wp2_with fail;refine h.out _ _ (by obtain⟨j,k,s,t,u,v,z,A,B,C,m,o,q⟩:=b;exact⟨cLz c j,cLz c k,cLz c s,cLz c t,cLz c u,cLz c v,cLz c z,cLz c A,cLz c B,cLz c C,cLz c m,cLz c o,cLz c q⟩) (λb=>?_);clear h K
   try simp only[Act.put,sI,sZ,sSz]
   refine tkz 8 11 b ?_;refine tkz 9 12 b ?_;refine sk 10 13 b ?_;refine sk 11 14 b ?_;refine sk 12 15 b ?_;refine sk 13 16 b ?_;refine sk 14 17 b ?_;refine tkz 15 18 b ?_;refine tkz 16 19 b ?_;refine sk 17 20 b ?_;refine sk 18 21 b ?_;refine sk 19 22 b ?_;refine sk 20 23 b ?_;refine sk 21 24 b ?_;refine tkz 22 25 b ?_;refine tkz 23 2 b ?_;refine wpAnyH_done ϧ ?_ _;go_wp2;go_ret;exact⟨Aa (by rw[G.o];first|rfl|simp),by first|exact M|exact(ϯ.drew)|exact ϯ⟩
  ·cases q2
   ·clear I;go_enter func73,ntmps73;go_wp2;refine wp_region_held_drew (S:=(λT=>Ϙ T w (vI ag) (vI aj) (vI R) (vI O) (vI an) (vI ah) (vS l n6 lc) (vS r n7 rc) (vS lk n8 ai) (vS rk n9 am) (.bool aa) (vS g ak gc) (vS a al ac))) ϧ ⟨Ϩ,Ϩ,Ϩ,Ϩ,Ϩ,Ϩ,Ϩ,Ϩ,Ϩ,Ϩ,Ϩ,Ϩ,Ϩ⟩ (λb=>?_);refine tkz 0 3 b ?_;refine tkz 1 4 b ?_;refine tkz 2 5 b ?_;refine tkz 3 6 b ?_;refine tkz 4 7 b ?_;refine tkz 5 8 b ?_;refine tkz 6 9 b ?_;refine rD 7 λK h=>?_;go_simp;refine(J.o _ (by first|exact ϯ.drew|exact ϯ)).mono ?_;rintro e Z ⟨rfl,c⟩;have M:ϣ w Z:=(by first|exact(ϯ.drew).trans (c.mono Ϧ)|exact ϯ.trans (c.mono Ϧ));go_wp2_with fail;refine h.out _ _ (by obtain⟨j,k,s,t,u,v,z,A,B,C,m,o,q⟩:=b;exact⟨cLz c j,cLz c k,cLz c s,cLz c t,cLz c u,cLz c v,cLz c z,cLz c A,cLz c B,cLz c C,cLz c m,cLz c o,cLz c q⟩) (λb=>?_);clear h K
    try simp only[Act.put,sI,sZ,sSz]
    refine tkz 8 11 b ?_;refine tkz 9 12 b ?_;refine tkz 10 13 b ?_;refine tkz 11 14 b ?_;refine tkz 12 15 b ?_;refine rD 13 λK h=>?_;go_simp;refine(H.o _ M).mono ?_;rintro e wb ⟨⟨U,W,rfl,ho⟩,d⟩;have X:=bT M d;go_wp2_with fail;refine h.out _ _ (by obtain⟨j,k,s,t,u,v,z,A,B,C,m,o,q⟩:=b;exact⟨cLz d j,cLz d k,cLz d s,cLz d t,cLz d u,cLz d v,cLz d z,cLz d A,cLz d B,cLz d C,cLz d m,cLz d o,cLz d q⟩) (λb=>?_);clear h K
    try simp only[Act.put,sI,sZ,sSz]
    refine rD 14 λK h=>?_;go_simp;refine(L.o _ _ _ X).mono ?_;rintro e wc ⟨rfl,f⟩;have af:=bT X f;go_wp2_with fail;refine h.out _ _ (by obtain⟨j,k,s,t,u,v,z,A,B,C,m,o,q⟩:=b;exact⟨cLz f j,cLz f k,cLz f s,cLz f t,cLz f u,cLz f v,cLz f z,cLz f A,cLz f B,cLz f C,cLz f m,cLz f o,cLz f q⟩) (λb=>?_);clear h K
    try simp only[Act.put,sI,sZ,sSz]
    refine tkz 15 18 b ?_;refine tkz 16 19 b ?_;refine sk 17 20 b ?_;refine sk 18 21 b ?_;refine sk 19 22 b ?_;refine sk 20 23 b ?_;refine sk 21 24 b ?_;refine tkz 22 25 b ?_;refine tkz 23 2 b ?_;refine wpAnyH_done ϧ ?_ _;go_wp2;go_ret;exact⟨Aa (by rw[G.o];first|rfl|simp),by first|exact af|exact(ϯ.drew)|exact ϯ⟩
   ·cases q3
    all_goals
     go_enter func73,ntmps73;go_wp2;refine wp_region_held_drew (S:=(λT=>Ϙ T w (vI ag) (vI aj) (vI R) (vI O) (vI an) (vI ah) (vS l n6 lc) (vS r n7 rc) (vS lk n8 ai) (vS rk n9 am) (.bool aa) (vS g ak gc) (vS a al ac))) ϧ ⟨Ϩ,Ϩ,Ϩ,Ϩ,Ϩ,Ϩ,Ϩ,Ϩ,Ϩ,Ϩ,Ϩ,Ϩ,Ϩ⟩ (λb=>?_);refine tkz 0 3 b ?_;refine tkz 1 4 b ?_;refine tkz 2 5 b ?_;refine tkz 3 6 b ?_;refine tkz 4 7 b ?_;refine tkz 5 8 b ?_;refine tkz 6 9 b ?_;refine rD 7 λK h=>?_;go_simp;refine(J.o _ (by first|exact ϯ.drew|exact ϯ)).mono ?_;rintro e Z ⟨rfl,c⟩;have M:ϣ w Z:=(by first|exact(ϯ.drew).trans (c.mono Ϧ)|exact ϯ.trans (c.mono Ϧ));go_wp2_with fail;refine h.out _ _ (by obtain⟨j,k,s,t,u,v,z,A,B,C,m,o,q⟩:=b;exact⟨cLz c j,cLz c k,cLz c s,cLz c t,cLz c u,cLz c v,cLz c z,cLz c A,cLz c B,cLz c C,cLz c m,cLz c o,cLz c q⟩) (λb=>?_);clear h K
     try simp only[Act.put,sI,sZ,sSz]
     refine tkz 8 11 b ?_;refine tkz 9 12 b ?_;refine tkz 10 13 b ?_;refine tkz 11 14 b ?_;refine tkz 12 15 b ?_;refine rD 13 λK h=>?_;go_simp;refine(H.o _ M).mono ?_;rintro e wb ⟨⟨U,W,rfl,ho⟩,d⟩;have X:=bT M d;go_wp2_with fail;refine h.out _ _ (by obtain⟨j,k,s,t,u,v,z,A,B,C,m,o,q⟩:=b;exact⟨cLz d j,cLz d k,cLz d s,cLz d t,cLz d u,cLz d v,cLz d z,cLz d A,cLz d B,cLz d C,cLz d m,cLz d o,cLz d q⟩) (λb=>?_);clear h K
     try simp only[Act.put,sI,sZ,sSz]
     refine rD 14 λK h=>?_;go_simp;refine(L.o _ _ _ X).mono ?_;rintro e wc ⟨rfl,f⟩;have af:=bT X f;go_wp2_with fail;refine h.out _ _ (by obtain⟨j,k,s,t,u,v,z,A,B,C,m,o,q⟩:=b;exact⟨cLz f j,cLz f k,cLz f s,cLz f t,cLz f u,cLz f v,cLz f z,cLz f A,cLz f B,cLz f C,cLz f m,cLz f o,cLz f q⟩) (λb=>?_);clear h K
     try simp only[Act.put,sI,sZ,sSz]
     refine tkz 15 18 b ?_;refine tkz 16 19 b ?_;refine tkz 17 20 b ?_;refine tkz 18 21 b ?_;refine tkz 19 22 b ?_;refine rD 20 λK h=>?_;go_simp;refine(H.o _ af).mono ?_;rintro e wd ⟨⟨bd,be,rfl,ba⟩,D⟩;have ao:=bT af D;go_wp2_with fail;refine h.out _ _ (by obtain⟨j,k,s,t,u,v,z,A,B,C,m,o,q⟩:=b;exact⟨cLz D j,cLz D k,cLz D s,cLz D t,cLz D u,cLz D v,cLz D z,cLz D A,cLz D B,cLz D C,cLz D m,cLz D o,cLz D q⟩) (λb=>?_);clear h K
     try simp only[Act.put,sI,sZ,sSz]
     refine rD 21 λK h=>?_;go_simp;refine(I.o _ _ _ ao (Ea ba).1).mono ?_;rintro e we ⟨rfl,E⟩;have ay:=bT ao E;go_wp2_with fail;refine h.out _ _ (by obtain⟨j,k,s,t,u,v,z,A,B,C,m,o,q⟩:=b;exact⟨cLz E j,cLz E k,cLz E s,cLz E t,cLz E u,cLz E v,cLz E z,cLz E A,cLz E B,cLz E C,cLz E m,cLz E o,cLz E q⟩) (λb=>?_);clear h K
     try simp only[Act.put,sI,sZ,sSz]
     refine tkz 22 25 b ?_;refine tkz 23 2 b ?_;refine wpAnyH_done ϧ ?_ _;go_wp2;go_ret;exact⟨Aa (by rw[G.o];first|rfl|simp),by first|exact ay|exact(ϯ.drew)|exact ϯ⟩
 ·have t0:=LG (x:=R) (y:=O) false (decide_eq_false V);rw[decide_eq_false V]at G;clear V J H L I;go_enter func73,ntmps73;go_wp2;refine wp_region_held_drew (S:=(λT=>Ϙ T w (vI ag) (vI aj) (vI R) (vI O) (vI an) (vI ah) (vS l n6 lc) (vS r n7 rc) (vS lk n8 ai) (vS rk n9 am) (.bool aa) (vS g ak gc) (vS a al ac))) ϧ ⟨Ϩ,Ϩ,Ϩ,Ϩ,Ϩ,Ϩ,Ϩ,Ϩ,Ϩ,Ϩ,Ϩ,Ϩ,Ϩ⟩ (λb=>?_);refine tkz 0 3 b ?_;refine tkz 1 4 b ?_;refine tkz 2 5 b ?_;refine tkz 3 6 b ?_;refine tkz 4 7 b ?_;refine tkz 5 8 b ?_;refine sk 6 9 b ?_;refine sk 7 10 b ?_;refine tkz 8 11 b ?_;refine tkz 9 12 b ?_;refine sk 10 13 b ?_;refine sk 11 14 b ?_;refine sk 12 15 b ?_;refine sk 13 16 b ?_;refine sk 14 17 b ?_;refine tkz 15 18 b ?_;refine tkz 16 19 b ?_;refine sk 17 20 b ?_;refine sk 18 21 b ?_;refine sk 19 22 b ?_;refine sk 20 23 b ?_;refine sk 21 24 b ?_;refine tkz 22 25 b ?_;refine tkz 23 2 b ?_;refine wpAnyH_done ϧ ?_ _;go_wp2;go_ret;exact⟨Aa (by rw[G.o];first|rfl|simp),by first|exact M|exact(ϯ.drew)|exact ϯ⟩
def QD(a b c d e:Bool):Int:=if a=false then 4 else if b=false then 3 else if c=false then 2 else if d=false then 5 else if e=false then 1 else 0
theorem LH(p:Pln):Ag p=QD (decide (Bu p)) (decide (BE p)) (decide (Cl p)) (decide (CF p)) (decide (Bf p)):=by
 unfold Ag QD;simp only[decide_eq_false_iff_not]
theorem Dp(h:Cl p):(0<p.left.length/\p.left.length<=4)/\(0<p.right.length/\p.right.length<=4)/\(0<p.lkeys.length/\p.lkeys.length<=4)/\(0<p.rkeys.length/\p.rkeys.length<=4)/\p.aggs.length<=4/\p.group.length<=8:=by
 obtain⟨⟨c,d,e,f⟩,b⟩:=h;unfold Kb at c d e f b;split at b
 ·omega
 ·omega
theorem Dd(p:Pln)(x:PA)(w:Ϡ)(q:wfPlan p)(o:planAt w p x):
 χ 32 #[Aj p x] w (ψ w (vI (Ag p))):=by
 have j:=hIz (λ(b:Ϡ) (d:ϣ w b)=>MZ p x b (Ae o d) q);have k:=hIz (λ(b:Ϡ) (d:ϣ w b)=>FI p x b);have m:=hIz (λ(b:Ϡ) (d:ϣ w b)=>FJ p x b q);have f:Ϣ (∀b,ϣ w b->yes (decide (Cl p)) (CT 72 #[Aj p x] b (ψ b (.bool (decide (CF p)))))):=λb d J=>by
  have ad:=Dp (of_decide_eq_true J);exact Nc p x b (Ae o d) Ϥ Ϥ Ϥ Ϥ
 have h:Ϣ (∀b,ϣ w b->yes (decide (Cl p)) (CT 73 #[Aj p x] b (ψ b (.bool (decide (Bf p)))))):=λb d J=>by
  have ad:=Dp (of_decide_eq_true J);exact Dc p x b q (Ae o d) Ϥ Ϥ Ϥ Ϥ
 have c:Ϣ (Ag p=QD (decide (Bu p)) (decide (BE p)) (decide (Cl p)) (decide (CF p)) (decide (Bf p))):=LH p;obtain⟨q1,O⟩:=nM (decide (Bu p));obtain⟨q2,R⟩:=nM (decide (BE p));obtain⟨q3,T⟩:=nM (decide (Cl p));obtain⟨q4,U⟩:=nM (decide (CF p));obtain⟨q5,V⟩:=nM (decide (Bf p));rw[O]at j c;rw[R]at k c;rw[T]at m f h c;rw[U]at f c;rw[V]at h c;clear O R T U V q o;obtain⟨ae,ah,ag,ab,ai,af,left,right,W,X,Y,M,L⟩:=p;obtain⟨l,lc,r,rc,lk,ax,rk,a0,g,gc,a,ac⟩:=x;unfold Aj at j k m f h⊢;dsimp only at j k m f h⊢;obtain⟨n6,u⟩:∃n,left.length=n:=⟨_,rfl⟩;obtain⟨n7,v⟩:∃n,right.length=n:=⟨_,rfl⟩;obtain⟨n8,z⟩:∃n,W.length=n:=⟨_,rfl⟩;obtain⟨n9,A⟩:∃n,X.length=n:=⟨_,rfl⟩;obtain⟨ay,s⟩:∃n,M.length=n:=⟨_,rfl⟩;obtain⟨az,t⟩:∃n,L.length=n:=⟨_,rfl⟩;rw[u,v,z,A,s,t]at j k m f h;rw[u,v,z,A,s,t];clear u v z A s t;obtain⟨pe,N⟩:=nM (Ag ⟨ae,ah,ag,ab,ai,af,left,right,W,X,Y,M,L⟩);rw[N]at c⊢;clear N;go_enter func32,ntmps32;go_wp2_with fail;refine(j.o _ ϯ).mono ?_;rintro e b ⟨rfl,B⟩;have F:=ϯ.trans (B.mono Ϧ);obtain⟨aj,an⟩:=Cu B;have ar:w.heap.size<b.heap.size:=(by have:=B.size;simp at this;omega)
 cases q1
 ·go_wp2;go_ret;exact⟨Ad c.o.symm,F⟩
 go_wp2_with fail;refine(k.o _ F).mono ?_;rintro e w2 ⟨rfl,C⟩;have G:=bT F C;obtain⟨ak,ao⟩:=Cu C;have au:w.heap.size<w2.heap.size:=(by have:=C.size;omega)
 cases q2
 ·go_wp2;go_ret;exact⟨Ad c.o.symm,G⟩
 go_wp2_with fail;refine(m.o _ G).mono ?_;rintro e w3 ⟨rfl,D⟩;have H:=bT G D;obtain⟨al,ap⟩:=Cu D;have av:w.heap.size<w3.heap.size:=(by have:=D.size;omega)
 cases q3
 ·go_wp2;go_ret;exact⟨Ad c.o.symm,H⟩
 go_wp2_with fail;refine(f.o _ H rfl).mono ?_;rintro e w4 ⟨rfl,E⟩;have I:=bT H E;obtain⟨am,aq⟩:=Cu E;have aw:w.heap.size<w4.heap.size:=(by have:=E.size;omega)
 cases q4
 ·go_wp2;go_ret;exact⟨Ad c.o.symm,I⟩
 go_wp2_with fail;refine(h.o _ I rfl).mono ?_;rintro e w5 ⟨rfl,Z⟩;have aa:=bT I Z
 cases q5
 all_goals
  go_wp2;go_ret;exact⟨Ad c.o.symm,aa⟩
def Mp(p:Pln):Prop:=4<p.left.length\/4<p.right.length\/4<p.lkeys.length\/4<p.rkeys.length\/4<p.aggs.length\/8<p.group.length
theorem XV(h:Mp p):¬Cl p:=λb=>by
 have:=Dp b;unfold Mp at h;omega
theorem Aau(h:Mp p):Ag p=if decide (Bu p)=false then 4 else if decide (BE p)=false then 3 else 2:=by
 rw[LH];unfold QD;rw[decide_eq_false (XV h)];simp
def bare(p:Pln):Pln:={p with aggs:=[]}
def Aav(x:PA):PA:={x with a:=none,ac:=0}
theorem UD(h:p.grouped=true->∀i,i<p.aggs.length->AA (p.aggs.getD i (0,0)).1 1 4=true):decide (Bu (bare p))=decide (Bu p):=by
 rw[IY,IY];unfold bare;dsimp only;have e:Jy []=true:=rfl;rw[e]
 cases hg:p.grouped with
 |false=>rfl
 |true=>rw[Sa (h hg)]
theorem XW(b:p.grouped=true)(c:i<p.aggs.length)(h:AA (p.aggs.getD i (0,0)).1 1 4=false):decide (Bu p)=false:=by
 rw[IY,b,Wz c h];simp
theorem M5(p:Pln)(x:PA)(w:Ϡ)(d:wfPlan p)(E:planAt w p x)(F:¬Mp p):
 χ 36 #[Aj p x] w (ψ w (vI (Ag p))):=by
 have s:=hIz (λ(b:Ϡ) (m:ϣ w b)=>GO p x b (Cp E.a m) d.a);have t:=hIz (λ(b:Ϡ) (m:ϣ w b)=>Iz p x b);have u:=hIz (λ(b:Ϡ) (m:ϣ w b)=>OX p x b d);have f:Ϣ (∀b,ϣ w b->yes (decide (Cl p)) (CT 87 #[Aj p x] b λe H=>(∃B J,e= .returned (vS B (A7 p).length J)/\Cm H b.heap.size (vS B (A7 p).length J) (A7 p))/\ϣ b H)):=λb m v=>by
  have ak:=Dp (of_decide_eq_true v);exact Gf p x b (Ae E m) Ϥ Ϥ Ϥ Ϥ
 have o:Ϣ (∀b,ϣ w b->yes (decide (Cl p)) (CT 88 #[Aj p x] b (ψ b (.bool (!decide (Bf p)))))):=λb m v=>by
  have ak:=Dp (of_decide_eq_true v);exact Pf p x b d (Ae E m) Ϥ Ϥ Ϥ Ϥ
 have c:Ϣ (Ag p=QD (decide (Bu p)) (decide (BE p)) (decide (Cl p)) (decide (CF p)) (decide (Bf p))):=LH p;have A:Ϣ (∀i,i<(A7 p).length->AA ((A7 p).getD i 0) 1 3=false->decide (CF p)=false):=λi hi h=>by rw[L6];exact CP hi h
 have z:Ϣ ((∀i,i<(A7 p).length->AA ((A7 p).getD i 0) 1 3=true)->decide (CF p)=true):=λh=>by rw[L6];exact AF.2 h
 have q:yes (decide (Cl p)) ((A7 p).length<=8):=λv=>by
  have ak:=Dp (of_decide_eq_true v);unfold A7;rw[lAp];omega
 obtain⟨q1,am⟩:=nM (decide (Bu p));obtain⟨q2,an⟩:=nM (decide (BE p));obtain⟨q3,ao⟩:=nM (decide (Cl p));obtain⟨q4,ap⟩:=nM (decide (CF p));obtain⟨q5,aq⟩:=nM (decide (Bf p));rw[am]at s c;rw[an]at t c;rw[ao]at u f o c q;rw[ap]at c A z;rw[aq]at o c;obtain⟨D,ai⟩:=nM (A7 p);rw[ai]at f A z q;obtain⟨G,al⟩:=nM (Ag p);rw[al]at c⊢;unfold Mp at F;clear am an ao ap aq d E ai al;obtain⟨bk,bp,bo,be,br,bm,left,right,az,a2,a3,aw,av⟩:=p;obtain⟨l,lc,r,rc,lk,bn,rk,bq,g,gc,a,ac⟩:=x;unfold Aj at s t u f o⊢;dsimp only at s t u f o F⊢;obtain⟨n6,N⟩:∃n,left.length=n:=⟨_,rfl⟩;obtain⟨n7,O⟩:∃n,right.length=n:=⟨_,rfl⟩;obtain⟨n8,R⟩:∃n,az.length=n:=⟨_,rfl⟩;obtain⟨n9,T⟩:∃n,a2.length=n:=⟨_,rfl⟩;obtain⟨a0,L⟩:∃n,aw.length=n:=⟨_,rfl⟩;obtain⟨a1,M⟩:∃n,av.length=n:=⟨_,rfl⟩;obtain⟨C,ae⟩:∃n,D.length=n:=⟨_,rfl⟩;have ar:=hV0 ae;rw[N,O,R,T,L,M]at s t u f o F;rw[ae]at f A z q;rw[N,O,R,T,L,M];have t6:¬(4:Int)<(n6:Int):=Ϥ;have t7:¬(4:Int)<(n7:Int):=Ϥ;have t8:¬(4:Int)<(n8:Int):=Ϥ;have t9:¬(4:Int)<(n9:Int):=Ϥ;have bs:¬(8:Int)<(a0:Int):=Ϥ;have bu:¬(4:Int)<(a1:Int):=Ϥ;clear N O R T L M ae F;go_enter func36,ntmps36;go_wp2_with fail;refine(s.o _ ϯ).mono ?_;rintro e b ⟨rfl,U⟩;have Y:=ϯ.trans (U.mono Ϧ);obtain⟨a4,a9⟩:=Cu U;have bg:w.heap.size<b.heap.size:=(by have:=U.size;simp at this;omega)
 cases q1
 ·go_wp2;go_ret;exact⟨Ad c.o.symm,Y⟩
 go_wp2_with fail;refine(t.o _ Y).mono ?_;rintro e w2 ⟨rfl,V⟩;have Z:=bT Y V;obtain⟨a5,ba⟩:=Cu V;have bh:w.heap.size<w2.heap.size:=(by have:=V.size;omega)
 cases q2
 ·go_wp2;go_ret;exact⟨Ad c.o.symm,Z⟩
 go_wp2_with fail;refine(u.o _ Z).mono ?_;rintro e w3 ⟨rfl,W⟩;have aa:=bT Z W;obtain⟨a6,bb⟩:=Cu W;have bi:w.heap.size<w3.heap.size:=(by have:=W.size;omega)
 cases q3
 ·go_wp2;go_ret;exact⟨Ad c.o.symm,aa⟩
 go_wp2_with fail;refine(f.o _ aa rfl).mono ?_;rintro e w4 ⟨⟨B,J,rfl,ho⟩,X⟩;have ab:=bT aa X;have au:Ϣ (Ay w4 B D):=(Ea ho).1;obtain⟨a7,bd⟩:=Cu X;have bj:w.heap.size<w4.heap.size:=(by have:=X.size;omega);have a8:=q rfl;clear ho q;go_wp2
 go_loop [6] (λi=> ∃k:Nat,k<=C/\i=vI k/\∀j,j<k->AA (D.getD j 0) 1 3=true) (λi=>C - (intOf i).toNat)
 case atStart=>exact⟨0,Nat.zero_le _,rfl,λi hi=>absurd hi (Nat.not_lt_zero i)⟩
 case round=>
  obtain⟨k,hk,rfl,ah⟩:=hrel;have HA:=hV0 ah;clear ah;by_cases aj:k<C
  ·obtain⟨bc,oc,ec,xc⟩:=au.o k (by rw[ar.o];exact aj);subst ec;have i1:=nn0 k;have i2:(k:Int)<(C:Int):=Ϥ;obtain⟨cv,af⟩:=nM (D.getD k 0);have ag:=hV0 af;rw[af]at xc;clear af
   cases pc:AA cv 1 3 with
   |true=>
    go_wp2_with
     (go_at_call 83;refine(Ap _ _ _ _).mono ?_;rintro e H ⟨rfl,d⟩;subst d)
    go_round
    case rel=>exact⟨k+1,Ϥ,by go_num,λj hj=>by
     rcases Nat.lt_succ_iff_lt_or_eq.1 hj with h|h
     ·exact HA.o j h
     ·rw[h,ag.o];exact pc⟩
    case measure=>simp[intOf];omega
   |false=>
    have I:Ϣ (G=5):=by
     show G=5;rw[c.o,A.o k aj (by rw[ag.o];exact pc)];rfl
    go_wp2_with
     (go_at_call 83;refine(Ap _ _ _ _).mono ?_;rintro e H ⟨rfl,d⟩;subst d)
    go_ret;exact⟨Ad I.o.symm,ab⟩
  ·have I:Ϣ (G=QD true true true true q5):=by
    show G=_;rw[c.o,z.o (λj hj=>HA.o j Ϥ)]
   go_wp2_with fail;refine(o.o _ ab rfl).mono ?_;rintro e w5 ⟨rfl,ax⟩;have ay:=bT ab ax
   cases q5
   all_goals
    go_wp2;go_ret;exact⟨Ad I.o.symm,ay⟩
theorem UE{a b c d e f:Nat}(h:4<a\/4<b\/4<c\/4<d\/4<e\/8<f):
 ((4:Int)<a)\/(¬(4:Int)<a/\(4:Int)<b)\/(¬(4:Int)<a/\¬(4:Int)<b/\(4:Int)<c)\/(¬(4:Int)<a/\¬(4:Int)<b/\¬(4:Int)<c/\(4:Int)<d)\/
 (¬(4:Int)<a/\¬(4:Int)<b/\¬(4:Int)<c/\¬(4:Int)<d/\(4:Int)<e)\/(¬(4:Int)<a/\¬(4:Int)<b/\¬(4:Int)<c/\¬(4:Int)<d/\¬(4:Int)<e/\(8:Int)<f):=Ϥ
theorem Nn(p:Pln)(x:PA)(w:Ϡ)(q:wfPlan p)(R:planAt w p x)(v:Mp p):
 χ 36 #[Aj p x] w (ψ w (vI (Ag p))):=by
 have A:=hIz (λ(c:Ϡ) (L:ϣ w c)=>GO p x c (Cp R.a L) q.a);have s:=hIz (λ(c:Ϡ) (L:ϣ w c)=>Iz p x c);have t:Ϣ (∀c,ϣ w c->(p.grouped=true->∀i,i<p.aggs.length->AA (p.aggs.getD i (0,0)).1 1 4=true)->CT 84 #[Aj (bare p) (Aav x)] c (ψ c (.bool (!decide (Bu p))))):=λc L h=>by
  rw[<-UD h];exact GO (bare p) (Aav x) c (λi f=>absurd f (Nat.not_lt_zero i)) (Nat.zero_le _)
 have d:Ϣ (Ag p=if decide (Bu p)=false then 4 else if decide (BE p)=false then 3 else 2):=Aau v;have D:Ϣ (∀i,p.grouped=true->i<p.aggs.length->AA (p.aggs.getD i (0,0)).1 1 4=false->decide (Bu p)=false):=λi O f h=>XW O f h;have V:Ϣ (DI w x.a p.aggs):=R.a;have af:=q.a;obtain⟨q1,ab⟩:=nM (decide (Bu p));obtain⟨q2,ad⟩:=nM (decide (BE p));rw[ab]at A t d D;rw[ad]at s d;obtain⟨pe,aa⟩:=nM (Ag p);rw[aa]at d⊢;unfold Mp at v;clear ab ad q R aa;obtain⟨aq,aw,av,ap,az,ar,left,right,ak,al,E,ah,B⟩:=p;obtain⟨l,lc,r,rc,lk,au,rk,ay,g,gc,a,ac⟩:=x;unfold bare Aav at t;unfold Aj at A s t⊢;dsimp only[length_nil]at A s t D V af v⊢;obtain⟨n6,G⟩:∃n,left.length=n:=⟨_,rfl⟩;obtain⟨n7,H⟩:∃n,right.length=n:=⟨_,rfl⟩;obtain⟨n8,I⟩:∃n,ak.length=n:=⟨_,rfl⟩;obtain⟨n9,J⟩:∃n,al.length=n:=⟨_,rfl⟩;obtain⟨ax,F⟩:∃n,ah.length=n:=⟨_,rfl⟩;obtain⟨j,u⟩:∃n,B.length=n:=⟨_,rfl⟩;have HN:=hV0 u;rw[G,H,I,J,F,u]at A s v;rw[G,H,I,J,F,u]at t;rw[u]at D af;rw[G,H,I,J,F,u];have ae:=UE v;clear G H I J F u v;by_cases a0:4<j
 ·have am:(4:Int)<(j:Int):=Ϥ;rcases ae with h|h|h|h|h|h
  all_goals
   first
   |(exfalso;omega)
   |skip
  all_goals
   go_enter func36,ntmps36;go_wp2
   go_loop [4] (λi=> ∃k:Nat,k<=j/\i=vI k/\(E=true->∀i,i<k->AA (B.getD i (0,0)).1 1 4=true)) (λi=>j - (intOf i).toNat)
   case atStart=>exact⟨0,Nat.zero_le _,rfl,λ_ i f=>absurd f (Nat.not_lt_zero i)⟩
   case round=>
    obtain⟨k,hk,rfl,X⟩:=hrel;have U:Wy E B k:=X;clear X;by_cases Z:k<j
    ·obtain⟨b,o,e,x1,x2⟩:=V.o k (by rw[HN.o];exact Z);subst e;have Y:=bLt _ _ x1;have an:b<w.heap.size:=Y;have ao:b<w.heap.size+1:=Ϥ;have i1:=nn0 k;have i2:(k:Int)<(j:Int):=Ϥ;obtain⟨z,T⟩:=nM ((B.getD k (0,0)).1);have W:=hV0 T;rw[T]at x1;clear x2 Y T
     cases E with
     |false=>
      go_wp2
      go_round
      case rel=>exact⟨k+1,Ϥ,by go_num,λh=>absurd h ϥ⟩
      case measure=>simp[intOf];omega
     |true=>
      cases hf:AA z 1 4 with
      |true=>
       go_wp2_with
        (go_at_call 83;refine(Ap _ _ _ _).mono ?_;rintro e w' ⟨rfl,q⟩;subst q)
       go_round
       case rel=>exact⟨k+1,Ϥ,by go_num,λ_ i f=>by
        rcases Nat.lt_succ_iff_lt_or_eq.1 f with h|h
        ·exact U rfl i h
        ·rw[h,W.o];exact hf⟩
       case measure=>simp[intOf];omega
      |false=>
       have HX:Ϣ (pe=4):=by
        show pe=4;rw[d.o,D.o k rfl Z (by rw[W.o];exact hf)];rfl
       go_wp2_with
        (go_at_call 83;refine(Ap _ _ _ _).mono ?_;rintro e w' ⟨rfl,q⟩;subst q)
       go_ret;exact⟨Ad HX.o.symm,(by repeat (first|exact bR|(refine Below.setCell ?_ Ϧ _)|(refine Below.alloc ?_ ϫ _)))⟩
    ·have ag:Wy E B j:=λO i f=>U O i Ϥ;go_wp2_with fail;refine(t.o _ (by repeat (first|exact bR|(refine Below.setCell ?_ Ϧ _)|(refine Below.alloc ?_ ϫ _))) ag).mono ?_;rintro e c ⟨rfl,C⟩;have m:=((by repeat (first|exact bR|(refine Below.setCell ?_ Ϧ _)|(refine Below.alloc ?_ ϫ _))):ϣ w _).trans (C.mono ϩ);obtain⟨ai,aj⟩:=Cu C
     cases q1
     ·go_wp2;go_ret;exact⟨Ad d.o.symm,m⟩
     go_wp2_with fail;refine(s.o _ m).mono ?_;rintro e w2 ⟨rfl,M⟩;have N:=bT m M
     cases q2
     all_goals
      go_wp2;go_ret;exact⟨Ad d.o.symm,N⟩
 ·have am:¬(4:Int)<(j:Int):=Ϥ;rcases ae with h|h|h|h|h|h
  all_goals
   first
   |(exfalso;omega)
   |skip
  all_goals
   go_enter func36,ntmps36;go_wp2_with fail;refine(A.o _ (by repeat (first|exact bR|(refine Below.setCell ?_ Ϧ _)|(refine Below.alloc ?_ ϫ _)))).mono ?_;rintro e c ⟨rfl,C⟩;have m:=((by repeat (first|exact bR|(refine Below.setCell ?_ Ϧ _)|(refine Below.alloc ?_ ϫ _))):ϣ w _).trans (C.mono ϩ);obtain⟨ai,aj⟩:=Cu C
   cases q1
   ·go_wp2;go_ret;exact⟨Ad d.o.symm,m⟩
   go_wp2_with fail;refine(s.o _ m).mono ?_;rintro e w2 ⟨rfl,M⟩;have N:=bT m M
   cases q2
   all_goals
    go_wp2;go_ret;exact⟨Ad d.o.symm,N⟩
theorem GQ(p:Pln)(x:PA)(w:Ϡ)(d:wfPlan p)(b:planAt w p x):
 χ 36 #[Aj p x] w (ψ w (vI (Ag p))):=by
 by_cases c:Mp p
 ·exact Nn p x w d b c
 ·exact M5 p x w d b c
end pl
namespace jn
variable {P : Program} {a : Act} {w : Ϡ} {K : Act -> World -> Prop} {Q : Exit -> Act -> World -> Prop} {l n : Nat} {ops : Array Oper}
theorem AfM{o:Oper}(d:∀c,o.op≠ .defer c)(h:o.wp P a w K Q):o.wpIn (Fence.wide.inRound l) n P a w K Q:=by
 refine⟨λf _=>trivial,?_⟩;rw[Oper.semAt_eq _ _ _ d];unfold Oper.wp at h;generalize (execOp a.eval o).run P w=r at *
 cases r with
 |ok x w'=>
  cases x<;>simp only[Oper.upon,Oper.uponIn]at h⊢ <;>
   first
    |exact h
    |exact⟨λe=>by simp[Fence.wide]at e,CallsIn.inRound l (callsIn_wide.2 h)⟩
    |exact⟨λe=>by simp[Fence.wide]at e,λc b _=>let ⟨v,w',r,s⟩:=h c b;⟨v,w',r,stepsIn_wide.2 s⟩⟩
    |exact h.elim
 |halt x w'=>cases x<;>simp only[Oper.upon,Oper.uponIn]at h⊢ <;>exact h
theorem AcX{e:Act->World->Prop}{i:Nat}(g:∀(i:Nat) (o:Oper),ops[i]? =some o->∀c,o.op≠Op.defer c)(j:¬LetsOut Q)(b:∀a w,K a w->e a w)(h:wpOp P ops Q i K a w):wpOpIn (Fence.wide.inRound l) n P ops Q i e a w:=by
 unfold wpOp at h;unfold wpOpIn
 cases ho:ops[i]? with
 |none=>simp only[ho]at h⊢;exact b _ _ h
 |some o=>
  simp only[ho]at h⊢;split
  ·rename_i d;simp only[d,if_true]at h;rcases h with h|h
   ·exact Oper.wpIn_mono b (AfM (g i o ho) h)
   ·exact absurd h.2 j
  ·rename_i d;simp only[d]at h;exact⟨λf _=>trivial,b _ _ h⟩
theorem Aaw{P:Program}{md:Region.Mode}{ops:Array Oper}{Q:Exit->Act->World->Prop}{l n:Nat}(b:∀(i:Nat) (o:Oper),ops[i]? =some o->∀c,o.op≠Op.defer c)(d:¬LetsOut Q):∀(fuel:Nat) (listed:Array Bool) (a:Act) (w:Ϡ),wpAny P md ops Q fuel listed a w->wpAnyIn (Fence.wide.inRound l) n P md ops Q fuel listed a w
 |0,_,_,_,h=>h
 |fuel+1,_,_,_,h=>⟨h.1,λi f=>AcX b d (λa' g e=>Aaw b d fuel _ a' g e) (h.2 i f)⟩
theorem Aax{S:World->Prop}{id:Nat}(N:Nat)(g:ops.size=N)(b:P.follows .mixedOrders=true)(j:ops.toList.all (λo=>match o.op with| .defer _=>false|_=>true)=true)(k:¬LetsOut Q)(f:S w.drew)
 (h:S w.drew->wpAnyH P .any ops Q S N (Array.replicate N false) a w.drew):(Code.region id ops true).wpIn (Fence.wide.inRound l) n P Q a w:=by
 refine wpIn_region_any b ?_;rw[g];refine Aaw (λi o m c e=>?_) k _ _ _ _ (wpAny_of_held _ _ _ _ (h f));have b:o∈ops.toList:=by
  obtain⟨q,d⟩:=Array.getElem?_eq_some_iff.1 m;rw[<-d];simp
 have:=all_eq_true.1 j o b;rw[e]at this
 cases this
end jn
end Go.Proofs.YtfkihidbnfkbaaaGreatDoor
