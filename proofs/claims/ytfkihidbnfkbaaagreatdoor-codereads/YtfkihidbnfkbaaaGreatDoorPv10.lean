import Derived.Test.YtfkihidbnfkbaaaGreatDoorPv6
set_option linter.all false
set_option maxHeartbeats 16000000
set_option maxRecDepth 100000
open List renaming length->ϲ
namespace Go.Proofs.YtfkihidbnfkbaaaGreatDoor
open ChangeShapes WideShapes ChangeAt RowKit List Proofs.Tryz
namespace pl
open vl
def yes(b:Bool)(P:Prop):Prop:=b=true->P
def T7(p:Pln)(i:Nat):Bool:=decide (p.left.getD (p.lkeys.getD i 0).toNat 0=p.right.getD (p.rkeys.getD i 0).toNat 0)
def Z2(p:Pln):decide (Hb p)=allB (ϲ p.lkeys) (T7 p):=by
 refine(Ex ?_).symm;rw[AA];unfold Hb T7;simp only[Sh]
def Ae4(w:World)(B:Nat)(p:Pln)(x:PA):Prop:=
 Δ w B 6 (vS x.l (ϲ p.left) x.lc)/\Δ w B 7 (vS x.r (ϲ p.right) x.rc)/\Δ w B 9 (vS x.rk (ϲ p.rkeys) x.rkc)
theorem Ae5(i:Nat)(B:Nat)(p:Pln)(x:PA)(w:ϟ)(e:wfPlan p)(H:Ae4 w B p x)(c:planAt w p x)(A:i<ϲ p.lkeys)(I:ϲ p.lkeys=ϲ p.rkeys)(h1:Bj p.lkeys (ϲ p.left))(q:Bj p.rkeys (ϲ p.right)):
 χ 199 #[vI i,vI (p.lkeys.getD i 0),ω B] w (ψ w (.bool (T7 p i))):=by
 have b:ϡ (T7 p i=decide (p.left.getD (p.lkeys.getD i 0).toNat 0=p.right.getD (p.rkeys.getD i 0).toNat 0)):=rfl;obtain⟨j,k,m⟩:=H;have f:=h1.1 _ (CS (d:=0) A);have g:=q.1 _ (CS (d:=0) (show i<ϲ p.rkeys by omega));obtain⟨Z,af,h,V⟩:=c.rk i ϣ;obtain⟨W,u⟩:=nM (p.lkeys.getD i 0);obtain⟨X,z⟩:=nM (p.rkeys.getD i 0);rw[u]at f b⊢;rw[z]at g b V;obtain⟨E,J⟩:=SK f.1;obtain⟨F,L⟩:=SK g.1;subst J L;rw[SM,SM]at b;obtain⟨bl,ol,el,R⟩:=c.l E ϣ;obtain⟨Y,oq,eq,U⟩:=c.r F ϣ;obtain⟨v1,C⟩:=nM (p.left.getD E 0);obtain⟨v2,D⟩:=nM (p.right.getD F 0);rw[C]at R b;rw[D]at U b;rw[el]at j;rw[eq]at k;rw[h]at m;obtain⟨n6,r⟩:∃n,ϲ p.left=n:=⟨_,rfl⟩;obtain⟨n7,s⟩:∃n,ϲ p.right=n:=⟨_,rfl⟩;obtain⟨G,t⟩:∃n,ϲ p.rkeys=n:=⟨_,rfl⟩;have M:=e.l;have N:=e.r;have O:=e.rk;have aa:i<G:=ϣ;rw[r]at j f M;rw[s]at k g N;rw[t]at m O;obtain⟨ab,ac⟩:=f;obtain⟨ad,ae⟩:=g;have i1:=nn0 i;have i2:(i:Int)<(G:Int):=ϣ;clear u z C D r s t e c h1 q A I el eq h;go_enter func199,ntmps199;go_wp2
 go_region
 all_goals
  go_wp2;go_ret;refine⟨Aa (by rw[b.o];exact PJ.2 ϥ),?_⟩
  repeat (first|exact bR|apply KD)
theorem PQ(p:Pln)(x:PA)(w:ϟ)(f:wfPlan p)(z:planAt w p x):
 χ 135 #[Ai p x] w (ψ w (.bool (decide (Jp p)))):=by
 have h:=hIz (λ(b:ϟ) (m:Ϣ w b)=>FU x.lk x.l x.lkc x.lc (ϲ p.left) p.lkeys b f.lk f.l (Al z.lk m));have j:=hIz (λ(b:ϟ) (m:Ϣ w b)=>FU x.rk x.r x.rkc x.rc (ϲ p.right) p.rkeys b f.rk f.r (Al z.rk m));have k:ϡ (∀B b,Ϣ w b->ϲ p.lkeys=ϲ p.rkeys->Bj p.lkeys (ϲ p.left)->Bj p.rkeys (ϲ p.right)->Δ b B 6 (vS x.l (ϲ p.left) x.lc)->Δ b B 7 (vS x.r (ϲ p.right) x.rc)->Δ b B 9 (vS x.rk (ϲ p.rkeys) x.rkc)->
  χ 132 #[vS x.lk (ϲ p.lkeys) x.lkc,.func (.func 199) #[] #[ω B]] b (ψ b (.bool (decide (Hb p))))):=by
  intro B b m u h1 h2 X Y Z;rw[Z2];exact I3 199 (IB func199 Ϧ rfl) #[ω B] (T7 p) x.lk x.lkc p.lkeys b f.lk (Al z.lk m)
   (λi M hi d=>Ae5 i B p x M f ⟨cLz d X,cLz d Y,cLz d Z⟩ (Ae (Ae z m) d) hi u h1 h2)
 have c:ϡ (decide (Jp p)=(decide (ϲ p.lkeys=ϲ p.rkeys)&&decide (Bj p.lkeys (ϲ p.left))&&decide (Bj p.rkeys (ϲ p.right))&&decide (Hb p))):=by
  refine(Ex ?_).symm;unfold Jp;simp only[G3,Sh,dM]
 have D:yes (decide (Bj p.lkeys (ϲ p.left))) (Bj p.lkeys (ϲ p.left)):=Fd;have E:yes (decide (Bj p.rkeys (ϲ p.right))) (Bj p.rkeys (ϲ p.right)):=Fd;obtain⟨q1,R⟩:=nM (decide (Bj p.lkeys (ϲ p.left)));obtain⟨q2,U⟩:=nM (decide (Bj p.rkeys (ϲ p.right)));obtain⟨q3,V⟩:=nM (decide (Hb p));rw[R]at h c D;rw[U]at j c E;rw[V]at k c;clear R U V f z;obtain⟨P1,N⟩:=nM (Bj p.lkeys (ϲ p.left));obtain⟨P2,O⟩:=nM (Bj p.rkeys (ϲ p.right));rw[N]at k D;rw[O]at k E;clear N O;obtain⟨an,ar,aq,al,av,ao,left,right,ae,af,ai,ah,ag⟩:=p;obtain⟨l,lc,r,rc,lk,ap,rk,au,g,gc,a,ac⟩:=x;unfold Ai;dsimp only at h j k c⊢;obtain⟨n6,A⟩:∃n,ϲ left=n:=⟨_,rfl⟩;obtain⟨n7,C⟩:∃n,ϲ right=n:=⟨_,rfl⟩;obtain⟨q,s⟩:∃n,ϲ ae=n:=⟨_,rfl⟩;obtain⟨W,t⟩:∃n,ϲ af=n:=⟨_,rfl⟩;rw[A,s]at h;rw[C,t]at j;rw[A,C,s,t]at k;rw[s,t]at c;rw[A,C,s,t];clear A C s t;by_cases u:q=W
 ·subst u;have ad:((q:Int)==q)=true:=ϥ;rw[show decide (q=q)=true by simp]at c
  cases q1<;>cases q2<;>cases q3
  all_goals
   go_enter func135,ntmps135;go_wp2_with (first
    |(go_at_call 136;have tk:=h;refine(h.o _ Ϯ).mono ?_;rintro e b ⟨rfl,F⟩;have G:=Ϯ.trans (F.mono ϥ);obtain⟨I,aj⟩:=Cx F;have L:w.heap.size<b.heap.size:=(by have:=F.size;simp at this;omega);clear h)
    |(go_at_call 136;have tk:=j;refine(j.o _ G).mono ?_;rintro e M ⟨rfl,d⟩;have H:=bT G d;obtain⟨J,ak⟩:=Cx d;have am:w.heap.size<M.heap.size:=(by have:=d.size;omega);clear j)
    |(go_at_call 132;refine(k.o _ _ H ϫ (D rfl) (E rfl) (by rw[J _ _ L,I _ _ ϥ];go_simp) (by rw[J _ _ L,I _ _ ϥ];go_simp) (by rw[J _ _ L,I _ _ ϥ];go_simp)).mono ?_;rintro e w3 ⟨rfl,aa⟩;have ab:=bT H aa))
   go_ret;refine⟨Aa (by rw[c.o];rfl),?_⟩
   first
    |exact ab
    |exact H
    |exact G
 ·have ad:((q:Int)==W)=false:=Ϩ;rw[BP u]at c;clear u;go_enter func135,ntmps135;go_wp2;go_ret;exact⟨Aa (by rw[c.o];rfl),Ϯ⟩
def O3(c:List Int)(a:Int×Int):Bool:=decide (CR c a)
theorem Ae6(i:Int)(B:Nat)(ad:Ϡ)(H:Nat)(c:List Int)(f k:Int)(w:ϟ)(q:ϲ c<=ύ)(u:Au w ad c)(t:Δ w B 0 (vS ad (ϲ c) H)):
 χ 203 #[vI i,.agg #[vI f,vI k],ω B] w (ψ w (.bool (O3 c (f,k)))):=by
 have L:=bLt _ _ t;have b:ϡ (O3 c (f,k)=true↔if f=1 then k=0 else(0<=k/\k<(ϲ c:Int))/\(f=2->c.getD k.toNat 0=2)):=by show O3 c (f,k)=true↔CR c (f,k);unfold O3;exact fU
 have E:=hV0 u;obtain⟨n,s⟩:∃n,ϲ c=n:=⟨_,rfl⟩;have F:=hV0 s;rw[s]at q t b;clear s u;have O:B<w.heap.size:=L;by_cases r:f=1
 ·subst r;rw[AE rfl]at b;go_enter func203,ntmps203;go_wp2;go_ret;exact⟨Aa (PJ.2 (by rw[b.o];simp)),Ϯ⟩
 ·have N:(f==1)=false:=by simpa using r
  rw[AC r]at b;clear r
  cases hbt:A8 k 0 ((n:Int) - 1)with
  |false=>
   have z:=(CC _ _ _).1 hbt;have g:ϡ (O3 c (f,k)=false):=Bool.eq_false_iff.2 (λh=>z ⟨(b.o.1 h).1.1,by have:=(b.o.1 h).1.2;omega⟩);clear z b;by_cases d:f=2
   ·subst d;go_enter func203,ntmps203;go_wp2_with (go_at_call 201;refine(FM _ _ _ _ _ q).mono ?_;rintro e w' ⟨rfl,j⟩;subst j);go_ret;exact⟨Aa g.o.symm,Ϯ⟩
   ·have J:(f==2)=false:=by simpa using d
    clear d;go_enter func203,ntmps203;go_wp2_with (go_at_call 201;refine(FM _ _ _ _ _ q).mono ?_;rintro e w' ⟨rfl,j⟩;subst j);go_ret;exact⟨Aa g.o.symm,Ϯ⟩
  |true=>
   obtain⟨D,V⟩:=(Bg _ _ _).1 hbt;by_cases d:f=2
   ·subst d;obtain⟨m,rfl⟩:=SK D;obtain⟨G,U,I,C⟩:=E.o m (by rw[F.o];omega);have g:ϡ (O3 c (2,(m:Int))=decide (c.getD m 0=2)):=by
     show O3 c (2,(m:Int))=_;refine PJ.2 ?_;rw[b.o];simp;omega
    subst I;obtain⟨v,A⟩:=nM (c.getD m 0);rw[A]at C g;have M:=bLt _ _ C;have R:G<w.heap.size:=M;clear A b;have W:(m:Int)<(n:Int):=ϣ;go_enter func203,ntmps203;go_wp2_with (go_at_call 201;refine(FM _ _ _ _ _ q).mono ?_;rintro e w' ⟨rfl,j⟩;subst j);go_ret;exact⟨Aa (by rw[g.o];exact PJ.2 ϥ),Ϯ⟩
   ·have J:(f==2)=false:=by simpa using d
    have g:ϡ (O3 c (f,k)=true):=b.o.2 ⟨⟨D,ϣ⟩,λh=>absurd h d⟩;clear d b;go_enter func203,ntmps203;go_wp2_with (go_at_call 201;refine(FM _ _ _ _ _ q).mono ?_;rintro e w' ⟨rfl,j⟩;subst j);go_ret;exact⟨Aa g.o.symm,Ϯ⟩
def Is(c:List Int)(l:List (Int×Int)):Prop:=∀a∈l,CR c a
instance(c:List Int)(l:List (Int×Int)):Decidable (Is c l):=by unfold Is;infer_instance
def AbT(c:List Int)(l:List (Int×Int)):decide (Is c l)=allB (ϲ l) (λi=>O3 c (l.getD i (0,0))):=by
 refine(Ex ?_).symm;rw[AA];unfold Is O3;simp only[Sh];exact Fo (Q:=λa:Int×Int=>CR c a)
theorem PR(a ad:Ϡ)(d f:Nat)(l:List (Int×Int))(c:List Int)(w:ϟ)(u:ϲ l<=ύ)(t:ϲ c<=ύ)(ha:DK w a l)(s:Au w ad c):
 χ 137 #[vS a (ϲ l) d,vS ad (ϲ c) f] w (ψ w (.bool (decide (Is c l)))):=by
 have K:ϡ (∀B b,Ϣ w b->Δ b B 0 (vS ad (ϲ c) f)->
  χ 195 #[vS a (ϲ l) d,.func (.func 203) #[] #[ω B]] b (ψ b (.bool (decide (Is c l))))):=by
  intro B b q e0;rw[AbT];exact LL 203 (IB func203 Ϧ rfl) #[ω B] (λi=>O3 c (l.getD i (0,0))) a d l b u (Cs ha q)
   (λi A C r=>Ae6 i B ad f c _ _ A t (Al (Al s q) r) (cLz r e0))
 obtain⟨m,h⟩:=nM (ϲ l);obtain⟨k,g⟩:=nM (ϲ c);obtain⟨D,j⟩:=nM (decide (Is c l));rw[h,g,j]at K;rw[h,g,j];clear h g j ha s u t;go_enter func137,ntmps137;go_wp2_with (go_at_call 195;refine(K.o _ _ Ϯ ϧ).mono ?_;rintro e b ⟨rfl,z⟩);go_ret;exact⟨rfl,Ϯ.trans (z.mono ϥ)⟩
end pl
namespace pl
variable {P : Program} {md : Region.Mode} {ops : Array Oper} {Q : Exit -> Act -> World -> Prop} {S : World -> Prop} {fuel : Nat} {listed : Array Bool} {a : Act} {w : ϟ} {oi : Oper} {x y : Int}
def AfA(i:Nat)(d:Option Tmp)(j:ops[i]? =some oi)
 (m:Region.noSelect ops=true) (g:Region.free md ops listed i=true) (k:(Region.ready md ops listed).contains i=true) (b:∀c a w,Q (.panic c) (a.put oi.dst undef) w->Q (.panic c) a w) (f:oi.dst=d)
 (q:Region.wanted oi (yielded ops a.tmps)=false) (e:S w) (h:wpAnyH P md ops Q S fuel (listed.setIfInBounds i true) (a.put d undef) w):wpAnyH P md ops Q S (fuel+1) listed a w:=
 aS j m g k b (dJ ⟨q,rfl⟩) e (by rw[f];exact h)
def AfB{v:Value}(i:Nat)(d:Option Tmp)(j:ops[i]? =some oi)
 (m:Region.noSelect ops=true) (g:Region.free md ops listed i=true) (k:(Region.ready md ops listed).contains i=true) (b:∀c a w,Q (.panic c) (a.put oi.dst v) w->Q (.panic c) a w) (f:oi.dst=d)
 (q:Region.wanted oi (yielded ops a.tmps)=true) (hy:∀w,S w->(execOp a.eval oi).run P w= .ok (.value v) w) (e:S w) (h:wpAnyH P md ops Q S fuel (listed.setIfInBounds i true) (a.put d v) w):wpAnyH P md ops Q S (fuel+1) listed a w:=
 aS j m g k b (dK ⟨q,hy⟩) e (by rw[f];exact h)
def Mp(b:Bool)(h:decide (x<=y)=b):∀t,binOp .leq t (vI x) (vI y)=pure (.bool b):=λt=>by rw[binOp_leq,h]
def Fg(b:Bool)(h:(x !=y)=b):∀t,binOp .neq t (vI x) (vI y)=pure (.bool b):=λt=>by rw[binOp_neq,h]
def AbU(b:Bool)(h:(x==y)=b):∀t,binOp .eql t (vI x) (vI y)=pure (.bool b):=λt=>by rw[binOp_eql,h]
def Km(b:Bool)(h:decide (x<y)=b):∀t,binOp .lss t (vI x) (vI y)=pure (.bool b):=λt=>by rw[binOp_lss,h]
def EH(b:Bool)(h:decide (x>y)=b):∀t,binOp .gtr t (vI x) (vI y)=pure (.bool b):=λt=>by rw[binOp_gtr,h]
def Kn(b:Bool)(h:decide (x≥y)=b):∀t,binOp .geq t (vI x) (vI y)=pure (.bool b):=λt=>by rw[binOp_geq,h]
end pl
namespace pl
open vl
variable {l : List Int} {i : Nat} {p : Pln}
theorem Gr(p:Pln)(x:PA)(w:ϟ)(R:planAt w p x)(n1:0<ϲ p.left)(n2:0<ϲ p.right)(m1:ϲ p.left<=400)(m2:ϲ p.right<=400):
 χ 87 #[Ai p x] w λe w'=>(∃ad ar,e= .returned (vS ad (ϲ (A5 p)) ar)/\Cm w' w.heap.size (vS ad (ϲ (A5 p)) ar) (A5 p))/\Ϣ w w':=by
 obtain⟨D,hi,ay,az,a0⟩:=IR Tryz.info3;have k:ϡ (prog.info? 3=some D/\D.zero=some (vI 0)/\D.size=1/\D.bytes=8):=⟨hi,ay,az,a0⟩;clear hi ay az a0;obtain⟨m,t,e1,_⟩:=R.l 0 n1;obtain⟨q,z,e2,_⟩:=R.r 0 n2;have an:ϡ (∀w',Ϣ w w'->∀j u,(p.left.map Gz)[j]? =some u->w'.cell? ((⟨m,t,none⟩:Addr).add j)=some u):=λw' A=>by
  have h:=Al R.l A;rw[e1]at h;exact I5 h
 have ao:ϡ (∀w',Ϣ w w'->∀j u,(p.right.map Gz)[j]? =some u->w'.cell? ((⟨q,z,none⟩:Addr).add j)=some u):=λw' A=>by
  have h:=Al R.r A;rw[e2]at h;exact I5 h
 have al:ϡ (ϲ (p.left.map Gz)=ϲ p.left):=lMp ..;have am:ϡ (ϲ (p.right.map Gz)=ϲ p.right):=lMp ..;have ag:ϡ (A5 p=p.left++p.right):=rfl;obtain⟨H,av⟩:=nM (A5 p);rw[av]at ag⊢;clear av R;obtain⟨U,ab,aa,O,E,V,left,right,Z,af,L,J,G⟩:=p;obtain⟨l,B,r,C,X,Y,rk,ae,g,I,a,F⟩:=x;unfold Ai;dsimp only at e1 e2 n1 n2 m1 m2 an ao al am ag⊢;subst e1 e2;obtain⟨d,M⟩:∃n,ϲ left=n:=⟨_,rfl⟩;obtain⟨f,N⟩:∃n,ϲ right=n:=⟨_,rfl⟩;have ap:ϡ (ϲ H=d+f):=by show (ϲ H)=d+f;rw[ag.o,lAp,M,N]
 have H6:=hV0 M;have H7:=hV0 N;rw[M]at n1 m1 al;rw[N]at n2 m2 am;rw[ap.o,M,N];clear M N;go_enter func87,ntmps87;go_wp2;refine aJ (S:=(λw'=>Δ w' w 6 (vS (some ⟨m,t,none⟩) d B)/\Δ w' w 7 (vS (some ⟨q,z,none⟩) f C))) Ϧ ⟨ϧ,ϧ⟩ (λc=>?_);refine tkz 1 4 c ?_;refine tkz 2 5 c ?_;refine tkz 4 7 c ?_;refine tkz 5 8 c ?_;refine rD 0 λK s=>?_;go_simp;refine s.out _ _ ⟨ϧ,ϧ⟩ (λc=>?_);clear s K
 try simp only[Act.put,sI,sZ,sSz]
 have aq:((w.alloc (.cells #[vI U,vI ab,vI aa,vI O,vI E,vI V,vS (some ⟨m,t,none⟩) d B,vS (some ⟨q,z,none⟩) f C,vS X (ϲ Z) Y,vS rk (ϲ af) ae,.bool L,vS g (ϲ J) I,vS a (ϲ G) F] 32)).alloc (.cells #[] 3)).drew.ownsRow w 3 1 (vS (ϋ (w+1)) 0 0) 0 []:=by
  have h:=eF (base:=w.heap.size) (e:=3) (size:=1) (ϊ w #[vI U,vI ab,vI aa,vI O,vI E,vI V,vS (some ⟨m,t,none⟩) d B,vS (some ⟨q,z,none⟩) f C,vS X (ϲ Z) Y,vS rk (ϲ af) ae,.bool L,vS g (ϲ J) I,vS a (ϲ G) F] 32) #[] 0 ϥ (At _) rfl;have h2:=eG h;simpa using h2
 have ai:Ϣ w ((w.alloc (.cells #[vI U,vI ab,vI aa,vI O,vI E,vI V,vS (some ⟨m,t,none⟩) d B,vS (some ⟨q,z,none⟩) f C,vS X (ϲ Z) Y,vS rk (ϲ af) ae,.bool L,vS g (ϲ J) I,vS a (ϲ G) F] 32)).alloc (.cells #[] 3)).drew:=(Ϯ.alloc ϥ _).drew;have ax:((w.alloc (.cells #[vI U,vI ab,vI aa,vI O,vI E,vI V,vS (some ⟨m,t,none⟩) d B,vS (some ⟨q,z,none⟩) f C,vS X (ϲ Z) Y,vS rk (ϲ af) ae,.bool L,vS g (ϲ J) I,vS a (ϲ G) F] 32)).alloc (.cells #[] 3)).drew.heap.size=w.heap.size+2:=ϥ;obtain⟨W,hW⟩:∃x,((w.alloc (.cells #[vI U,vI ab,vI aa,vI O,vI E,vI V,vS (some ⟨m,t,none⟩) d B,vS (some ⟨q,z,none⟩) f C,vS X (ϲ Z) Y,vS rk (ϲ af) ae,.bool L,vS g (ϲ J) I,vS a (ϲ G) F] 32)).alloc (.cells #[] 3)).drew=x:=⟨_,rfl⟩;rw[hW]at aq ai ax c⊢;clear hW;refine rD 3 λK s=>?_;refine step_append_lies W rfl (.tmp 3) (.tmp 5) 29 rfl w.heap.size 3 D (vI 0) 1 8 underlying29 k.o.1 k.o.2.1 k.o.2.2.1 k.o.2.2.2 rfl Ϥ (vS (ϋ (w+1)) 0 0) 0 [] rfl aq ⟨m,t,none⟩ d B (left.map Gz) rfl (by rw[al.o,cQ]) (an.o _ ai) (LM left) n1 ϭ ϣ ϣ (w.heap.size+2) ax ?_;intro g1 a1 w2 aw ah a3 a7;have au:Ϣ w w2:=ai.grown ah ϣ (λb A=>by cases A;simp);have a9:w.heap.size+2<=w2.heap.size:=by have:=ah.size;omega
 have a6:w.heap.size+1<=g1:=by
  rcases a3 with h|h
  ·cases h;simp
  ·omega
 refine s.out _ _ ⟨ah.cell c.1 (λh=>by simp[Value.ownBlock]at h),ah.cell c.2 (λh=>by simp[Value.ownBlock]at h)⟩ (λc=>?_);clear s K
 try simp only[Act.put,sI,sZ,sSz]
 refine rD 6 λK s=>?_;refine step_append_lies w2 rfl (.tmp 6) (.tmp 8) 29 rfl w.heap.size 3 D (vI 0) 1 8 underlying29 k.o.1 k.o.2.1 k.o.2.2.1 k.o.2.2.2 rfl Ϥ (vS (ϋ g1) (0+d) a1) (0+d) ([]++left.map Gz) rfl aw ⟨q,z,none⟩ f C (right.map Gz) rfl (by rw[am.o,cQ]) (ao.o _ au) (LM right) n2 ϭ ϣ ϣ w2.heap.size rfl ?_;intro g2 a2 w3 ak aj a5 a8;have a4:Ϣ w w3:=au.grown aj ϣ (λb A=>by cases A;show w.heap.size<=g1;omega);refine s.out _ _ ⟨aj.cell c.1 (λh=>by simp[Value.ownBlock]at h;omega),aj.cell c.2 (λh=>by simp[Value.ownBlock]at h;omega)⟩ (λc=>?_);clear s K;simp only[Act.put,getElem_toArray,getElem_cons_succ,getElem_cons_zero,sI,sZ,sSz];refine tkz 7 2 c ?_;refine GT Ϧ ?_ _;rw[Fr,JV]at ak;rw[Fr];have HO:ϡ (Cm w3 w.heap.size (vS (ϋ g2) (d+f) a2) H):=by
  show w3.ownsRow _ _ _ _ (ϲ H) (H.map Gz);rw[ap.o,ag.o,DQ];exact ak
 clear ak aw;go_wp2;go_ret;exact⟨⟨_,_,rfl,HO.o⟩,a4⟩
def T8(l:List Int)(k:Nat):(l.take k).Pairwise (· ≠ ·)↔ ∀i j,i<j->j<k->j<ϲ l->l.getD i 0≠l.getD j 0:=by
 rw[aA]
 constructor
 ·intro h i j b e c;have:=h i j (by rw[DA];omega) (by rw[DA];omega) b;rw[bY,bY]at this;rw[Fp ϣ,Fp c];exact this
 ·intro h i j d c b;rw[DA]at d c;have:=h i j b ϣ ϣ;rw[Fp ϣ,Fp ϣ]at this;rw[bY,bY];exact this
def Cu(l:List Int):Bool:=decide (l.Pairwise (· ≠ ·))
def Z3(h:∀i j,i<j->j<ϲ l->l.getD i 0≠l.getD j 0):Cu l=true:=by
 have:=(T8 l (ϲ l)).2 (λi j b c _=>h i j b c);rw[Ok]at this;exact DB this
def AbV{j:Nat}(c:i<j)(b:j<ϲ l)(h:l.getD i 0=l.getD j 0):Cu l=false:=by
 refine BP (λd=>?_);have:=(T8 l (ϲ l)).1 (by rw[Ok];exact d) i j c b b;exact this h
theorem O4(a:Ϡ)(cap:Nat)(l:List Int)(w:ϟ)(M:ϲ l<=ύ)(ha:Au w a l):
 χ 149 #[vS a (ϲ l) cap] w (ψ w (.bool (Cu l))):=by
 obtain⟨n,s⟩:∃n,ϲ l=n:=⟨_,rfl⟩;have g:=hV0 s;rw[s]at M⊢;clear s;go_enter func149,ntmps149;go_wp2
 go_loopw [3,4] (λi _ wr=> ∃k:Nat,k<=n/\i=vI k/\Ϣ w wr/\∀i j,i<j->j<k->l.getD i 0≠l.getD j 0) (λi _ _=>n - (intOf i).toNat)
 case atStart=>exact⟨0,At _,rfl,bR,λi j q d=>absurd d (CA j)⟩
 case round=>
  obtain⟨k,W,rfl,G,D⟩:=hrel;have u:=hV0 D;clear D;by_cases F:k<n
  ·obtain⟨b,o,e,H⟩:=ha k (by rw[g.o];exact F);subst e;have Y:=nn0 k;have Z:(k:Int)<(n:Int):=ϣ;obtain⟨z,t⟩:=nM (l.getD k 0);have C:=hV0 t;rw[t]at H;clear t;go_wp2
   go_loopw [4] (λi R=> ∃m:Nat,m<=k/\i=vI m/\Ϣ w R/\∀i,i<m->l.getD i 0≠z) (λi _=>k - (intOf i).toNat)
   case atStart=>exact⟨0,At _,rfl,G,λi h=>absurd h (CA i)⟩
   case round=>
    obtain⟨m,X,rfl,f,E⟩:=hrel;have A:=hV0 E;clear E;by_cases N:m<k
    ·obtain⟨U,o',J,I⟩:=ha m (by rw[g.o];omega)
     cases J
     have j1:=nn0 m;have j2:(m:Int)<(n:Int):=ϣ;have q1:=cLz f H;have O:=cLz f I;obtain⟨y,hy⟩:∃y,l.getD m 0=y:=⟨_,rfl⟩;have B:=hV0 hy;rw[hy]at O;clear hy I ha;by_cases r:z=y
     ·subst r;have c:ϡ (Cu l=false):=AbV N (by rw[g.o];exact F) (by rw[B.o,C.o]);go_wp2
      go_region
      all_goals
       go_wp2;go_ret;refine⟨Aa c.o.symm,?_⟩
       repeat (first|exact f|apply KD)
     ·have V:(z==y)=false:=by simpa using r
      have c:ϡ (l.getD m 0≠z):=by show l.getD m 0≠z;rw[B.o];exact λh=>r h.symm
      clear r;go_wp2
      go_region
      all_goals
       go_wp2;go_roundw;exact⟨m+1,ϣ,by go_num,by(repeat (first|exact f|apply KD)),λi L=>by
        rcases Fm.1 L with h|h
        ·exact A.o i h
        ·rw[h];exact c.o⟩
       simp[intOf];omega
    ·go_wp2;go_roundw;exact⟨k+1,ϣ,by go_num,f,λi j q d=>by
      rcases Fm.1 d with h|h
      ·exact u.o i j q h
      ·rw[h,C.o];exact A.o i ϣ⟩
     simp[intOf];omega
  ·have c:ϡ (Cu l=true):=Z3 (λi j q d=>u.o i j q (by rw[g.o]at d;omega));go_wp2;go_ret;exact⟨Aa c.o.symm,G⟩
def Qy(p:Pln)(j:Nat):Prop:=(0<=p.lkeys.getD j 0/\p.lkeys.getD j 0<(ϲ p.left:Int))/\(0<=p.rkeys.getD j 0/\p.rkeys.getD j 0<(ϲ p.right:Int))/\p.left.getD (p.lkeys.getD j 0).toNat 0=p.right.getD (p.rkeys.getD j 0).toNat 0
theorem Ae7(h1:p.low<=p.high)(e:ϲ p.lkeys=ϲ p.rkeys)(g:Cu p.lkeys=true)(h:Cu p.rkeys=true)(k:Cu p.group=true)(c:∀j,j<ϲ p.lkeys->Qy p j)
 (f:∀j,j<ϲ p.group->0<=p.group.getD j 0/\p.group.getD j 0<(ϲ (A5 p):Int)) (ha:∀j,j<ϲ p.aggs->CR (A5 p) (p.aggs.getD j (0,0))):Be p:=by
 refine⟨h1,⟨e,⟨?_,Fd g⟩,⟨?_,Fd h⟩,λi b=>(c i b).2.2⟩,⟨?_,Fd k⟩,?_⟩
 ·exact(Fo (d:=0) (Q:=λx:Int=>0<=x/\x<(ϲ p.left:Int))).1 (λi b=>(c i b).1)
 ·exact(Fo (d:=0) (Q:=λx:Int=>0<=x/\x<(ϲ p.right:Int))).1 (λi b=>(c i ϣ).2.1)
 ·exact(Fo (d:=0) (Q:=λx:Int=>0<=x/\x<(ϲ (A5 p):Int))).1 f
 ·exact(Fo (d:=(0,0)) (Q:=λa:Int×Int=>CR (A5 p) a)).1 ha
def Z4(h:Be p):Cu p.lkeys=true/\Cu p.rkeys=true/\Cu p.group=true:=
 ⟨DB h.2.1.2.1.2,DB h.2.1.2.2.1.2,DB h.2.2.1.2⟩
def Agn(h:Be p)(j:Nat)(b:j<ϲ p.lkeys):Qy p j:=by
 obtain⟨f,⟨g,c,d,e⟩,k,m⟩:=h;exact⟨c.1 _ (CS b),d.1 _ (CS ϣ),e j b⟩
def Wm(h:Be p)(j:Nat)(b:j<ϲ p.group):0<=p.group.getD j 0/\p.group.getD j 0<(ϲ (A5 p):Int):=h.2.2.1.1 _ (CS b)
def Wn(h:Be p)(j:Nat)(b:j<ϲ p.aggs):CR (A5 p) (p.aggs.getD j (0,0)):=h.2.2.2 _ (CS b)
def Dl{B:Nat}{a w:ϟ}(h:Below B a w)(q:Nat):Below B a (w.drewN q):=⟨h.os,h.tape,h.output,h.size,h.block⟩
theorem PU(p:Pln)(x:PA)(w:ϟ)(c:wfPlan p)(hp:planAt w p x)(n1:0<ϲ p.left)(n2:0<ϲ p.right)(m1:ϲ p.left<=400)(m2:ϲ p.right<=400):
 χ 88 #[Ai p x] w (ψ w (.bool (!decide (Be p)))):=by
 have M:ϡ (¬Be p->(!decide (Be p))=true):=λh=>by show(!decide (Be p))=true;rw[BP h];rfl
 have HF:ϡ (Be p->(!decide (Be p))=false):=λh=>by show(!decide (Be p))=false;rw[DB h];rfl
 obtain⟨f,cw⟩:=nM (!decide (Be p));rw[cw]at M HF⊢;clear cw;have ai:ϲ (A5 p)=ϲ p.left+ϲ p.right:=by unfold A5;rw[lAp]
 have K1:=hIz (λ(E:ϟ) (V:Ϣ w E)=>O4 x.lk x.lkc p.lkeys E c.lk (Al hp.lk V));have K2:=hIz (λ(E:ϟ) (V:Ϣ w E)=>O4 x.rk x.rkc p.rkeys E c.rk (Al hp.rk V));have K3:=hIz (λ(E:ϟ) (V:Ϣ w E)=>O4 x.g x.gc p.group E c.g (Al hp.g V));have K4:=hIz (λ(E:ϟ) (V:Ϣ w E)=>Gr p x E (Ae hp V) n1 n2 m1 m2);have t:ϡ (p.low<=p.high->ϲ p.lkeys=ϲ p.rkeys->Cu p.lkeys=true->Cu p.rkeys=true->Cu p.group=true->(∀j,j<ϲ p.lkeys->Qy p j)->(∀j,j<ϲ p.group->0<=p.group.getD j 0/\p.group.getD j 0<(ϲ (A5 p):Int))->(∀j,j<ϲ p.aggs->CR (A5 p) (p.aggs.getD j (0,0)))->Be p):=Ae7;have N:ϡ (Be p->Cu p.lkeys=true/\Cu p.rkeys=true/\Cu p.group=true):=Z4;have ae:ϡ (Be p->∀j,j<ϲ p.lkeys->Qy p j):=Agn;have U:ϡ (Be p->∀j,j<ϲ p.group->0<=p.group.getD j 0/\p.group.getD j 0<(ϲ (A5 p):Int)):=Wm;have ak:ϡ (Be p->∀j,j<ϲ p.aggs->CR (A5 p) (p.aggs.getD j (0,0))):=Wn;have af:ϡ (Be p->p.low<=p.high/\(ϲ p.lkeys)=ϲ p.rkeys):=λh=>⟨h.1,h.2.1.1⟩;have aa:ϡ (∀j,Qy p j↔(0<=p.lkeys.getD j 0/\p.lkeys.getD j 0<(ϲ p.left:Int))/\(0<=p.rkeys.getD j 0/\p.rkeys.getD j 0<(ϲ p.right:Int))/\p.left.getD (p.lkeys.getD j 0).toNat 0=p.right.getD (p.rkeys.getD j 0).toNat 0):=λj=>Iff.rfl;have HP:planAt w p x:=hp;obtain⟨G,hG⟩:=nM (Qy p);rw[hG]at t ae aa;obtain⟨FO,ca⟩:=nM (Be p);rw[ca]at M HF t N ae U ak af;obtain⟨q1,cr⟩:=nM (Cu p.lkeys);obtain⟨q2,ct⟩:=nM (Cu p.rkeys);obtain⟨q3,cu⟩:=nM (Cu p.group);rw[cr]at K1 t N;rw[ct]at K2 t N;rw[cu]at K3 t N;obtain⟨u,ck⟩:=nM (A5 p);rw[ck]at K4 t U ak ai;clear hG ca cr ct cu ck hp;obtain⟨bm,bo,bn,bp,bj,bi⟩:=HP;obtain⟨eh,ei,dc,dd,de,df,da,db⟩:=c;obtain⟨em,ep,a5,az,et,en,left,right,dh,di,d3,A,d⟩:=p;obtain⟨l,lc,r,rc,lk,eo,rk,es,g,gc,a,ac⟩:=x;unfold Ai at K4⊢;dsimp only at K1 K2 K3 K4 t N ae U ak af aa ai n1 n2 m1 m2 bm bo bn bp bj bi dc dd de df da db⊢
 have dy:=hV0 bm;have d0:=hV0 bo;have dz:=hV0 bn;have d1:=hV0 bp;have dx:=hV0 bj;have dw:=hV0 bi;clear bm bo bn bp bj bi eh ei;obtain⟨n6,h6⟩:∃n,ϲ left=n:=⟨_,rfl⟩;obtain⟨n7,h7⟩:∃n,ϲ right=n:=⟨_,rfl⟩;obtain⟨L,h8⟩:∃n,ϲ dh=n:=⟨_,rfl⟩;obtain⟨n9,h9⟩:∃n,ϲ di=n:=⟨_,rfl⟩;obtain⟨Y,am⟩:∃n,ϲ A=n:=⟨_,rfl⟩;obtain⟨aj,an⟩:∃n,ϲ d=n:=⟨_,rfl⟩;obtain⟨J,ay⟩:∃n,ϲ u=n:=⟨_,rfl⟩;have H6:=hV0 h6;have H7:=hV0 h7;have H8:=hV0 h8;have H9:=hV0 h9;have dp:=hV0 am;have dq:=hV0 an;have bx:=hV0 ay;rw[h8]at K1 t af ae de;rw[h9]at K2 t af df;rw[am]at K3 t U da;rw[an]at t ak db;rw[ay]at t U ai;rw[h6,h7,h8,h9,am,an,ay]at K4;rw[h6]at n1 m1 aa dc ai;rw[h7]at n2 m2 aa dd ai;rw[h6,h7,h8,h9,am,an];have fd:0<J:=ϣ;have fe:J<=800:=ϣ;clear h6 h7 h8 h9 am an ay ai;by_cases eb:a5<=az
 ·have ed:¬az<a5:=ϣ;by_cases cm:L=n9
  ·subst cm;have d9:((L:Int) !=L)=false:=ϥ
   cases q1
   ·have b:ϡ (f=true):=M.o (λh=>absurd (N.o h).1 Ϥ);go_enter func88,ntmps88;go_wp2_with fail;refine(K1.o _ Ϯ).mono ?_;rintro e E ⟨rfl,ag⟩;go_wp2;go_ret;exact⟨Aa b.o.symm,Ϯ.trans (ag.mono ϥ)⟩
   go_enter func88,ntmps88;go_wp2_with fail;refine(K1.o _ Ϯ).mono ?_;rintro e E ⟨rfl,ag⟩;have bb:=Ϯ.trans (ag.mono ϥ);obtain⟨B,d4⟩:=Cx ag;have F:w.heap.size<E.heap.size:=(by have:=ag.size;simp at this;omega);go_wp2_with fail;refine(K2.o _ bb).mono ?_;rintro e w2 ⟨rfl,au⟩;have ax:=bT bb au;obtain⟨C,d5⟩:=Cx au;have H:w.heap.size<w2.heap.size:=(by have:=au.size;omega)
   cases q2
   ·have b:ϡ (f=true):=M.o (λh=>absurd (N.o h).2.1 Ϥ);go_wp2;go_ret;exact⟨Aa b.o.symm,ax⟩
   go_wp2_with fail;refine(K3.o _ ax).mono ?_;rintro e s ⟨rfl,aw⟩;have cg:=bT ax aw;have fg:w.heap.size<s.heap.size:=(by have:=aw.size;omega);obtain⟨D,d8⟩:=Cx aw
   cases q3
   ·have b:ϡ (f=true):=M.o (λh=>absurd (N.o h).2.2 Ϥ);go_wp2;go_ret;exact⟨Aa b.o.symm,cg⟩
   have s0:Δ s w 0 (vI em):=by rw[D _ _ H,C _ _ F,B _ _ ϥ];go_simp
   have s1:Δ s w 1 (vI ep):=by rw[D _ _ H,C _ _ F,B _ _ ϥ];go_simp
   have s2:Δ s w 2 (vI a5):=by rw[D _ _ H,C _ _ F,B _ _ ϥ];go_simp
   have s3:Δ s w 3 (vI az):=by rw[D _ _ H,C _ _ F,B _ _ ϥ];go_simp
   have s4:Δ s w 4 (vI et):=by rw[D _ _ H,C _ _ F,B _ _ ϥ];go_simp
   have s5:Δ s w 5 (vI en):=by rw[D _ _ H,C _ _ F,B _ _ ϥ];go_simp
   have s6:Δ s w 6 (vS l n6 lc):=by rw[D _ _ H,C _ _ F,B _ _ ϥ];go_simp
   have s7:Δ s w 7 (vS r n7 rc):=by rw[D _ _ H,C _ _ F,B _ _ ϥ];go_simp
   have s8:Δ s w 8 (vS lk L eo):=by rw[D _ _ H,C _ _ F,B _ _ ϥ];go_simp
   have s9:Δ s w 9 (vS rk L es):=by rw[D _ _ H,C _ _ F,B _ _ ϥ];go_simp
   have dj:Δ s w 10 (.bool d3):=by rw[D _ _ H,C _ _ F,B _ _ ϥ];go_simp
   have dl:Δ s w 11 (vS g Y gc):=by rw[D _ _ H,C _ _ F,B _ _ ϥ];go_simp
   have dm:Δ s w 12 (vS a aj ac):=by rw[D _ _ H,C _ _ F,B _ _ ϥ];go_simp
   clear B d4 C d5 D d8 ag au aw bb ax K1 K2 K3 N;have dt:ϡ ((∀j,j<L->G j)->(∀j,j<Y->0<=A.getD j 0/\A.getD j 0<(J:Int))->(∀j,j<aj->CR u (d.getD j (0,0)))->FO):=λh1 h2 h3=>t.o ϫ ϫ ϫ ϫ ϫ h1 h2 h3;clear t;go_wp2
   go_loopw [3,4,5] (λi _ _ wr=> ∃k:Nat,k<=L/\i=vI k/\Ϣ s wr/\∀j,j<k->G j) (λi _ _ _=>L - (intOf i).toNat)
   case atStart=>exact⟨0,At _,rfl,bR,λi hi=>absurd hi (CA i)⟩
   case round=>
    obtain⟨k,hk,rfl,a0,cb⟩:=hrel;have HA:=hV0 cb;clear cb;obtain⟨c0,c1,c2,c3,c4,c5,c6,c7,c8,c9,b0,b4,b5⟩:=Acx a0 s0 s1 s2 s3 s4 s5 s6 s7 s8 s9 dj dl dm;have W:=bT cg a0;have ef:=W.size;by_cases bh:k<L
    ·obtain⟨bk,ok,ek,xk⟩:=dz.o k (by rw[H8.o];exact bh);obtain⟨bq,oq,eq,xq⟩:=d1.o k (by rw[H9.o];exact bh);subst ek eq;have yk:=cLz W xk;have yq:=cLz W xq;have i1:=nn0 k;have i2:(k:Int)<(L:Int):=ϣ;have ab:=aa.o k;obtain⟨av,cf⟩:=nM (dh.getD k 0);obtain⟨bv,cj⟩:=nM (di.getD k 0);rw[cf]at yk ab;rw[cj]at yq ab;have Z:ϡ (G k↔(0<=av/\av<(n6:Int))/\(0<=bv/\bv<(n7:Int))/\left.getD av.toNat 0=right.getD bv.toNat 0):=ab;have a7:ϡ (¬G k->f=true):=λh=>M.o (λhf=>h (ae.o hf k bh));clear cf cj ab xk xq;go_wp2
     go_quiet (fail)
     have cq:=Dl a0 nq;have ah:=Dl W nq;have ej:(wr.drewN nq).heap.size=wr.heap.size:=rfl;obtain⟨wq,a4⟩:∃x,wr.drewN nq=x:=⟨_,rfl⟩;have d6:Δ wq w 6 (vS l n6 lc):=by rw[<-a4];exact c6
     have d7:Δ wq w 7 (vS r n7 rc):=by rw[<-a4];exact c7
     rw[a4]at cq ah ej⊢;clear a4
     cases pa:A8 av 0 ((n6:Int) - 1)with
     |false=>
      have b:ϡ (f=true):=a7.o (λh=>(CC _ _ _).1 pa ⟨(Z.o.1 h).1.1,by have:=(Z.o.1 h).1.2;omega⟩);go_wp2
      go_quiet (
       (go_at_call 83;exact eH (An _ _ _ _))
       )
      go_wp2;go_ret;exact⟨Aa b.o.symm,Dl ah _⟩
     |true=>
      cases pb:A8 bv 0 ((n7:Int) - 1)with
      |false=>
       have b:ϡ (f=true):=a7.o (λh=>(CC _ _ _).1 pb ⟨(Z.o.1 h).2.1.1,by have:=(Z.o.1 h).2.1.2;omega⟩);go_wp2
       go_quiet (
        (go_at_call 83;exact eH (An _ _ _ _))
        )
       go_wp2;go_ret;exact⟨Aa b.o.symm,Dl ah _⟩
      |true=>
       obtain⟨a1,a2⟩:=(Bg _ _ _).1 pa;obtain⟨b1,b2⟩:=(Bg _ _ _).1 pb;obtain⟨ma,rfl⟩:=SK a1;obtain⟨mb,rfl⟩:=SK b1;obtain⟨bl,ol,el,xl⟩:=dy.o ma (by rw[H6.o];omega);obtain⟨br,fi,er,xr⟩:=d0.o mb (by rw[H7.o];omega);subst el er;have yl:=cLz ah xl;have yr:=cLz ah xr;have aq:ϡ (G k↔left.getD ma 0=right.getD mb 0):=by
        show G k↔_;rw[Z.o,SM,SM]
        constructor
        ·exact λh=>h.2.2
        ·exact λh=>⟨⟨ϣ,ϣ⟩,⟨ϣ,ϣ⟩,h⟩
       obtain⟨vl,cy⟩:=nM (left.getD ma 0);obtain⟨vr,cz⟩:=nM (right.getD mb 0);rw[cy]at yl aq;rw[cz]at yr aq;have a3:(ma:Int)<(n6:Int):=ϣ;have b3:(mb:Int)<(n7:Int):=ϣ;clear cy cz xl xr Z;by_cases he:vl=vr
       ·have ab:ϡ (G k):=aq.o.2 he;have ee:(vl !=vr)=false:=by simpa using he
        clear he;go_wp2
        go_quiet (
         (go_at_call 83;exact eH (An _ _ _ _))
         )
        go_wp2;go_roundw;exact⟨k+1,ϣ,by go_num,Dl cq _,λj R=>by
         rcases Fm.1 R with h|h
         ·exact HA.o j h
         ·rw[h];exact ab.o⟩
        simp[intOf];omega
       ·have b:ϡ (f=true):=a7.o (λh=>he (aq.o.1 h));have ee:(vl !=vr)=true:=by simpa using he
        clear he;go_wp2
        go_quiet (
         (go_at_call 83;exact eH (An _ _ _ _))
         )
        go_wp2;go_ret;exact⟨Aa b.o.symm,Dl ah _⟩
    ·have ds:ϡ (∀j,j<L->G j):=λj R=>HA.o j ϣ;clear ae aa HA;go_wp2_with fail;refine(K4.o _ W).mono ?_;rintro e w4 ⟨⟨ad,ew,rfl,ho⟩,a9⟩;have bz:ϡ (Au w4 ad u):=(Eg ho).1;have ci:=bT W a9;obtain⟨e0,e1,e2,e3,e4,e5,e6,e7,e8,e9,b6,b7,b8⟩:=Acx a9 c0 c1 c2 c3 c4 c5 c6 c7 c8 c9 b0 b4 b5;clear ho a9 a0 W ef K4 c0 c1 c2 c3 c4 c5 c6 c7 c8 c9 b0 b4 b5 s0 s1 s2 s3 s4 s5 s6 s7 s8 s9 dj dl dm;go_wp2
     go_loopw [7] (λi eu=> ∃m:Nat,m<=Y/\i=vI m/\Ϣ w4 eu/\∀j,j<m->0<=A.getD j 0/\A.getD j 0<(J:Int)) (λi _=>Y - (intOf i).toNat)
     case atStart=>exact⟨0,At _,rfl,bR,λi hi=>absurd hi (CA i)⟩
     case round=>
      obtain⟨m,hm,rfl,ao,cc⟩:=hrel;have a6:=hV0 cc;clear cc;obtain⟨ez,fa,d2⟩:=lk3 ao b6 b7 b8;have bd:=bT ci ao;by_cases co:m<Y
      ·obtain⟨bg,og,eg,xg⟩:=dx.o m (by rw[dp.o];exact co);subst eg;have yg:=cLz bd xg;have i1:=nn0 m;have i2:(m:Int)<(Y:Int):=ϣ;have bw:ϡ (¬(0<=A.getD m 0/\A.getD m 0<(J:Int))->f=true):=λh=>M.o (λhf=>h (U.o hf m co));obtain⟨gv,be⟩:=nM (A.getD m 0);have du:=hV0 be;rw[be]at yg bw;clear be xg
       cases pg:A8 gv 0 ((J:Int) - 1)with
       |false=>
        have b:ϡ (f=true):=bw.o (λh=>(CC _ _ _).1 pg ⟨h.1,ϣ⟩);go_wp2_with
         (go_at_call 83;refine(An _ _ _ _).mono ?_;rintro e w' ⟨rfl,c⟩;subst c)
        go_ret;exact⟨Aa b.o.symm,bd⟩
       |true=>
        have HY:ϡ (0<=A.getD m 0/\A.getD m 0<(J:Int)):=by
         show 0<=A.getD m 0/\A.getD m 0<(J:Int);have:=(Bg _ _ _).1 pg;rw[du.o];omega
        go_wp2_with
         (go_at_call 83;refine(An _ _ _ _).mono ?_;rintro e w' ⟨rfl,c⟩;subst c)
        go_roundw;exact⟨m+1,ϣ,by go_num,ao,λj R=>by
         rcases Fm.1 R with h|h
         ·exact a6.o j h
         ·rw[h];exact HY.o⟩
        simp[intOf];omega
      ·have dr:ϡ (∀j,j<Y->0<=A.getD j 0/\A.getD j 0<(J:Int)):=λj R=>a6.o j ϣ;obtain⟨W2,rfl⟩:∃x,x=wr:=⟨_,rfl⟩;have dv:ϡ (Au W2 ad u):=Al bz.o ao;clear a6 U bz ao ci e0 e1 e2 e3 e4 e5 e6 e7 e8 e9 b6 b7 b8;go_wp2
       go_loopw [8,9] (λi _ ev=> ∃m:Nat,m<=aj/\i=vI m/\Ϣ W2 ev/\∀j,j<m->CR u (d.getD j (0,0))) (λi _ _=>aj - (intOf i).toNat)
       case atStart=>exact⟨0,At _,rfl,bR,λi hi=>absurd hi (CA i)⟩
       case round=>
        obtain⟨q,hq,rfl,X,cd⟩:=hrel;have bu:=hV0 cd;clear cd;have fc:=cLz X d2;have O:=bT bd X;have bs:=X.size;by_cases cp:q<aj
        ·obtain⟨ba,oa,ea,xa,xb⟩:=dw.o q (by rw[dq.o];exact cp);subst ea;have ya:=cLz O xa;have yb:=cLz O xb;have i1:=nn0 q;have i2:(q:Int)<(aj:Int):=ϣ;have ap:ϡ (¬CR u (d.getD q (0,0))->f=true):=λh=>M.o (λhf=>h (ak.o hf q cp));have ar:ϡ (CR u (d.getD q (0,0))->∀j,j<q+1->CR u (d.getD j (0,0))):=λh j R=>by
          rcases Fm.1 R with h1|h1
          ·exact bu.o j h1
          ·rw[h1];exact h
         have I:ϡ (CR u (d.getD q (0,0))↔if (d.getD q (0,0)).1=1 then(d.getD q (0,0)).2=0 else(0<=(d.getD q (0,0)).2/\(d.getD q (0,0)).2<(J:Int))/\((d.getD q (0,0)).1=2->u.getD (d.getD q (0,0)).2.toNat 0=2)):=by
          show CR u (d.getD q (0,0))↔_;rw[<-bx.o];exact Iff.rfl
         obtain⟨AO,b9⟩:=nM (CR u (d.getD q (0,0)));rw[b9]at ap ar I;obtain⟨⟨fv,cv⟩,cl⟩:∃z,d.getD q (0,0)=z:=⟨_,rfl⟩;rw[cl]at ya yb I;dsimp only at ya yb I;clear cl b9 xa xb;by_cases f1:fv=1
         ·subst f1;rw[AE rfl]at I;by_cases k0:cv=0
          ·subst k0;have al:ϡ AO:=I.o.2 rfl;go_wp2_with
            (go_at_call 83;refine(An _ _ _ _).mono ?_;rintro e w' ⟨rfl,c⟩;subst c)
           go_roundw;exact⟨q+1,ϣ,by go_num,(X.alloc bs _),ar.o al.o⟩;simp[intOf];omega
          ·have fh:(cv !=0)=true:=by simpa using k0
           have b:ϡ (f=true):=ap.o (λh=>k0 (I.o.1 h));clear k0;go_wp2_with
            (go_at_call 83;refine(An _ _ _ _).mono ?_;rintro e w' ⟨rfl,c⟩;subst c)
           go_ret;exact⟨Aa b.o.symm,O.alloc O.size _⟩
         ·rw[AC f1]at I;have ex:(fv==1)=false:=by simpa using f1
          have ey:(fv !=1)=true:=by simpa using f1
          clear f1
          cases pc:A8 cv 0 ((J:Int) - 1)with
          |false=>
           have b:ϡ (f=true):=ap.o (λh=>(CC _ _ _).1 pc ⟨(I.o.1 h).1.1,by have:=(I.o.1 h).1.2;omega⟩);go_wp2_with
            (go_at_call 83;refine(An _ _ _ _).mono ?_;rintro e w' ⟨rfl,c⟩;subst c)
           go_ret;exact⟨Aa b.o.symm,O.alloc O.size _⟩
          |true=>
           obtain⟨y1,y2⟩:=(Bg _ _ _).1 pc;by_cases f2:fv=2
           ·subst f2;obtain⟨mc,rfl⟩:=SK y1;obtain⟨bc,oc,ec,xc⟩:=dv.o mc (by rw[bx.o];omega);subst ec;have yc:=cLz X xc;have dg:=bLt _ _ yc;have ff:bc<wr.heap.size:=dg;have y3:(mc:Int)<(J:Int):=ϣ;have a8:ϡ (AO↔u.getD mc 0=2):=by
             show AO↔_;rw[I.o,SM];exact⟨λh=>h.2 rfl,λh=>⟨⟨ϣ,ϣ⟩,λ_=>h⟩⟩
            obtain⟨vc,cx⟩:=nM (u.getD mc 0);rw[cx]at yc a8;clear cx xc I dg;by_cases v2:vc=2
            ·subst v2;have al:ϡ AO:=a8.o.2 rfl;go_wp2_with
              (go_at_call 83;refine(An _ _ _ _).mono ?_;rintro e w' ⟨rfl,c⟩;subst c)
             go_roundw;exact⟨q+1,ϣ,by go_num,(X.alloc bs _),ar.o al.o⟩;simp[intOf];omega
            ·have fj:(vc !=2)=true:=by simpa using v2
             have b:ϡ (f=true):=ap.o (λh=>v2 (a8.o.1 h));clear v2;go_wp2_with
              (go_at_call 83;refine(An _ _ _ _).mono ?_;rintro e w' ⟨rfl,c⟩;subst c)
             go_ret;exact⟨Aa b.o.symm,O.alloc O.size _⟩
           ·have fb:(fv==2)=false:=by simpa using f2
            have al:ϡ AO:=I.o.2 ⟨⟨y1,ϣ⟩,λh=>absurd h f2⟩;clear f2;go_wp2_with
             (go_at_call 83;refine(An _ _ _ _).mono ?_;rintro e w' ⟨rfl,c⟩;subst c)
            go_roundw;exact⟨q+1,ϣ,by go_num,(X.alloc bs _),ar.o al.o⟩;simp[intOf];omega
        ·have b:ϡ (f=false):=HF.o (dt.o ds.o dr.o (λj R=>bu.o j ϣ));go_wp2;go_ret;exact⟨Aa b.o.symm,O⟩
  ·have b:ϡ (f=true):=M.o (λh=>cm (af.o h).2);have d9:((L:Int) !=n9)=true:=Ϩ;go_enter func88,ntmps88;go_wp2;go_ret;exact⟨Aa b.o.symm,Ϯ⟩
 ·have b:ϡ (f=true):=M.o (λh=>eb (af.o h).1);have ed:az<a5:=ϣ;go_enter func88,ntmps88;go_wp2;go_ret;exact⟨Aa b.o.symm,Ϯ⟩
theorem CX(p:Pln)(x:PA)(w:ϟ)(hw:wfPlan p)(hp:planAt w p x)(n1:0<ϲ p.left)(n2:0<ϲ p.right)(m1:ϲ p.left<=400)(m2:ϲ p.right<=400):
 χ 73 #[Ai p x] w (ψ w (.bool (decide (Be p)))):=by
 have az:ϲ (A5 p)<=800:=by unfold A5;rw[lAp];omega
 have M:=hIz (λ(H:ϟ) (R:Ϣ w H)=>PQ p x H hw (Ae hp R));have J:=hIz (λ(H:ϟ) (R:Ϣ w H)=>EJ p x H (Ae hp R) n1 n2 m1 m2);have N:=hIz (λW Y (H:ϟ) (R:Ϣ w H)=>FU x.g W x.gc Y (ϲ (A5 p)) p.group H hw.g ϣ (Al hp.g R));have L:=hIz (λW Y (H:ϟ) (R:Ϣ w H) (hi:Au H W (A5 p))=>PR x.a W x.ac Y p.aggs (A5 p) H hw.a ϣ (Cs hp.a R) hi);have I:ϡ (decide (Be p)=(decide (p.low<=p.high)&&decide (Jp p)&&decide (Bj p.group (ϲ (A5 p)))&&decide (Is (A5 p) p.aggs))):=by
  refine(Ex ?_).symm;unfold Be;simp only[G3,Sh,dM];exact Iff.rfl
 obtain⟨q1,ar⟩:=nM (decide (Jp p));obtain⟨q2,au⟩:=nM (decide (Bj p.group (ϲ (A5 p))));obtain⟨q3,av⟩:=nM (decide (Is (A5 p) p.aggs));rw[ar]at M I;rw[au]at N I;rw[av]at L I;obtain⟨cn,ap⟩:=nM (ϲ (A5 p));rw[ap]at J N L;obtain⟨cs,aq⟩:=nM (A5 p);rw[aq]at J L;clear ar au av ap aq az hw hp n1 n2 m1 m2;obtain⟨ag,aj,V,U,an,ah,left,right,bb,bc,aa,ax,aw⟩:=p;obtain⟨l,lc,r,rc,lk,ai,rk,am,g,gc,a,ac⟩:=x;unfold Ai at M J⊢;dsimp only at M J N L I⊢;obtain⟨n6,h6⟩:∃n,ϲ left=n:=⟨_,rfl⟩;obtain⟨n7,h7⟩:∃n,ϲ right=n:=⟨_,rfl⟩;obtain⟨n8,h8⟩:∃n,ϲ bb=n:=⟨_,rfl⟩;obtain⟨n9,h9⟩:∃n,ϲ bc=n:=⟨_,rfl⟩;obtain⟨ak,ab⟩:∃n,ϲ ax=n:=⟨_,rfl⟩;obtain⟨al,ae⟩:∃n,ϲ aw=n:=⟨_,rfl⟩;rw[h6,h7,h8,h9,ab,ae]at M J;rw[ab]at N;rw[ae]at L;rw[h6,h7,h8,h9,ab,ae];clear h6 h7 h8 h9 ab ae;by_cases X:V<=U
 ·have t0:=Mp (x:=V) (y:=U) true (DB X);rw[DB X]at I;clear X
  cases q1
  ·clear J N L;go_enter func73,ntmps73;go_wp2;refine aJ (S:=(λw'=>Ϝ w' w (vI ag) (vI aj) (vI V) (vI U) (vI an) (vI ah) (vS l n6 lc) (vS r n7 rc) (vS lk n8 ai) (vS rk n9 am) (.bool aa) (vS g ak gc) (vS a al ac))) Ϧ ⟨ϧ,ϧ,ϧ,ϧ,ϧ,ϧ,ϧ,ϧ,ϧ,ϧ,ϧ,ϧ,ϧ⟩ (λb=>?_);refine tkz 0 3 b ?_;refine tkz 1 4 b ?_;refine tkz 2 5 b ?_;refine tkz 3 6 b ?_;refine tkz 4 7 b ?_;refine tkz 5 8 b ?_;refine tkz 6 9 b ?_;refine rD 7 λK h=>?_;go_simp;refine(M.o _ (by first|exact Ϯ.drew|exact Ϯ)).mono ?_;rintro e wa ⟨rfl,c⟩;have O:Ϣ w wa:=(by first|exact(Ϯ.drew).trans (c.mono ϥ)|exact Ϯ.trans (c.mono ϥ));go_wp2_with fail;refine h.out _ _ (by obtain⟨j,k,t,u,z,A,B,C,D,E,m,q,s⟩:=b;exact⟨cLz c j,cLz c k,cLz c t,cLz c u,cLz c z,cLz c A,cLz c B,cLz c C,cLz c D,cLz c E,cLz c m,cLz c q,cLz c s⟩) (λb=>?_);clear h K
   try simp only[Act.put,sI,sZ,sSz]
   refine tkz 8 11 b ?_;refine tkz 9 12 b ?_;refine sk 10 13 b ?_;refine sk 11 14 b ?_;refine sk 12 15 b ?_;refine sk 13 16 b ?_;refine sk 14 17 b ?_;refine tkz 15 18 b ?_;refine tkz 16 19 b ?_;refine sk 17 20 b ?_;refine sk 18 21 b ?_;refine sk 19 22 b ?_;refine sk 20 23 b ?_;refine sk 21 24 b ?_;refine tkz 22 25 b ?_;refine tkz 23 2 b ?_;refine GT Ϧ ?_ _;go_wp2;go_ret;exact⟨Aa (by rw[I.o];first|rfl|simp),by first|exact O|exact(Ϯ.drew)|exact Ϯ⟩
  ·cases q2
   ·clear L;go_enter func73,ntmps73;go_wp2;refine aJ (S:=(λw'=>Ϝ w' w (vI ag) (vI aj) (vI V) (vI U) (vI an) (vI ah) (vS l n6 lc) (vS r n7 rc) (vS lk n8 ai) (vS rk n9 am) (.bool aa) (vS g ak gc) (vS a al ac))) Ϧ ⟨ϧ,ϧ,ϧ,ϧ,ϧ,ϧ,ϧ,ϧ,ϧ,ϧ,ϧ,ϧ,ϧ⟩ (λb=>?_);refine tkz 0 3 b ?_;refine tkz 1 4 b ?_;refine tkz 2 5 b ?_;refine tkz 3 6 b ?_;refine tkz 4 7 b ?_;refine tkz 5 8 b ?_;refine tkz 6 9 b ?_;refine rD 7 λK h=>?_;go_simp;refine(M.o _ (by first|exact Ϯ.drew|exact Ϯ)).mono ?_;rintro e wa ⟨rfl,c⟩;have O:Ϣ w wa:=(by first|exact(Ϯ.drew).trans (c.mono ϥ)|exact Ϯ.trans (c.mono ϥ));go_wp2_with fail;refine h.out _ _ (by obtain⟨j,k,t,u,z,A,B,C,D,E,m,q,s⟩:=b;exact⟨cLz c j,cLz c k,cLz c t,cLz c u,cLz c z,cLz c A,cLz c B,cLz c C,cLz c D,cLz c E,cLz c m,cLz c q,cLz c s⟩) (λb=>?_);clear h K
    try simp only[Act.put,sI,sZ,sSz]
    refine tkz 8 11 b ?_;refine tkz 9 12 b ?_;refine tkz 10 13 b ?_;refine tkz 11 14 b ?_;refine tkz 12 15 b ?_;refine rD 13 λK h=>?_;go_simp;refine(J.o _ O).mono ?_;rintro e wb ⟨⟨W,Y,rfl,ho⟩,d⟩;have Z:=bT O d;go_wp2_with fail;refine h.out _ _ (by obtain⟨j,k,t,u,z,A,B,C,D,E,m,q,s⟩:=b;exact⟨cLz d j,cLz d k,cLz d t,cLz d u,cLz d z,cLz d A,cLz d B,cLz d C,cLz d D,cLz d E,cLz d m,cLz d q,cLz d s⟩) (λb=>?_);clear h K
    try simp only[Act.put,sI,sZ,sSz]
    refine rD 14 λK h=>?_;go_simp;refine(N.o _ _ _ Z).mono ?_;rintro e wc ⟨rfl,f⟩;have af:=bT Z f;go_wp2_with fail;refine h.out _ _ (by obtain⟨j,k,t,u,z,A,B,C,D,E,m,q,s⟩:=b;exact⟨cLz f j,cLz f k,cLz f t,cLz f u,cLz f z,cLz f A,cLz f B,cLz f C,cLz f D,cLz f E,cLz f m,cLz f q,cLz f s⟩) (λb=>?_);clear h K
    try simp only[Act.put,sI,sZ,sSz]
    refine tkz 15 18 b ?_;refine tkz 16 19 b ?_;refine sk 17 20 b ?_;refine sk 18 21 b ?_;refine sk 19 22 b ?_;refine sk 20 23 b ?_;refine sk 21 24 b ?_;refine tkz 22 25 b ?_;refine tkz 23 2 b ?_;refine GT Ϧ ?_ _;go_wp2;go_ret;exact⟨Aa (by rw[I.o];first|rfl|simp),by first|exact af|exact(Ϯ.drew)|exact Ϯ⟩
   ·cases q3
    all_goals
     go_enter func73,ntmps73;go_wp2;refine aJ (S:=(λw'=>Ϝ w' w (vI ag) (vI aj) (vI V) (vI U) (vI an) (vI ah) (vS l n6 lc) (vS r n7 rc) (vS lk n8 ai) (vS rk n9 am) (.bool aa) (vS g ak gc) (vS a al ac))) Ϧ ⟨ϧ,ϧ,ϧ,ϧ,ϧ,ϧ,ϧ,ϧ,ϧ,ϧ,ϧ,ϧ,ϧ⟩ (λb=>?_);refine tkz 0 3 b ?_;refine tkz 1 4 b ?_;refine tkz 2 5 b ?_;refine tkz 3 6 b ?_;refine tkz 4 7 b ?_;refine tkz 5 8 b ?_;refine tkz 6 9 b ?_;refine rD 7 λK h=>?_;go_simp;refine(M.o _ (by first|exact Ϯ.drew|exact Ϯ)).mono ?_;rintro e wa ⟨rfl,c⟩;have O:Ϣ w wa:=(by first|exact(Ϯ.drew).trans (c.mono ϥ)|exact Ϯ.trans (c.mono ϥ));go_wp2_with fail;refine h.out _ _ (by obtain⟨j,k,t,u,z,A,B,C,D,E,m,q,s⟩:=b;exact⟨cLz c j,cLz c k,cLz c t,cLz c u,cLz c z,cLz c A,cLz c B,cLz c C,cLz c D,cLz c E,cLz c m,cLz c q,cLz c s⟩) (λb=>?_);clear h K
     try simp only[Act.put,sI,sZ,sSz]
     refine tkz 8 11 b ?_;refine tkz 9 12 b ?_;refine tkz 10 13 b ?_;refine tkz 11 14 b ?_;refine tkz 12 15 b ?_;refine rD 13 λK h=>?_;go_simp;refine(J.o _ O).mono ?_;rintro e wb ⟨⟨W,Y,rfl,ho⟩,d⟩;have Z:=bT O d;go_wp2_with fail;refine h.out _ _ (by obtain⟨j,k,t,u,z,A,B,C,D,E,m,q,s⟩:=b;exact⟨cLz d j,cLz d k,cLz d t,cLz d u,cLz d z,cLz d A,cLz d B,cLz d C,cLz d D,cLz d E,cLz d m,cLz d q,cLz d s⟩) (λb=>?_);clear h K
     try simp only[Act.put,sI,sZ,sSz]
     refine rD 14 λK h=>?_;go_simp;refine(N.o _ _ _ Z).mono ?_;rintro e wc ⟨rfl,f⟩;have af:=bT Z f;go_wp2_with fail;refine h.out _ _ (by obtain⟨j,k,t,u,z,A,B,C,D,E,m,q,s⟩:=b;exact⟨cLz f j,cLz f k,cLz f t,cLz f u,cLz f z,cLz f A,cLz f B,cLz f C,cLz f D,cLz f E,cLz f m,cLz f q,cLz f s⟩) (λb=>?_);clear h K
     try simp only[Act.put,sI,sZ,sSz]
     refine tkz 15 18 b ?_;refine tkz 16 19 b ?_;refine tkz 17 20 b ?_;refine tkz 18 21 b ?_;refine tkz 19 22 b ?_;refine rD 20 λK h=>?_;go_simp;refine(J.o _ af).mono ?_;rintro e wd ⟨⟨bd,be,rfl,ba⟩,F⟩;have ao:=bT af F;go_wp2_with fail;refine h.out _ _ (by obtain⟨j,k,t,u,z,A,B,C,D,E,m,q,s⟩:=b;exact⟨cLz F j,cLz F k,cLz F t,cLz F u,cLz F z,cLz F A,cLz F B,cLz F C,cLz F D,cLz F E,cLz F m,cLz F q,cLz F s⟩) (λb=>?_);clear h K
     try simp only[Act.put,sI,sZ,sSz]
     refine rD 21 λK h=>?_;go_simp;refine(L.o _ _ _ ao (Eg ba).1).mono ?_;rintro e we ⟨rfl,G⟩;have ay:=bT ao G;go_wp2_with fail;refine h.out _ _ (by obtain⟨j,k,t,u,z,A,B,C,D,E,m,q,s⟩:=b;exact⟨cLz G j,cLz G k,cLz G t,cLz G u,cLz G z,cLz G A,cLz G B,cLz G C,cLz G D,cLz G E,cLz G m,cLz G q,cLz G s⟩) (λb=>?_);clear h K
     try simp only[Act.put,sI,sZ,sSz]
     refine tkz 22 25 b ?_;refine tkz 23 2 b ?_;refine GT Ϧ ?_ _;go_wp2;go_ret;exact⟨Aa (by rw[I.o];first|rfl|simp),by first|exact ay|exact(Ϯ.drew)|exact Ϯ⟩
 ·have t0:=Mp (x:=V) (y:=U) false (BP X);rw[BP X]at I;clear X M J N L;go_enter func73,ntmps73;go_wp2;refine aJ (S:=(λw'=>Ϝ w' w (vI ag) (vI aj) (vI V) (vI U) (vI an) (vI ah) (vS l n6 lc) (vS r n7 rc) (vS lk n8 ai) (vS rk n9 am) (.bool aa) (vS g ak gc) (vS a al ac))) Ϧ ⟨ϧ,ϧ,ϧ,ϧ,ϧ,ϧ,ϧ,ϧ,ϧ,ϧ,ϧ,ϧ,ϧ⟩ (λb=>?_);refine tkz 0 3 b ?_;refine tkz 1 4 b ?_;refine tkz 2 5 b ?_;refine tkz 3 6 b ?_;refine tkz 4 7 b ?_;refine tkz 5 8 b ?_;refine sk 6 9 b ?_;refine sk 7 10 b ?_;refine tkz 8 11 b ?_;refine tkz 9 12 b ?_;refine sk 10 13 b ?_;refine sk 11 14 b ?_;refine sk 12 15 b ?_;refine sk 13 16 b ?_;refine sk 14 17 b ?_;refine tkz 15 18 b ?_;refine tkz 16 19 b ?_;refine sk 17 20 b ?_;refine sk 18 21 b ?_;refine sk 19 22 b ?_;refine sk 20 23 b ?_;refine sk 21 24 b ?_;refine tkz 22 25 b ?_;refine tkz 23 2 b ?_;refine GT Ϧ ?_ _;go_wp2;go_ret;exact⟨Aa (by rw[I.o];first|rfl|simp),by first|exact O|exact(Ϯ.drew)|exact Ϯ⟩
def Tq(a b c d e:Bool):Int:=if a=false then 4 else if b=false then 3 else if c=false then 2 else if d=false then 5 else if e=false then 1 else 0
def Mq(p:Pln):Ag p=Tq (decide (Bs p)) (decide (B9 p)) (decide (Cl p)) (decide (CE p)) (decide (Be p)):=by
 unfold Ag Tq;simp only[cP]
def Dm(h:Cl p):(0<ϲ p.left/\(ϲ p.left)<=4)/\(0<ϲ p.right/\(ϲ p.right)<=4)/\(0<ϲ p.lkeys/\(ϲ p.lkeys)<=4)/\(0<ϲ p.rkeys/\(ϲ p.rkeys)<=4)/\(ϲ p.aggs)<=4/\(ϲ p.group)<=8:=by
 obtain⟨⟨c,d,e,f⟩,b⟩:=h;unfold LK at c d e f b;split at b
 ·omega
 ·omega
theorem CY(p:Pln)(x:PA)(w:ϟ)(s:wfPlan p)(q:planAt w p x):
 χ 32 #[Ai p x] w (ψ w (vI (Ag p))):=by
 have j:=hIz (λ(b:ϟ) (d:Ϣ w b)=>Pg p x b (Ae q d) s);have k:=hIz (λ(b:ϟ) (d:Ϣ w b)=>FT p x b);have m:=hIz (λ(b:ϟ) (d:Ϣ w b)=>FR p x b s);have f:ϡ (∀b,Ϣ w b->yes (decide (Cl p)) (CT 72 #[Ai p x] b (ψ b (.bool (decide (CE p)))))):=λb d M=>by
  have ag:=Dm (Fd M);exact Pk p x b (Ae q d) ϣ ϣ ϣ ϣ
 have h:ϡ (∀b,Ϣ w b->yes (decide (Cl p)) (CT 73 #[Ai p x] b (ψ b (.bool (decide (Be p)))))):=λb d M=>by
  have ag:=Dm (Fd M);exact CX p x b s (Ae q d) ϣ ϣ ϣ ϣ
 have c:ϡ (Ag p=Tq (decide (Bs p)) (decide (B9 p)) (decide (Cl p)) (decide (CE p)) (decide (Be p))):=Mq p;obtain⟨q1,U⟩:=nM (decide (Bs p));obtain⟨q2,V⟩:=nM (decide (B9 p));obtain⟨q3,W⟩:=nM (decide (Cl p));obtain⟨q4,X⟩:=nM (decide (CE p));obtain⟨q5,Y⟩:=nM (decide (Be p));rw[U]at j c;rw[V]at k c;rw[W]at m f h c;rw[X]at f c;rw[Y]at h c;clear U V W X Y s q;obtain⟨ah,ak,aj,af,al,ai,left,right,Z,aa,ab,O,N⟩:=p;obtain⟨l,lc,r,rc,lk,a0,rk,a3,g,gc,a,ac⟩:=x;unfold Ai at j k m f h⊢;dsimp only at j k m f h⊢;obtain⟨n6,z⟩:∃n,ϲ left=n:=⟨_,rfl⟩;obtain⟨n7,A⟩:∃n,ϲ right=n:=⟨_,rfl⟩;obtain⟨n8,B⟩:∃n,ϲ Z=n:=⟨_,rfl⟩;obtain⟨n9,C⟩:∃n,ϲ aa=n:=⟨_,rfl⟩;obtain⟨a1,t⟩:∃n,ϲ O=n:=⟨_,rfl⟩;obtain⟨a2,u⟩:∃n,ϲ N=n:=⟨_,rfl⟩;rw[z,A,B,C,t,u]at j k m f h;rw[z,A,B,C,t,u];clear z A B C t u;obtain⟨pe,R⟩:=nM (Ag ⟨ah,ak,aj,af,al,ai,left,right,Z,aa,ab,O,N⟩);rw[R]at c⊢;clear R;go_enter func32,ntmps32;go_wp2_with fail;refine(j.o _ Ϯ).mono ?_;rintro e b ⟨rfl,D⟩;have H:=Ϯ.trans (D.mono ϥ);obtain⟨am,aq⟩:=Cx D;have aw:w.heap.size<b.heap.size:=(by have:=D.size;simp at this;omega)
 cases q1
 ·go_wp2;go_ret;exact⟨Ad c.o.symm,H⟩
 go_wp2_with fail;refine(k.o _ H).mono ?_;rintro e w2 ⟨rfl,E⟩;have I:=bT H E;obtain⟨an,ar⟩:=Cx E;have ax:w.heap.size<w2.heap.size:=(by have:=E.size;omega)
 cases q2
 ·go_wp2;go_ret;exact⟨Ad c.o.symm,I⟩
 go_wp2_with fail;refine(m.o _ I).mono ?_;rintro e w3 ⟨rfl,F⟩;have J:=bT I F;obtain⟨ao,au⟩:=Cx F;have ay:w.heap.size<w3.heap.size:=(by have:=F.size;omega)
 cases q3
 ·go_wp2;go_ret;exact⟨Ad c.o.symm,J⟩
 go_wp2_with fail;refine(f.o _ J rfl).mono ?_;rintro e w4 ⟨rfl,G⟩;have L:=bT J G;obtain⟨ap,av⟩:=Cx G;have az:w.heap.size<w4.heap.size:=(by have:=G.size;omega)
 cases q4
 ·go_wp2;go_ret;exact⟨Ad c.o.symm,L⟩
 go_wp2_with fail;refine(h.o _ L rfl).mono ?_;rintro e w5 ⟨rfl,ad⟩;have ae:=bT L ad
 cases q5
 all_goals
  go_wp2;go_ret;exact⟨Ad c.o.symm,ae⟩
def MQ(p:Pln):Prop:=4<ϲ p.left\/4<ϲ p.right\/4<ϲ p.lkeys\/4<ϲ p.rkeys\/4<ϲ p.aggs\/8<ϲ p.group
def Z5(h:MQ p):¬Cl p:=λb=>by
 have:=Dm b;unfold MQ at h;omega
def AbW(h:MQ p):Ag p=if decide (Bs p)=false then 4 else if decide (B9 p)=false then 3 else 2:=by
 rw[Mq];unfold Tq;rw[BP (Z5 h)];simp
def bare(p:Pln):Pln:={p with aggs:=[]}
def AbX(x:PA):PA:={x with a:=none,ac:=0}
theorem Wo(h:p.grouped=true->∀i,i<ϲ p.aggs->A8 (p.aggs.getD i (0,0)).1 1 4=true):decide (Bs (bare p))=decide (Bs p):=by
 rw[JF,JF];unfold bare;dsimp only;have e:JS []=true:=rfl;rw[e]
 cases hg:p.grouped with
 |false=>rfl
 |true=>rw[U2 (h hg)]
def Z6(b:p.grouped=true)(c:i<ϲ p.aggs)(h:A8 (p.aggs.getD i (0,0)).1 1 4=false):decide (Bs p)=false:=by
 rw[JF,b,Yu c h];simp
theorem Nk(p:Pln)(x:PA)(w:ϟ)(d:wfPlan p)(G:planAt w p x)(H:¬MQ p):
 χ 36 #[Ai p x] w (ψ w (vI (Ag p))):=by
 have t:=hIz (λ(b:ϟ) (m:Ϣ w b)=>Hn p x b (Cs G.a m) d.a);have u:=hIz (λ(b:ϟ) (m:Ϣ w b)=>Jq p x b);have z:=hIz (λ(b:ϟ) (m:Ϣ w b)=>Qc p x b d);have f:ϡ (∀b,Ϣ w b->yes (decide (Cl p)) (CT 87 #[Ai p x] b λe w'=>(∃D L,e= .returned (vS D (ϲ (A5 p)) L)/\Cm w' b.heap.size (vS D (ϲ (A5 p)) L) (A5 p))/\Ϣ b w')):=λb m A=>by
  have am:=Dm (Fd A);exact Gr p x b (Ae G m) ϣ ϣ ϣ ϣ
 have q:ϡ (∀b,Ϣ w b->yes (decide (Cl p)) (CT 88 #[Ai p x] b (ψ b (.bool (!decide (Be p)))))):=λb m A=>by
  have am:=Dm (Fd A);exact PU p x b d (Ae G m) ϣ ϣ ϣ ϣ
 have c:ϡ (Ag p=Tq (decide (Bs p)) (decide (B9 p)) (decide (Cl p)) (decide (CE p)) (decide (Be p))):=Mq p;have C:ϡ (∀i,i<ϲ (A5 p)->A8 ((A5 p).getD i 0) 1 3=false->decide (CE p)=false):=λi hi h=>by rw[MA];exact CK hi h
 have B:ϡ ((∀i,i<ϲ (A5 p)->A8 ((A5 p).getD i 0) 1 3=true)->decide (CE p)=true):=λh=>by rw[MA];exact AA.2 h
 have s:yes (decide (Cl p)) (ϲ (A5 p)<=8):=λA=>by
  have am:=Dm (Fd A);unfold A5;rw[lAp];omega
 obtain⟨q1,ao⟩:=nM (decide (Bs p));obtain⟨q2,ap⟩:=nM (decide (B9 p));obtain⟨q3,aq⟩:=nM (decide (Cl p));obtain⟨q4,ar⟩:=nM (decide (CE p));obtain⟨q5,au⟩:=nM (decide (Be p));rw[ao]at t c;rw[ap]at u c;rw[aq]at z f q c s;rw[ar]at c C B;rw[au]at q c;obtain⟨F,ak⟩:=nM (A5 p);rw[ak]at f C B s;obtain⟨I,an⟩:=nM (Ag p);rw[an]at c⊢;unfold MQ at H;clear ao ap aq ar au d G ak an;obtain⟨bn,br,bq,bh,bu,bo,left,right,a1,a4,a5,ay,ax⟩:=p;obtain⟨l,lc,r,rc,lk,bp,rk,bs,g,gc,a,ac⟩:=x;unfold Ai at t u z f q⊢;dsimp only at t u z f q H⊢;obtain⟨n6,O⟩:∃n,ϲ left=n:=⟨_,rfl⟩;obtain⟨n7,R⟩:∃n,ϲ right=n:=⟨_,rfl⟩;obtain⟨n8,U⟩:∃n,ϲ a1=n:=⟨_,rfl⟩;obtain⟨n9,V⟩:∃n,ϲ a4=n:=⟨_,rfl⟩;obtain⟨a2,M⟩:∃n,ϲ ay=n:=⟨_,rfl⟩;obtain⟨a3,N⟩:∃n,ϲ ax=n:=⟨_,rfl⟩;obtain⟨E,ag⟩:∃n,ϲ F=n:=⟨_,rfl⟩;have av:=hV0 ag;rw[O,R,U,V,M,N]at t u z f q H;rw[ag]at f C B s;rw[O,R,U,V,M,N];have t6:¬(4:Int)<(n6:Int):=ϣ;have t7:¬(4:Int)<(n7:Int):=ϣ;have t8:¬(4:Int)<(n8:Int):=ϣ;have t9:¬(4:Int)<(n9:Int):=ϣ;have bv:¬(8:Int)<(a2:Int):=ϣ;have bw:¬(4:Int)<(a3:Int):=ϣ;clear O R U V M N ag H;go_enter func36,ntmps36;go_wp2_with fail;refine(t.o _ Ϯ).mono ?_;rintro e b ⟨rfl,W⟩;have aa:=Ϯ.trans (W.mono ϥ);obtain⟨a6,bb⟩:=Cx W;have bi:w.heap.size<b.heap.size:=(by have:=W.size;simp at this;omega)
 cases q1
 ·go_wp2;go_ret;exact⟨Ad c.o.symm,aa⟩
 go_wp2_with fail;refine(u.o _ aa).mono ?_;rintro e w2 ⟨rfl,X⟩;have ab:=bT aa X;obtain⟨a7,bd⟩:=Cx X;have bj:w.heap.size<w2.heap.size:=(by have:=X.size;omega)
 cases q2
 ·go_wp2;go_ret;exact⟨Ad c.o.symm,ab⟩
 go_wp2_with fail;refine(z.o _ ab).mono ?_;rintro e w3 ⟨rfl,Y⟩;have ae:=bT ab Y;obtain⟨a8,be⟩:=Cx Y;have bk:w.heap.size<w3.heap.size:=(by have:=Y.size;omega)
 cases q3
 ·go_wp2;go_ret;exact⟨Ad c.o.symm,ae⟩
 go_wp2_with fail;refine(f.o _ ae rfl).mono ?_;rintro e w4 ⟨⟨D,L,rfl,ho⟩,Z⟩;have af:=bT ae Z;have aw:ϡ (Au w4 D F):=(Eg ho).1;obtain⟨a9,bg⟩:=Cx Z;have bm:w.heap.size<w4.heap.size:=(by have:=Z.size;omega);have ba:=s rfl;clear ho s;go_wp2
 go_loop [6] (λi=> ∃k:Nat,k<=E/\i=vI k/\∀j,j<k->A8 (F.getD j 0) 1 3=true) (λi=>E - (intOf i).toNat)
 case atStart=>exact⟨0,At _,rfl,λi hi=>absurd hi (CA i)⟩
 case round=>
  obtain⟨k,hk,rfl,aj⟩:=hrel;have HA:=hV0 aj;clear aj;by_cases al:k<E
  ·obtain⟨bc,oc,ec,xc⟩:=aw.o k (by rw[av.o];exact al);subst ec;have i1:=nn0 k;have i2:(k:Int)<(E:Int):=ϣ;obtain⟨cv,ah⟩:=nM (F.getD k 0);have ai:=hV0 ah;rw[ah]at xc;clear ah
   cases pc:A8 cv 1 3 with
   |true=>
    go_wp2_with
     (go_at_call 83;refine(An _ _ _ _).mono ?_;rintro e w' ⟨rfl,d⟩;subst d)
    go_round
    case rel=>exact⟨k+1,ϣ,by go_num,λj hj=>by
     rcases Fm.1 hj with h|h
     ·exact HA.o j h
     ·rw[h,ai.o];exact pc⟩
    case measure=>simp[intOf];omega
   |false=>
    have J:ϡ (I=5):=by
     show I=5;rw[c.o,C.o k al (by rw[ai.o];exact pc)];rfl
    go_wp2_with
     (go_at_call 83;refine(An _ _ _ _).mono ?_;rintro e w' ⟨rfl,d⟩;subst d)
    go_ret;exact⟨Ad J.o.symm,af⟩
  ·have J:ϡ (I=Tq true true true true q5):=by
    show I=_;rw[c.o,B.o (λj hj=>HA.o j ϣ)]
   go_wp2_with fail;refine(q.o _ af rfl).mono ?_;rintro e w5 ⟨rfl,az⟩;have a0:=bT af az
   cases q5
   all_goals
    go_wp2;go_ret;exact⟨Ad J.o.symm,a0⟩
end pl
namespace gr
variable {P : Program} {ops : Array Oper} {Q : Exit -> Act -> World -> Prop} {S : World -> Prop} {a a' : Act} {w : ϟ} {md : Region.Mode} {fuel : Nat} {listed : Array Bool} {oi : Oper}
def CZ{id:Nat}(N:Nat)(d:ops.size=N)(c:P.follows .mixedOrders=true)(b:S w.drew)
 (h:S w.drew->wpAnyH P .any ops Q S N (Array.replicate N false) a w.drew):(Code.region id ops true).wp P Q a w:=
 aJ c b (by rw[d];exact h)
theorem AgS(i:Nat)(d:Option Tmp)(f:S w)(h:wpAnyH P md ops Q S fuel (listed.setIfInBounds i true) a' w)
 (j:ops[i]? =some oi:=by exact rfl) (b:(Region.noSelect ops&&(Region.free md ops listed i&&(Region.ready md ops listed).contains i))=true:=by kernel_rfl) (g:oi.dst=d:=by exact rfl) (k:Region.wanted oi (yielded ops a.tmps)=false:=by exact rfl) (ha:a.put d undef=a':=by(simp only[Act.put,sI,sZ,sSz];exact rfl))
 (e:∀c a w,Q (.panic c) (a.put oi.dst undef) w->Q (.panic c) a w:=by exact λ_ _ _ h=>h):wpAnyH P md ops Q S (fuel+1) listed a w:=by
 rw[G3,G3]at b;exact aS j b.1 b.2.1 b.2.2 e (dJ ⟨k,rfl⟩) f (by rw[g,ha];exact h)
theorem Qz{v:Value}(i:Nat)(d:Option Tmp)(f:S w)(h:wpAnyH P md ops Q S fuel (listed.setIfInBounds i true) a' w)
 (k:ops[i]? =some oi:=by exact rfl) (b:(Region.noSelect ops&&(Region.free md ops listed i&&(Region.ready md ops listed).contains i))=true:=by kernel_rfl) (j:oi.dst=d:=by exact rfl) (m:Region.wanted oi (yielded ops a.tmps)=true:=by exact rfl) (hy:∀w,S w->(execOp a.eval oi).run P w= .ok (.value v) w:=by(intro w' g;(try dsimp only at g);first|(go_simp;done)|(go_simp;with_reducible rfl))) (ha:a.put d v=a':=by(simp only[Act.put,sI,sZ,sSz];exact rfl))
 (e:∀c a w,Q (.panic c) (a.put oi.dst v) w->Q (.panic c) a w:=by exact λ_ _ _ h=>h):wpAnyH P md ops Q S (fuel+1) listed a w:=by
 rw[G3,G3]at b;exact aS k b.1 b.2.1 b.2.2 e (dK ⟨m,hy⟩) f (by rw[j,ha];exact h)
end gr
namespace jn
variable {P : Program} {a : Act} {w : ϟ} {K : Act -> World -> Prop} {Q : Exit -> Act -> World -> Prop} {l n : Nat} {ops : Array Oper}
theorem AgT{o:Oper}(d:∀c,o.op≠ .defer c)(h:o.wp P a w K Q):o.wpIn (Fence.wide.inRound l) n P a w K Q:=by
 refine⟨λf _=>trivial,?_⟩;rw[Oper.semAt_eq _ _ _ d];unfold Oper.wp at h;generalize (execOp a.eval o).run P w=r at *
 cases r with
 |ok x w'=>
  cases x<;>simp only[Oper.upon,Oper.uponIn]at h⊢ <;>
   first
    |exact h
    |exact⟨λe=>by simp[Fence.wide]at e,Pl l (DM.2 h)⟩
    |exact⟨λe=>by simp[Fence.wide]at e,λc b _=>let ⟨v,w',r,s⟩:=h c b;⟨v,w',r,stepsIn_wide.2 s⟩⟩
    |exact h.elim
 |halt x w'=>cases x<;>simp only[Oper.upon,Oper.uponIn]at h⊢ <;>exact h
theorem Ae8{e:Act->World->Prop}{i:Nat}(g:∀(i:Nat) (o:Oper),ops[i]? =some o->∀c,o.op≠Op.defer c)(j:¬LetsOut Q)(b:∀a w,K a w->e a w)(h:wpOp P ops Q i K a w):wpOpIn (Fence.wide.inRound l) n P ops Q i e a w:=by
 unfold wpOp at h;unfold wpOpIn
 cases ho:ops[i]? with
 |none=>simp only[ho]at h⊢;exact b _ _ h
 |some o=>
  simp only[ho]at h⊢;split
  ·rename_i d;simp only[d,bE]at h;rcases h with h|h
   ·exact Oper.wpIn_mono b (AgT (g i o ho) h)
   ·exact absurd h.2 j
  ·rename_i d;simp only[d]at h;exact⟨λf _=>trivial,b _ _ h⟩
theorem AbY{P:Program}{md:Region.Mode}{ops:Array Oper}{Q:Exit->Act->World->Prop}{l n:Nat}(b:∀(i:Nat) (o:Oper),ops[i]? =some o->∀c,o.op≠Op.defer c)(d:¬LetsOut Q):∀(fuel:Nat) (listed:Array Bool) (a:Act) (w:ϟ),wpAny P md ops Q fuel listed a w->wpAnyIn (Fence.wide.inRound l) n P md ops Q fuel listed a w
 |0,_,_,_,h=>h
 |fuel+1,_,_,_,h=>⟨h.1,λi f=>Ae8 b d (λa' w' e=>AbY b d fuel _ a' w' e) (h.2 i f)⟩
def AbZ{S:World->Prop}{id:Nat}(N:Nat)(g:ops.size=N)(b:P.follows .mixedOrders=true)(j:ops.toList.all (λo=>match o.op with| .defer _=>false|_=>true)=true)(k:¬LetsOut Q)(f:S w.drew)
 (h:S w.drew->wpAnyH P .any ops Q S N (Array.replicate N false) a w.drew):(Code.region id ops true).wpIn (Fence.wide.inRound l) n P Q a w:=by
 refine wpIn_region_any b ?_;rw[g];refine AbY (λi o m c e=>?_) k _ _ _ _ (wpAny_of_held _ _ _ _ (h f));have b:o∈ops.toList:=by
  obtain⟨q,d⟩:=GS.1 m;rw[<-d];simp
 have:=aT.1 j o b;rw[e]at this
 cases this
end jn
namespace cd
variable {o oi : Oper} {v : Value} {a a' : Act} {w w' : ϟ} {fuel : Nat} {listed : Array Bool} {K : Act -> World -> Prop}
def Cg(P:Program)(md:Region.Mode)(ops:Array Oper)(Q:Exit->Act->World->Prop)(S:World->Prop)(T:Nat->Bool):Nat->Array Bool->Act->World->Prop
 |0,listed,a,w=>Region.ready md ops listed=[]/\Q .normal a w
 |fuel+1,listed,a,w=>(Region.ready md ops listed=[]->Q .normal a w)/\∀i∈Region.ready md ops listed,wpOp P ops Q i (λa' w'=>(T i=false->S w')/\Cg P md ops Q S T fuel (listed.setIfInBounds i true) a' w') a w
variable {P : Program} {md : Region.Mode} {ops : Array Oper} {Q : Exit -> Act -> World -> Prop} {S : World -> Prop} {T : Nat -> Bool}
theorem Cg.plain:∀(fuel:Nat) (listed:Array Bool) (a:Act) (w:ϟ),Cg P md ops Q S T fuel listed a w->wpAny P md ops Q fuel listed a w
 |0,_,_,_,h=>h
 |fuel+1,_,_,_,h=>⟨h.1,λi c=>wpOp_mono (λa' w' b=>Cg.plain fuel _ a' w' b.2) (h.2 i c)⟩
theorem Cg.first{q:World->Prop}{i:Nat}(C:ops[i]? =some oi)(L:∀(j:Nat) (o:Oper) r b,ops[j]? =some o->o.op≠ .select r b)
 (R:∀j d,ops[j]? =some d->(∃e∈d.after,Region.binds md e=true/\e.on=i)\/∀w,(T j=false->S w)->q w) (E:∀w,q w->T i=false->S w)
 (O:∀c a w,Q (.panic c) (a.put oi.dst v) w->Q (.panic c) a w):
 ∀(fuel:Nat) (listed:Array Bool) (a:Act) (w:ϟ),
  (∀j d,ops[j]? =some d->j≠i->listed.getD j true=false->(∀e∈d.after,Region.binds md e=true->e.on≠i)->oi.apart ops d=true)->
  i∈Region.ready md ops listed->YieldsIf P ops q oi v a->q w->
  Cg P md ops Q S T fuel (listed.setIfInBounds i true) (a.put oi.dst v) w->Cg P md ops Q S T (fuel+1) listed a w:=by
 intro fuel
 induction fuel with
 |zero=>
  intro listed a w _ m hy s H;refine⟨λh=>(by rw[h]at m;cases m),λj u=>?_⟩;by_cases f:j=i
  ·subst f;exact hy.wpOp C s ⟨E w s,H⟩
  ·have:=ready_mono u f;rw[H.1]at this
   cases this
 |succ fuel ih=>
  intro listed a w F m hy s H;refine⟨λh=>(by rw[h]at m;cases m),λj u=>?_⟩;by_cases f:j=i
  ·subst f;exact hy.wpOp C s ⟨E w s,H⟩
  ·have g:=H.2 j (ready_mono u f);obtain⟨I,d,z,V⟩:=mem_ready.1 u;have J:∀e∈d.after,Region.binds md e=true->e.on≠i:=λe B W Y=>by
    have g:=V e B W;have D:=(mem_ready.1 m).1;rw[Y]at g;rcases RN i listed.size with A|A
    ·simp[A]at D g;rw[D]at g;cases g
    ·simp[bZ A]at g
   have U:∀w,(T j=false->S w)->q w:=(R j d z).resolve_left λ⟨e,B,X,ac⟩=>J e B X ac;have N:=wpOp_putIf z (F j d z f I J) (λr b=>L i oi r b C) (λr b=>L j d r b z) O hy g;have Z:∀k ok,ops[k]? =some ok->k≠i->(listed.setIfInBounds j true).getD k true=false->
    (∀e∈ok.after,Region.binds md e=true->e.on≠i)->oi.apart ops ok=true:=λk ok hk aa M ab=>by
    refine F k ok hk aa ?_ ab;by_cases G:j=k
    ·subst G;exact I
    ·rw[getD_set_ne true G]at M;exact M
   refine wpOp_mono (λa' w' t=>⟨t.2.1,ih (listed.setIfInBounds j true) a' w' Z (ready_mono m (Ne.symm f)) t.1 (U w' t.2.1) ?_⟩) N;rw[Array.setIfInBounds_comm _ _ f];exact t.2.2
def Cg.begin{id:Nat}(N:Nat)(c:ops.size=N)(b:P.follows .mixedOrders=true)(h:Cg P .any ops Q S T N (Array.replicate N false) a w.drew):(Code.region id ops true).wp P Q a w:=
 wp_region_any b (Cg.plain _ _ _ _ (by rw[c];exact h))
theorem Cg.take(i:Nat)(d:Option Tmp)(r:S w)(h:Cg P md ops Q S T fuel (listed.setIfInBounds i true) a' w)
 (f:ops[i]? =some oi:=by exact rfl) (b:((Region.noSelect ops&&(Region.free md ops listed i&&(Region.ready md ops listed).contains i))&&(List.range ops.size).all λj=> !T j||(ops[j]?).all λo=>o.after.any λe=>Region.binds md e&&e.on==i)=true:=by kernel_rfl) (t:oi.dst=d:=by exact rfl) (z:Region.wanted oi (yielded ops a.tmps)=true:=by exact rfl) (hy:∀w,S w->(execOp a.eval oi).run P w= .ok (.value v) w:=by(intro w' s;(try dsimp only at s);first|(go_simp;done)|(go_simp;with_reducible rfl))) (ha:a.put d v=a':=by(simp only[Act.put,sI,sZ,sSz];exact rfl))
 (q:∀c a w,Q (.panic c) (a.put oi.dst v) w->Q (.panic c) a w:=by exact λ_ _ _ h=>h):Cg P md ops Q S T (fuel+1) listed a w:=by
 rw[G3,G3,G3]at b;refine Cg.first f (Region.noSelect_spec b.1.1) (λj A g=>?_) (λw h _=>h) q fuel listed a w (Region.free_spec f b.1.2.1) (by simpa using b.1.2.2) (.inl ⟨z,hy⟩) r (by rw[t,ha];exact h)
 cases hb:T j with
 |false=>exact .inr λw h=>h rfl
 |true=>
  have:=aT.1 b.2 j (mem_range.2 (GS.1 g).1);rw[hb,g]at this;simp only[Bool.not_true,fV,Option.all_some,Array.any_eq_true',G3,UV]at this;obtain⟨e,u,k,m⟩:=this;exact .inl ⟨e,u,k,m⟩
def Cg.step(i:Nat)(d:Region.ready md ops listed=[i])(q:ops[i]? =some o)(m:o.guard=none)(h:∀K:Act->World->Prop,Shut (∀a w,(T i=false->S w)->Cg P md ops Q S T fuel (listed.setIfInBounds i true) a w->K a w)->Oper.wp P o a w K Q):Cg P md ops Q S T (fuel+1) listed a w:=by
 refine⟨λb=>(by rw[d]at b;cases b),λj c=>?_⟩;rw[d]at c;obtain rfl:=M2.1 c;exact wpOp_step q (λe k=>by
  rw[AE (by simp[Region.wanted,m])];exact h e (λa w f g=>k a w ⟨f,g⟩))
theorem Cg.done(b:Region.ready md ops listed=[])(h:Q .normal a w):∀fuel,Cg P md ops Q S T fuel listed a w
 |0=>⟨b,h⟩
 |_+1=>⟨λ_=>h,by rw[b];simp⟩
def Cg.act(d:Option Tmp)(h:Cg P md ops Q S T fuel listed a' w)(b:o.dst=d:=by exact rfl)(ha:a.put d v=a':=by(simp only[Act.put,sI,sZ,sSz];exact rfl)):Cg P md ops Q S T fuel listed (a.put o.dst v) w:=by
 rw[b,ha];exact h
def XV(v:Value)(b:(execOp a.eval o).run P w= .ok (.value v) w')(h:K (a.put o.dst v) w'):Oper.wp P o a w K Q:=by
 unfold Oper.wp;rw[b];exact h
def T9(b:(execOp a.eval o).run P w= .ok .skip w')(h:K (a.put o.dst undef) w'):Oper.wp P o a w K Q:=by
 unfold Oper.wp;rw[b];exact h
def Mr(f:FuncId)(args:Array Value)(g:(execOp a.eval o).run P w= .ok (.enter f args) w){C:Ending->World->Prop}(c:Calls P f args w C)(h:∀e w',C e w'->∃v,e= .returned v/\K (a.put o.dst v) w'):Oper.wp P o a w K Q:=by
 unfold Oper.wp;rw[g];refine c.mono λe w' b=>?_;obtain⟨v,rfl,d⟩:=h e w' b;exact d
end cd
