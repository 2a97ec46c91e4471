import Derived.Test.YtdohnkkbkfhphaaGreatPw10
set_option linter.all false
set_option maxHeartbeats 2000000
open Go.ChangeShapes Go.WideShapes Go.ChangeAt Go.RowKit List
namespace Go.Proofs.YtdohnkkbkfhphaaGreat
open Go.Proofs.Tryz
namespace pl
open vl
variable {l : List Int} {x : Int}
def QT(l:List Int)(x:Int):Int:=if l.findIdx (· ==x)<l.length then((l.findIdx (· ==x):Nat):Int)else -1
theorem AaG{k:Nat}(b:k<l.length)(h:l.getD k 0=x)(d:∀i,i<k->l.getD i 0≠x):QT l x=k:=by
 have e:l.findIdx (· ==x)=k:=by
  rw[findIdx_eq b];refine⟨by simpa[gDe,b]using h,λj c=>?_⟩;have:=d j c;simpa[gDe,show j<l.length by omega]using this
 unfold QT;rw[e,if_pos b]
theorem AaH(d:∀i,i<l.length->l.getD i 0≠x):QT l x= -1:=by
 unfold QT;rw[if_neg];intro h;have c:=findIdx_getElem (w:=h);have b:=d _ h;simp only[gDe,gEe h,Option.getD_some]at b;exact b (by simpa using c)
theorem YD(a:Ϝ)(cap:Nat)(l:List Int)(x:Int)(w:ϛ)(t:l.length<=χ)(ha:AA w a l):
 η 173 #[vS a l.length cap,vI x] w λe u=>e= .returned (vI (QT l x))/\u=w:=by
 obtain⟨n,m⟩:∃n,l.length=n:=⟨_,rfl⟩;have j:=hV0 m;rw[m]at t⊢;clear m;go_enter func173,ntmps173;go_wp2
 go_loop [8] (λi=> ∃k:Nat,k<=n/\i=vI k/\∀i,i<k->l.getD i 0≠x) (λi=>n - (intOf i).toNat)
 case atStart=>exact⟨0,Nat.zero_le _,rfl,λi d=>absurd d (Nat.not_lt_zero i)⟩
 case round=>
  obtain⟨k,B,rfl,r⟩:=hrel;have g:=hV0 r;clear r;by_cases s:k<n
  ·obtain⟨b,o,e,v⟩:=ha k (by rw[j.o];exact s);subst e;clear ha;have C:(0:Int)<=(k:Int):=ϟ;have D:(k:Int)<(n:Int):=ϟ;obtain⟨z,p⟩:=nM (l.getD k 0);have q:=hV0 p;rw[p]at v;clear p;by_cases f:x=z
   ·subst f;have c:ϝ (QT l x=k):=AaG (by rw[j.o];exact s) q.o g.o;go_wp2;go_ret;exact⟨Af c.o.symm,rfl⟩
   ·have A:(x==z)=false:=by simpa using f
    have c:ϝ (l.getD k 0≠x):=by show l.getD k 0≠x;rw[q.o];exact λh=>f h.symm
    clear f;go_wp2
    go_round
    case rel=>exact⟨k+1,ϟ,by go_num,λi d=>by
     rcases Nat.lt_succ_iff_lt_or_eq.1 d with h|h
     ·exact g.o i h
     ·rw[h];exact c.o⟩
    case measure=>simp[intOf];omega
  ·have c:ϝ (QT l x= -1):=AaH (λi d=>g.o i (by rw[j.o]at d;omega));go_wp2;go_ret;exact⟨Af c.o.symm,rfl⟩
theorem Fe(x:Int)(a:Ϝ)(n cap:Nat)(w:ϛ)(d:n<=9223372036854775807):
 η 172 #[vI x,vS a n cap] w λe b=>e= .returned (.bool (A8 x 0 ((n:Int) - 1)))/\b=w:=by
 go_enter func172,ntmps172;go_wp2_with (go_at_call 117;refine(C9 _ _ _ _).mono ?_;rintro e b ⟨rfl,c⟩;subst c);go_ret;exact⟨rfl,rfl⟩
def Oh(l:List Int)(n:Nat)(i:Nat):Bool:=A8 (l.getD i 0) 0 ((n:Int) - 1)&&decide (QT l (l.getD i 0)=i)
theorem E7{i:Nat}(h:i<l.length):l.getD i 0=l[i]:=by simp[gDe,h]
theorem Vi(l:List Int)(n:Nat):decide (Bo l n)=allB l.length (Oh l n):=by
 refine(Ee ?_).symm;rw[Bb];unfold Bo Oh;simp only[Bool.and_eq_true,Bh,decide_eq_true_eq]
 constructor
 ·intro h;refine⟨(E8 (Q:=λx:Int=>0<=x/\x<(n:Int))).1 (λi b=>⟨(h i b).1.1,by have:=(h i b).1.2;omega⟩),?_⟩;rw[pairwise_iff_getElem];intro i j b f m e;have g:=(h i b).2;have c:=(h j f).2;rw[E7 b]at g;rw[E7 f,<-e]at c;omega
 ·intro ⟨g,c⟩ i b;have k:=g _ (D4 (d:=0) b);refine⟨⟨k.1,ϟ⟩,AaG b rfl (λj f=>?_)⟩;rw[pairwise_iff_getElem]at c;rw[E7 b,E7 ϟ];exact c j i ϟ b f
theorem Ack(i:Nat)(f g:Nat)(b s:Ϝ)(j t n:Nat)(l:List Int)(w:ϛ)(k:l.length<=χ)(u:n<=9223372036854775807)(ha:AA w b l)
 (A:Δ w g 0 (vS s n t)) (h1:Δ w f 0 (vS b l.length j)):
 η 171 #[vI i,vI (l.getD i 0),μ g,μ f] w (θ w (.bool (Oh l n i))):=by
 have K:=hIz (λ(q:ϛ) x (h:AA q b l)=>YD b j l x q k h);have c:ϝ (Oh l n i=(A8 (l.getD i 0) 0 ((n:Int) - 1)&&decide (QT l (l.getD i 0)=i))):=rfl;obtain⟨z,p⟩:=nM (l.getD i 0);rw[p]at c⊢;obtain⟨m,o⟩:=nM l.length;rw[o]at K h1;have r:=hV0 ha;clear p o ha k
 cases hb:A8 z 0 ((n:Int) - 1)<;>rw[hb]at c
 all_goals
  go_enter func171,ntmps171;go_wp2_with (first
   |(go_at_call 172;refine(Fe _ _ _ _ _ u).mono ?_;rintro e v ⟨rfl,d⟩;subst d)
   |(go_at_call 173;refine(K.o _ _ r.o).mono ?_;rintro e v ⟨rfl,d⟩;subst d))
  go_ret;exact⟨Ab (by rw[c.o];exact Bool.eq_iff_iff.2 ϡ),bR⟩
theorem Fj(c h:Ϝ)(g j n:Nat)(l:List Int)(w:ϛ)(o:l.length<=χ)(r:n<=9223372036854775807)(ha:AA w c l):
 η 127 #[vS c l.length g,vS h n j] w (θ w (.bool (decide (Bo l n)))):=by
 have K:ϝ (∀d f b,AA b c l->Δ b f 0 (vS h n j)->Δ b d 0 (vS c l.length g)->
  η 123 #[vS c l.length g,.func (.func 171) #[] #[μ f,μ d]] b (θ b (.bool (decide (Bo l n))))):=by
  intro d f b p v u;rw[Vi];exact Ho 171 (enters_of func171 Ϣ rfl) #[μ f,μ d] (Oh l n) c g l b o p (λi A _ k=>Ack i d f c h g j n l A o r (Au p k) (cLz k v) (cLz k u))
 obtain⟨m,q⟩:=nM l.length;rw[q]at K⊢;obtain⟨B,s⟩:=nM (decide (Bo l n));rw[s]at K⊢;have t:=hV0 ha;clear q s ha o r;go_enter func127,ntmps127;go_wp2_with (go_at_call 123;refine(K.o _ _ _ (Au t.o (Ϫ.alloc ϡ _)) ϣ ϣ).mono ?_;rintro e b ⟨rfl,z⟩);go_ret;exact⟨rfl,(Ϫ.alloc ϡ _).trans (z.mono Ϥ)⟩
def yes(b:Bool)(P:Prop):Prop:=b=true->P
def To(p:Pln)(i:Nat):Bool:=decide (p.left.getD (p.lkeys.getD i 0).toNat 0=p.right.getD (p.rkeys.getD i 0).toNat 0)
theorem YE(p:Pln):decide (Gn p)=allB p.lkeys.length (To p):=by
 refine(Ee ?_).symm;rw[Bb];unfold Gn To;simp only[decide_eq_true_eq]
def Acl(w:World)(B:Nat)(p:Pln)(x:PA):Prop:=
 Δ w B 6 (vS x.l p.left.length x.lc)/\Δ w B 7 (vS x.r p.right.length x.rc)/\Δ w B 9 (vS x.rk p.rkeys.length x.rkc)
theorem Acm(i:Nat)(B:Nat)(p:Pln)(x:PA)(w:ϛ)(e:wfPlan p)(F:Acl w B p x)(c:planAt w p x)(v:i<p.lkeys.length)(G:p.lkeys.length=p.rkeys.length)(h1:Bo p.lkeys p.left.length)(o:Bo p.rkeys p.right.length):
 η 170 #[vI i,vI (p.lkeys.getD i 0),μ B] w (θ w (.bool (To p i))):=by
 have b:ϝ (To p i=decide (p.left.getD (p.lkeys.getD i 0).toNat 0=p.right.getD (p.rkeys.getD i 0).toNat 0)):=rfl;obtain⟨j,k,m⟩:=F;have f:=h1.1 _ (D4 (d:=0) v);have g:=o.1 _ (D4 (d:=0) (show i<p.rkeys.length by omega));obtain⟨V,ad,h,O⟩:=c.rk i ϟ;obtain⟨R,t⟩:=nM (p.lkeys.getD i 0);obtain⟨T,u⟩:=nM (p.rkeys.getD i 0);rw[t]at f b⊢;rw[u]at g b O;obtain⟨C,H⟩:=Int.eq_ofNat_of_zero_le f.1;obtain⟨D,I⟩:=Int.eq_ofNat_of_zero_le g.1;subst H I;rw[Int.toNat_natCast,Int.toNat_natCast]at b;obtain⟨bl,ol,el,M⟩:=c.l C ϟ;obtain⟨U,oq,eq,N⟩:=c.r D ϟ;obtain⟨v1,z⟩:=nM (p.left.getD C 0);obtain⟨v2,A⟩:=nM (p.right.getD D 0);rw[z]at M b;rw[A]at N b;rw[el]at j;rw[eq]at k;rw[h]at m;obtain⟨n6,q⟩:∃n,p.left.length=n:=⟨_,rfl⟩;obtain⟨n7,r⟩:∃n,p.right.length=n:=⟨_,rfl⟩;obtain⟨E,s⟩:∃n,p.rkeys.length=n:=⟨_,rfl⟩;have J:=e.l;have K:=e.r;have L:=e.rk;have W:i<E:=ϟ;rw[q]at j f J;rw[r]at k g K;rw[s]at m L;obtain⟨Z,aa⟩:=f;obtain⟨ab,ac⟩:=g;have X:(0:Int)<=(i:Int):=ϟ;have Y:(i:Int)<(E:Int):=ϟ;clear t u z A q r s e c h1 o v G el eq h;go_enter func170,ntmps170;go_wp2
 go_region
 all_goals
  go_wp2;go_ret;refine⟨Ab (by rw[b.o];exact Bool.eq_iff_iff.2 ϡ),?_⟩
  repeat (first|exact bR|apply Below.drew)
theorem O6(p:Pln)(x:PA)(w:ϛ)(f:wfPlan p)(u:planAt w p x):
 η 126 #[Ak p x] w (θ w (.bool (decide (I1 p)))):=by
 have h:=hIz (λ(b:ϛ) (m:Ϟ w b)=>Fj x.lk x.l x.lkc x.lc p.left.length p.lkeys b f.lk f.l (Au u.lk m));have j:=hIz (λ(b:ϛ) (m:Ϟ w b)=>Fj x.rk x.r x.rkc x.rc p.right.length p.rkeys b f.rk f.r (Au u.rk m));have k:ϝ (∀B b,Ϟ w b->p.lkeys.length=p.rkeys.length->Bo p.lkeys p.left.length->Bo p.rkeys p.right.length->Δ b B 6 (vS x.l p.left.length x.lc)->Δ b B 7 (vS x.r p.right.length x.rc)->Δ b B 9 (vS x.rk p.rkeys.length x.rkc)->
  η 123 #[vS x.lk p.lkeys.length x.lkc,.func (.func 170) #[] #[μ B]] b (θ b (.bool (decide (Gn p))))):=by
  intro B b m t W X T U V;rw[YE];exact Ho 170 (enters_of func170 Ϣ rfl) #[μ B] (To p) x.lk x.lkc p.lkeys b f.lk (Au u.lk m)
   (λi J hi d=>Acm i B p x J f ⟨cLz d T,cLz d U,cLz d V⟩ (Aj (Aj u m) d) hi t W X)
 have c:ϝ (decide (I1 p)=(decide (p.lkeys.length=p.rkeys.length)&&decide (Bo p.lkeys p.left.length)&&decide (Bo p.rkeys p.right.length)&&decide (Gn p))):=by
  refine(Ee ?_).symm;unfold I1;simp only[Bool.and_eq_true,decide_eq_true_eq,and_assoc]
 have A:yes (decide (Bo p.lkeys p.left.length)) (Bo p.lkeys p.left.length):=of_decide_eq_true;have C:yes (decide (Bo p.rkeys p.right.length)) (Bo p.rkeys p.right.length):=of_decide_eq_true;obtain⟨q1,M⟩:=nM (decide (Bo p.lkeys p.left.length));obtain⟨q2,N⟩:=nM (decide (Bo p.rkeys p.right.length));obtain⟨q3,O⟩:=nM (decide (Gn p));rw[M]at h c A;rw[N]at j c C;rw[O]at k c;clear M N O f u;obtain⟨P1,K⟩:=nM (Bo p.lkeys p.left.length);obtain⟨P2,L⟩:=nM (Bo p.rkeys p.right.length);rw[K]at k A;rw[L]at k C;clear K L;obtain⟨al,ap,ao,aj,ar,am,left,right,ab,ad,ag,af,ae⟩:=p;obtain⟨l,lc,r,rc,lk,an,rk,aq,g,gc,a,ac⟩:=x;unfold Ak;dsimp only at h j k c⊢;obtain⟨n6,v⟩:∃n,left.length=n:=⟨_,rfl⟩;obtain⟨n7,z⟩:∃n,right.length=n:=⟨_,rfl⟩;obtain⟨o,q⟩:∃n,ab.length=n:=⟨_,rfl⟩;obtain⟨R,s⟩:∃n,ad.length=n:=⟨_,rfl⟩;rw[v,q]at h;rw[z,s]at j;rw[v,z,q,s]at k;rw[q,s]at c;rw[v,z,q,s];clear v z q s;by_cases t:o=R
 ·subst t;have aa:((o:Int)==o)=true:=ϡ;rw[show decide (o=o)=true by simp]at c
  cases q1<;>cases q2<;>cases q3
  all_goals
   go_enter func126,ntmps126;go_wp2_with (first
    |(go_at_call 127;have tk:=h;refine(h.o _ Ϫ).mono ?_;rintro e b ⟨rfl,D⟩;have E:=Ϫ.trans (D.mono ϡ);obtain⟨G,ah⟩:=D3 D;have I:w.heap.size<b.heap.size:=(by have:=D.size;simp at this;omega);clear h)
    |(go_at_call 127;have tk:=j;refine(j.o _ E).mono ?_;rintro e J ⟨rfl,d⟩;have F:=bT E d;obtain⟨H,ai⟩:=D3 d;have ak:w.heap.size<J.heap.size:=(by have:=d.size;omega);clear j)
    |(go_at_call 123;refine(k.o _ _ F ϧ (A rfl) (C rfl) (by rw[H _ _ I,G _ _ ϡ];go_simp) (by rw[H _ _ I,G _ _ ϡ];go_simp) (by rw[H _ _ I,G _ _ ϡ];go_simp)).mono ?_;rintro e w3 ⟨rfl,Y⟩;have Z:=bT F Y))
   go_ret;refine⟨Ab (by rw[c.o];rfl),?_⟩
   first
    |exact Z
    |exact F
    |exact E
 ·have aa:((o:Int)==R)=false:=Ϥ;rw[decide_eq_false t]at c;clear t;go_enter func126,ntmps126;go_wp2;go_ret;exact⟨Ab (by rw[c.o];rfl),Ϫ⟩
def Oi(c:List Int)(a:Int×Int):Bool:=decide (Ed c a)
theorem Acn(i:Int)(B:Nat)(ad:Ϝ)(G:Nat)(c:List Int)(f k:Int)(w:ϛ)(o:c.length<=χ)(t:AA w ad c)(s:Δ w B 0 (vS ad c.length G)):
 η 174 #[vI i,.agg #[vI f,vI k],μ B] w (θ w (.bool (Oi c (f,k)))):=by
 have J:=bLt _ _ s;have b:ϝ (Oi c (f,k)=true↔if f=1 then k=0 else(0<=k/\k<(c.length:Int))/\(f=2->c.getD k.toNat 0=2)):=by show Oi c (f,k)=true↔Ed c (f,k);unfold Oi;exact decide_eq_true_iff
 have D:=hV0 t;obtain⟨n,q⟩:∃n,c.length=n:=⟨_,rfl⟩;have E:=hV0 q;rw[q]at o s b;clear q t;have M:B<w.heap.size:=J;by_cases p:f=1
 ·subst p;rw[if_pos rfl]at b;go_enter func174,ntmps174;go_wp2;go_ret;exact⟨Ab (Bool.eq_iff_iff.2 (by rw[b.o];simp)),Ϫ⟩
 ·have L:(f==1)=false:=by simpa using p
  rw[if_neg p]at b;clear p
  cases hbt:A8 k 0 ((n:Int) - 1)with
  |false=>
   have u:=(CP _ _ _).1 hbt;have g:ϝ (Oi c (f,k)=false):=Bool.eq_false_iff.2 (λh=>u ⟨(b.o.1 h).1.1,by have:=(b.o.1 h).1.2;omega⟩);clear u b;by_cases d:f=2
   ·subst d;go_enter func174,ntmps174;go_wp2_with (go_at_call 172;refine(Fe _ _ _ _ _ o).mono ?_;rintro e r ⟨rfl,j⟩;subst j);go_ret;exact⟨Ab g.o.symm,Ϫ⟩
   ·have I:(f==2)=false:=by simpa using d
    clear d;go_enter func174,ntmps174;go_wp2_with (go_at_call 172;refine(Fe _ _ _ _ _ o).mono ?_;rintro e r ⟨rfl,j⟩;subst j);go_ret;exact⟨Ab g.o.symm,Ϫ⟩
  |true=>
   obtain⟨C,R⟩:=(Bh _ _ _).1 hbt;by_cases d:f=2
   ·subst d;obtain⟨m,rfl⟩:=Int.eq_ofNat_of_zero_le C;obtain⟨F,O,H,A⟩:=D.o m (by rw[E.o];omega);have g:ϝ (Oi c (2,(m:Int))=decide (c.getD m 0=2)):=by
     show Oi c (2,(m:Int))=_;refine Bool.eq_iff_iff.2 ?_;rw[b.o];simp;omega
    subst H;obtain⟨v,z⟩:=nM (c.getD m 0);rw[z]at A g;have K:=bLt _ _ A;have N:F<w.heap.size:=K;clear z b;have T:(m:Int)<(n:Int):=ϟ;go_enter func174,ntmps174;go_wp2_with (go_at_call 172;refine(Fe _ _ _ _ _ o).mono ?_;rintro e r ⟨rfl,j⟩;subst j);go_ret;exact⟨Ab (by rw[g.o];exact Bool.eq_iff_iff.2 ϡ),Ϫ⟩
   ·have I:(f==2)=false:=by simpa using d
    have g:ϝ (Oi c (f,k)=true):=b.o.2 ⟨⟨C,ϟ⟩,λh=>absurd h d⟩;clear d b;go_enter func174,ntmps174;go_wp2_with (go_at_call 172;refine(Fe _ _ _ _ _ o).mono ?_;rintro e r ⟨rfl,j⟩;subst j);go_ret;exact⟨Ab g.o.symm,Ϫ⟩
def Hn(c:List Int)(l:List (Int×Int)):Prop:=∀a∈l,Ed c a
instance(c:List Int)(l:List (Int×Int)):Decidable (Hn c l):=by unfold Hn;infer_instance
theorem AaI(c:List Int)(l:List (Int×Int)):decide (Hn c l)=allB l.length (λi=>Oi c (l.getD i (0,0))):=by
 refine(Ee ?_).symm;rw[Bb];unfold Hn Oi;simp only[decide_eq_true_eq];exact E8 (Q:=λa:Int×Int=>Ed c a)
theorem O7(a ad:Ϝ)(d f:Nat)(l:List (Int×Int))(c:List Int)(w:ϛ)(r:l.length<=χ)(q:c.length<=χ)(ha:EL w a l)(p:AA w ad c):
 η 128 #[vS a l.length d,vS ad c.length f] w (θ w (.bool (decide (Hn c l)))):=by
 have K:ϝ (∀B b,Ϟ w b->Δ b B 0 (vS ad c.length f)->
  η 167 #[vS a l.length d,.func (.func 174) #[] #[μ B]] b (θ b (.bool (decide (Hn c l))))):=by
  intro B b n s;rw[AaI];exact Ld 174 (enters_of func174 Ϣ rfl) #[μ B] (λi=>Oi c (l.getD i (0,0))) a d l b r (DW ha n)
   (λi u v o=>Acn i B ad f c _ _ u q (Au (Au p n) o) (cLz o s))
 obtain⟨m,h⟩:=nM l.length;obtain⟨k,g⟩:=nM c.length;obtain⟨z,j⟩:=nM (decide (Hn c l));rw[h,g,j]at K;rw[h,g,j];clear h g j ha p r q;go_enter func128,ntmps128;go_wp2_with (go_at_call 167;refine(K.o _ _ Ϫ ϣ).mono ?_;rintro e b ⟨rfl,t⟩);go_ret;exact⟨rfl,Ϫ.trans (t.mono ϡ)⟩
end pl
namespace pl
variable {P : Program} {md : Region.Mode} {ops : Array Oper} {Q : Exit -> Act -> World -> Prop} {S : World -> Prop} {fuel : Nat} {listed : Array Bool} {a : Act} {w : ϛ} {oi : Oper} {x y : Int}
theorem Ad2(i:Nat)(d:Option Tmp)(j:ops[i]? =some oi)
 (m:Region.noSelect ops=true) (g:Region.free md ops listed i=true) (k:(Region.ready md ops listed).contains i=true) (b:∀c a w,Q (.panic c) (a.put oi.dst undef) w->Q (.panic c) a w) (f:oi.dst=d)
 (n:Region.wanted oi (yielded ops a.tmps)=false) (e:S w) (h:wpAnyH P md ops Q S fuel (listed.setIfInBounds i true) (a.put d undef) w):wpAnyH P md ops Q S (fuel+1) listed a w:=
 wpAnyH_take j m g k b (Or.inr ⟨n,rfl⟩) e (by rw[f];exact h)
theorem Ad3{v:Value}(i:Nat)(d:Option Tmp)(j:ops[i]? =some oi)
 (m:Region.noSelect ops=true) (g:Region.free md ops listed i=true) (k:(Region.ready md ops listed).contains i=true) (b:∀c a w,Q (.panic c) (a.put oi.dst v) w->Q (.panic c) a w) (f:oi.dst=d)
 (n:Region.wanted oi (yielded ops a.tmps)=true) (hy:∀w,S w->(execOp a.eval oi).run P w= .ok (.value v) w) (e:S w) (h:wpAnyH P md ops Q S fuel (listed.setIfInBounds i true) (a.put d v) w):wpAnyH P md ops Q S (fuel+1) listed a w:=
 wpAnyH_take j m g k b (Or.inl ⟨n,hy⟩) e (by rw[f];exact h)
theorem QU(b:Bool)(h:decide (x<=y)=b):∀t,binOp .leq t (vI x) (vI y)=pure (.bool b):=λt=>by rw[binOp_leq,h]
theorem Adt(b:Bool)(h:(x==y)=b):∀t,binOp .eql t (vI x) (vI y)=pure (.bool b):=λt=>by rw[binOp_eql,h]
theorem Fl(b:Bool)(h:decide (x>y)=b):∀t,binOp .gtr t (vI x) (vI y)=pure (.bool b):=λt=>by rw[binOp_gtr,h]
end pl
end Go.Proofs.YtdohnkkbkfhphaaGreat
