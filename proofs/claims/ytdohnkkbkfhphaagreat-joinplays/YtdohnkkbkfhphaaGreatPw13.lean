import Derived.Test.YtdohnkkbkfhphaaGreatPw12
set_option linter.all false
set_option maxHeartbeats 16000000
set_option maxRecDepth 100000
open Go.ChangeShapes Go.WideShapes Go.ChangeAt Go.RowKit List
namespace Go.Proofs.YtdohnkkbkfhphaaGreat
open Go.Proofs.Tryz
namespace pl
open vl
variable {l : List Int} {p : Pln}
theorem Ir(p:Pln)(x:PA)(w:ϛ):
 η 31 #[Ak p x] w (θ w (.bool (!decide (BH p)))):=by
 have c:ϝ ((!decide (BH p))= !(LZ p&&Ma p&&A8 p.limit 1 64)):=by show(!decide (BH p))=_;rw[Ol]
 have s:ϝ (LZ p=if p.kind=1 then tm.Bc p.low&&tm.Bc p.high else decide (p.low=0)&&decide (p.high=0)):=rfl;have t:ϝ (Ma p=if p.kind=2 then A8 p.size 1 1099511627776 else decide (p.size=0)):=rfl;obtain⟨Q,u⟩:=nM (!decide (BH p));rw[u]at c⊢;rw[s.o,t.o]at c;clear u s t;obtain⟨k,O,q,o,n,K,left,right,N,T,C,B,z⟩:=p;obtain⟨l,J,r,P,L,M,R,S,g,A,a,y⟩:=x;unfold Ak;dsimp only at c⊢;by_cases h:k=1
 ·subst h;rw[if_pos rfl,if_neg Ϡ]at c
  cases j:tm.Bc q<;>rw[j]at c
  ·go_enter func31,ntmps31;go_wp2_with
    (first|(go_at_call 29;refine(Ar _ _ _ _).mono ?_;rintro e d ⟨rfl,b⟩;subst b)|(go_at_call 66;refine(tm.B7 _ _).mono ?_;rintro e d ⟨rfl,b⟩;subst b))
   go_ret;exact⟨Ab (by rw[c.o];first|rfl|simp),Ϫ⟩
  ·cases i:tm.Bc o<;>rw[i]at c
   ·go_enter func31,ntmps31;go_wp2_with
     (first|(go_at_call 29;refine(Ar _ _ _ _).mono ?_;rintro e d ⟨rfl,b⟩;subst b)|(go_at_call 66;refine(tm.B7 _ _).mono ?_;rintro e d ⟨rfl,b⟩;subst b))
    go_ret;exact⟨Ab (by rw[c.o];first|rfl|simp),Ϫ⟩
   ·by_cases f:n=0
    ·subst f;go_enter func31,ntmps31;go_wp2_with
      (first|(go_at_call 29;refine(Ar _ _ _ _).mono ?_;rintro e d ⟨rfl,b⟩;subst b)|(go_at_call 66;refine(tm.B7 _ _).mono ?_;rintro e d ⟨rfl,b⟩;subst b))
     go_ret;exact⟨Ab (by rw[c.o];first|rfl|simp),Ϫ⟩
    ·have v:(n !=0)=true:=by simpa using f
     rw[decide_eq_false f]at c;clear f;go_enter func31,ntmps31;go_wp2_with
      (first|(go_at_call 29;refine(Ar _ _ _ _).mono ?_;rintro e d ⟨rfl,b⟩;subst b)|(go_at_call 66;refine(tm.B7 _ _).mono ?_;rintro e d ⟨rfl,b⟩;subst b))
     go_ret;exact⟨Ab (by rw[c.o];first|rfl|simp),Ϫ⟩
 ·rw[if_neg h]at c;have D:(k==1)=false:=by simpa using h
  have E:(k !=1)=true:=by simpa using h
  by_cases j:q=0
  ·subst j;rw[show decide ((0:Int)=0)=true by decide]at c;by_cases i:o=0
   ·subst i;rw[show decide ((0:Int)=0)=true by decide]at c;by_cases m:k=2
    ·subst m;rw[if_pos rfl]at c
     cases f:A8 n 1 1099511627776<;>rw[f]at c
     all_goals
      go_enter func31,ntmps31;go_wp2_with
       (first|(go_at_call 29;refine(Ar _ _ _ _).mono ?_;rintro e d ⟨rfl,b⟩;subst b)|(go_at_call 66;refine(tm.B7 _ _).mono ?_;rintro e d ⟨rfl,b⟩;subst b))
      go_ret;exact⟨Ab (by rw[c.o];first|rfl|simp),Ϫ⟩
    ·rw[if_neg m]at c;have F:(k==2)=false:=by simpa using m
     have G:(k !=2)=true:=by simpa using m
     clear h m;by_cases f:n=0
     ·subst f;go_enter func31,ntmps31;go_wp2_with
       (first|(go_at_call 29;refine(Ar _ _ _ _).mono ?_;rintro e d ⟨rfl,b⟩;subst b)|(go_at_call 66;refine(tm.B7 _ _).mono ?_;rintro e d ⟨rfl,b⟩;subst b))
      go_ret;exact⟨Ab (by rw[c.o];first|rfl|simp),Ϫ⟩
     ·have v:(n !=0)=true:=by simpa using f
      rw[decide_eq_false f]at c;clear f;go_enter func31,ntmps31;go_wp2_with
       (first|(go_at_call 29;refine(Ar _ _ _ _).mono ?_;rintro e d ⟨rfl,b⟩;subst b)|(go_at_call 66;refine(tm.B7 _ _).mono ?_;rintro e d ⟨rfl,b⟩;subst b))
      go_ret;exact⟨Ab (by rw[c.o];first|rfl|simp),Ϫ⟩
   ·have H:(o !=0)=true:=by simpa using i
    rw[decide_eq_false i]at c;clear i h;go_enter func31,ntmps31;go_wp2_with
     (first|(go_at_call 29;refine(Ar _ _ _ _).mono ?_;rintro e d ⟨rfl,b⟩;subst b)|(go_at_call 66;refine(tm.B7 _ _).mono ?_;rintro e d ⟨rfl,b⟩;subst b))
    go_ret;exact⟨Ab (by rw[c.o];first|rfl|simp),Ϫ⟩
  ·have I:(q !=0)=true:=by simpa using j
   rw[decide_eq_false j]at c;clear j h;go_enter func31,ntmps31;go_wp2_with
    (first|(go_at_call 29;refine(Ar _ _ _ _).mono ?_;rintro e d ⟨rfl,b⟩;subst b)|(go_at_call 66;refine(tm.B7 _ _).mono ?_;rintro e d ⟨rfl,b⟩;subst b))
   go_ret;exact⟨Ab (by rw[c.o];first|rfl|simp),Ϫ⟩
theorem Ou(p:Pln)(x:PA)(w:ϛ)(b:wfPlan p):
 η 32 #[Ak p x] w (θ w (.bool (!decide (Cy p)))):=by
 have c:ϝ ((!decide (Cy p))= !(A8 p.left.length 1 4&&(A8 p.right.length 1 4&&(A8 p.lkeys.length 1 4&&A8 p.rkeys.length 1 4))&&LD p)):=by show(!decide (Cy p))=_;rw[Tr];rfl
 have q:ϝ (LD p=if p.grouped=true then A8 p.aggs.length 1 4&&decide ((p.group.length:Int)<=8 - p.aggs.length)else decide (p.group.length=0)&&decide (p.aggs.length=0)):=rfl;rw[q.o]at c;obtain⟨T,s⟩:=nM (!decide (Cy p));rw[s]at c⊢;have t:=b.g;have u:=b.a;clear s q b;obtain⟨K,Q,P,J,W,M,left,right,A,F,z,y,v⟩:=p;obtain⟨l,L,r,S,N,O,U,V,g,H,a,G⟩:=x;unfold Ak;dsimp only at c t u⊢;obtain⟨B,i⟩:∃n,left.length=n:=⟨_,rfl⟩;obtain⟨C,j⟩:∃n,right.length=n:=⟨_,rfl⟩;obtain⟨D,k⟩:∃n,A.length=n:=⟨_,rfl⟩;obtain⟨E,m⟩:∃n,F.length=n:=⟨_,rfl⟩;obtain⟨R,h⟩:∃n,y.length=n:=⟨_,rfl⟩;obtain⟨o,f⟩:∃n,v.length=n:=⟨_,rfl⟩;rw[i,j,k,m,h,f]at c;rw[h]at t;rw[f]at u;rw[i,j,k,m,h,f];clear i j k m h f
 cases b6:A8 B 1 4<;>rw[b6]at c
 ·go_enter func32,ntmps32;go_wp2_with
   (first|(go_at_call 29;refine(Ar _ _ _ _).mono ?_;rintro e d ⟨rfl,b⟩;subst b)|(go_at_call 66;refine(tm.B7 _ _).mono ?_;rintro e d ⟨rfl,b⟩;subst b))
  go_ret;exact⟨Ab (by rw[c.o];first|rfl|simp),Ϫ⟩
 cases b7:A8 C 1 4<;>rw[b7]at c
 ·go_enter func32,ntmps32;go_wp2_with
   (first|(go_at_call 29;refine(Ar _ _ _ _).mono ?_;rintro e d ⟨rfl,b⟩;subst b)|(go_at_call 66;refine(tm.B7 _ _).mono ?_;rintro e d ⟨rfl,b⟩;subst b))
  go_ret;exact⟨Ab (by rw[c.o];first|rfl|simp),Ϫ⟩
 cases b8:A8 D 1 4<;>rw[b8]at c
 ·go_enter func32,ntmps32;go_wp2_with
   (first|(go_at_call 29;refine(Ar _ _ _ _).mono ?_;rintro e d ⟨rfl,b⟩;subst b)|(go_at_call 66;refine(tm.B7 _ _).mono ?_;rintro e d ⟨rfl,b⟩;subst b))
  go_ret;exact⟨Ab (by rw[c.o];first|rfl|simp),Ϫ⟩
 cases b9:A8 E 1 4<;>rw[b9]at c
 ·go_enter func32,ntmps32;go_wp2_with
   (first|(go_at_call 29;refine(Ar _ _ _ _).mono ?_;rintro e d ⟨rfl,b⟩;subst b)|(go_at_call 66;refine(tm.B7 _ _).mono ?_;rintro e d ⟨rfl,b⟩;subst b))
  go_ret;exact⟨Ab (by rw[c.o];first|rfl|simp),Ϫ⟩
 cases z
 ·rw[if_neg Ϡ]at c;by_cases f:o=0
  ·subst f;go_enter func32,ntmps32;go_wp2_with
    (first|(go_at_call 29;refine(Ar _ _ _ _).mono ?_;rintro e d ⟨rfl,b⟩;subst b)|(go_at_call 66;refine(tm.B7 _ _).mono ?_;rintro e d ⟨rfl,b⟩;subst b))
   go_ret;exact⟨Ab (by rw[c.o];exact Bool.eq_iff_iff.2 (by simp;try omega)),Ϫ⟩
  ·have I:(0:Int)<o:=ϟ;rw[decide_eq_false f,Bool.and_false]at c;clear f;go_enter func32,ntmps32;go_wp2_with
    (first|(go_at_call 29;refine(Ar _ _ _ _).mono ?_;rintro e d ⟨rfl,b⟩;subst b)|(go_at_call 66;refine(tm.B7 _ _).mono ?_;rintro e d ⟨rfl,b⟩;subst b))
   go_ret;exact⟨Ab (by rw[c.o];first|rfl|simp),Ϫ⟩
 ·rw[if_pos rfl]at c
  cases b12:A8 o 1 4<;>rw[b12]at c
  ·go_enter func32,ntmps32;go_wp2_with
    (first|(go_at_call 29;refine(Ar _ _ _ _).mono ?_;rintro e d ⟨rfl,b⟩;subst b)|(go_at_call 66;refine(tm.B7 _ _).mono ?_;rintro e d ⟨rfl,b⟩;subst b))
   go_ret;exact⟨Ab (by rw[c.o];first|rfl|simp),Ϫ⟩
  ·obtain⟨u1,u2⟩:=(Bh _ _ _).1 b12;go_enter func32,ntmps32;go_wp2_with
    (first|(go_at_call 29;refine(Ar _ _ _ _).mono ?_;rintro e d ⟨rfl,b⟩;subst b)|(go_at_call 66;refine(tm.B7 _ _).mono ?_;rintro e d ⟨rfl,b⟩;subst b))
   go_ret;exact⟨Ab (by rw[c.o];exact Bool.eq_iff_iff.2 (by simp;try omega)),Ϫ⟩
theorem N0(p:Pln)(x:PA)(w:ϛ)(M:planAt w p x)(n1:0<p.left.length)(n2:0<p.right.length)(m1:p.left.length<=400)(m2:p.right.length<=400):
 η 33 #[Ak p x] w λe d=>(∃ad am,e= .returned (vS ad (BJ p).length am)/\Dm d w.heap.size (vS ad (BJ p).length am) (BJ p))/\Ϟ w d:=by
 obtain⟨A,hi,ar,au,av⟩:=info_parts Tryz.info3;have k:ϝ (Tryz.prog.info? 3=some A/\A.zero=some (vI 0)/\A.size=1/\A.bytes=8):=⟨hi,ar,au,av⟩;clear hi ar au av;obtain⟨m,s,e1,_⟩:=M.l 0 n1;obtain⟨o,t,e2,_⟩:=M.r 0 n2;have ai:ϝ (∀d,Ϟ w d->∀j u,(p.left.map FY)[j]? =some u->d.cell? ((⟨m,s,none⟩:Addr).add j)=some u):=λd v=>by
  have h:=Au M.l v;rw[e1]at h;exact Hp h
 have aj:ϝ (∀d,Ϟ w d->∀j u,(p.right.map FY)[j]? =some u->d.cell? ((⟨o,t,none⟩:Addr).add j)=some u):=λd v=>by
  have h:=Au M.r v;rw[e2]at h;exact Hp h
 have ag:ϝ ((p.left.map FY).length=p.left.length):=lMp ..;have ah:ϝ ((p.right.map FY).length=p.right.length):=lMp ..;have Z:ϝ (BJ p=p.left++p.right):=rfl;obtain⟨E,ao⟩:=nM (BJ p);rw[ao]at Z⊢;clear ao M;obtain⟨N,U,T,L,B,O,left,right,R,Y,H,G,D⟩:=p;obtain⟨l,y,r,z,P,Q,V,X,g,F,a,C⟩:=x;unfold Ak;dsimp only at e1 e2 n1 n2 m1 m2 ai aj ag ah Z⊢;subst e1 e2;obtain⟨f,I⟩:∃n,left.length=n:=⟨_,rfl⟩;obtain⟨i,J⟩:∃n,right.length=n:=⟨_,rfl⟩;have ak:ϝ (E.length=f+i):=by show E.length=f+i;rw[Z.o,lAp,I,J]
 have H6:=hV0 I;have H7:=hV0 J;rw[I]at n1 m1 ag;rw[J]at n2 m2 ah;rw[ak.o,I,J];clear I J;go_enter func33,ntmps33;go_wp2;refine wp_region_held_drew (S:=(λd=>Δ d w 6 (vS (some ⟨m,s,none⟩) f y)/\Δ d w 7 (vS (some ⟨o,t,none⟩) i z))) Ϣ ⟨ϣ,ϣ⟩ (λc=>?_);refine tkz 1 4 c ?_;refine tkz 2 5 c ?_;refine tkz 4 7 c ?_;refine tkz 5 8 c ?_;refine rD 0 λK q=>?_;go_simp;refine q.out _ _ ⟨ϣ,ϣ⟩ (λc=>?_);clear q K
 try simp only[Act.put,sI,sZ,sSz]
 have al:((w.alloc (.cells #[vI N,vI U,vI T,vI L,vI B,vI O,vS (some ⟨m,s,none⟩) f y,vS (some ⟨o,t,none⟩) i z,vS P R.length Q,vS V Y.length X,.bool H,vS g G.length F,vS a D.length C] 25)).alloc (.cells #[] 3)).drew.ownsRow w 3 1 (vS (τ (w+1)) 0 0) 0 []:=by
  have h:=World.ownsRow_made (base:=w.heap.size) (e:=3) (size:=1) (ξ w #[vI N,vI U,vI T,vI L,vI B,vI O,vS (some ⟨m,s,none⟩) f y,vS (some ⟨o,t,none⟩) i z,vS P R.length Q,vS V Y.length X,.bool H,vS g G.length F,vS a D.length C] 25) #[] 0 ϡ (Nat.zero_le _) rfl;have h2:=World.ownsRow.drew h;simpa using h2
 have ab:Ϟ w ((w.alloc (.cells #[vI N,vI U,vI T,vI L,vI B,vI O,vS (some ⟨m,s,none⟩) f y,vS (some ⟨o,t,none⟩) i z,vS P R.length Q,vS V Y.length X,.bool H,vS g G.length F,vS a D.length C] 25)).alloc (.cells #[] 3)).drew:=(Ϫ.alloc ϡ _).drew;have aq:((w.alloc (.cells #[vI N,vI U,vI T,vI L,vI B,vI O,vS (some ⟨m,s,none⟩) f y,vS (some ⟨o,t,none⟩) i z,vS P R.length Q,vS V Y.length X,.bool H,vS g G.length F,vS a D.length C] 25)).alloc (.cells #[] 3)).drew.heap.size=w.heap.size+2:=ϡ;obtain⟨W,hW⟩:∃x,((w.alloc (.cells #[vI N,vI U,vI T,vI L,vI B,vI O,vS (some ⟨m,s,none⟩) f y,vS (some ⟨o,t,none⟩) i z,vS P R.length Q,vS V Y.length X,.bool H,vS g G.length F,vS a D.length C] 25)).alloc (.cells #[] 3)).drew=x:=⟨_,rfl⟩;rw[hW]at al ab aq c⊢;clear hW;refine rD 3 λK q=>?_;refine step_append_lies W rfl (.tmp 3) (.tmp 5) 22 rfl w.heap.size 3 A (vI 0) 1 8 underlying22 k.o.1 k.o.2.1 k.o.2.2.1 k.o.2.2.2 rfl Ϡ (vS (τ (w+1)) 0 0) 0 [] rfl al ⟨m,s,none⟩ f y (left.map FY) rfl (by rw[ag.o,Nat.mul_one]) (ai.o _ ab) (Lf left) n1 ϩ ϟ ϟ (w.heap.size+2) aq ?_;intro g1 aw w2 ap aa ay a2;have an:Ϟ w w2:=ab.grown aa ϟ (λb v=>by cases v;simp);have a4:w.heap.size+2<=w2.heap.size:=by have:=aa.size;omega
 have a1:w.heap.size+1<=g1:=by
  rcases ay with h|h
  ·cases h;simp
  ·omega
 refine q.out _ _ ⟨aa.cell c.1 (λh=>by simp[Value.ownBlock]at h),aa.cell c.2 (λh=>by simp[Value.ownBlock]at h)⟩ (λc=>?_);clear q K
 try simp only[Act.put,sI,sZ,sSz]
 refine rD 6 λK q=>?_;refine step_append_lies w2 rfl (.tmp 6) (.tmp 8) 22 rfl w.heap.size 3 A (vI 0) 1 8 underlying22 k.o.1 k.o.2.1 k.o.2.2.1 k.o.2.2.2 rfl Ϡ (vS (τ g1) (0+f) aw) (0+f) ([]++left.map FY) rfl ap ⟨o,t,none⟩ i z (right.map FY) rfl (by rw[ah.o,Nat.mul_one]) (aj.o _ an) (Lf right) n2 ϩ ϟ ϟ w2.heap.size rfl ?_;intro g2 ax w3 af ae a0 a3;have az:Ϟ w w3:=an.grown ae ϟ (λb v=>by cases v;show w.heap.size<=g1;omega);refine q.out _ _ ⟨ae.cell c.1 (λh=>by simp[Value.ownBlock]at h;omega),ae.cell c.2 (λh=>by simp[Value.ownBlock]at h;omega)⟩ (λc=>?_);clear q K;simp only[Act.put,getElem_toArray,getElem_cons_succ,getElem_cons_zero,sI,sZ,sSz];refine tkz 7 2 c ?_;refine wpAnyH_done Ϣ ?_ _;rw[Nat.zero_add,nil_append]at af;rw[Nat.zero_add];have HO:ϝ (Dm w3 w.heap.size (vS (τ g2) (f+i) ax) E):=by
  show w3.ownsRow _ _ _ _ E.length (E.map FY);rw[ak.o,Z.o,map_append];exact af
 clear af ap;go_wp2;go_ret;exact⟨⟨_,_,rfl,HO.o⟩,az⟩
theorem So(l:List Int)(k:Nat):(l.take k).Pairwise (· ≠ ·)↔ ∀i j,i<j->j<k->j<l.length->l.getD i 0≠l.getD j 0:=by
 rw[pairwise_iff_getElem]
 constructor
 ·intro h i j a d b;have:=h i j (by rw[length_take];omega) (by rw[length_take];omega) a;rw[getElem_take,getElem_take]at this;rw[E7 ϟ,E7 b];exact this
 ·intro h i j c b a;rw[length_take]at c b;have:=h i j a ϟ ϟ;rw[E7 ϟ,E7 ϟ]at this;rw[getElem_take,getElem_take];exact this
def C5(l:List Int):Bool:=decide (l.Pairwise (· ≠ ·))
theorem XI(h:∀i j,i<j->j<l.length->l.getD i 0≠l.getD j 0):C5 l=true:=by
 have:=(So l l.length).2 (λi j a b _=>h i j a b);rw[take_length]at this;exact decide_eq_true this
theorem ZP{i j:Nat}(b:i<j)(a:j<l.length)(h:l.getD i 0=l.getD j 0):C5 l=false:=by
 refine decide_eq_false (λc=>?_);have:=(So l l.length).1 (by rw[take_length];exact c) i j b a a;exact this h
theorem N2(a:Ϝ)(cap:Nat)(l:List Int)(w:ϛ)(K:l.length<=χ)(ha:AA w a l):
 η 67 #[vS a l.length cap] w (θ w (.bool (C5 l))):=by
 obtain⟨n,s⟩:∃n,l.length=n:=⟨_,rfl⟩;have g:=hV0 s;rw[s]at K⊢;clear s;go_enter func67,ntmps67;go_wp2
 go_loopw [3,4] (λi _ wr=> ∃k:Nat,k<=n/\i=vI k/\Ϟ w wr/\∀i j,i<j->j<k->l.getD i 0≠l.getD j 0) (λi _ _=>n - (intOf i).toNat)
 case atStart=>exact⟨0,Nat.zero_le _,rfl,bR,λi j q d=>absurd d (Nat.not_lt_zero j)⟩
 case round=>
  obtain⟨k,Q,rfl,F,C⟩:=hrel;have v:=hV0 C;clear C;by_cases E:k<n
  ·obtain⟨b,o,e,G⟩:=ha k (by rw[g.o];exact E);subst e;have S:(0:Int)<=(k:Int):=ϟ;have T:(k:Int)<(n:Int):=ϟ;obtain⟨z,u⟩:=nM (l.getD k 0);have B:=hV0 u;rw[u]at G;clear u;go_wp2
   go_loopw [4] (λi N=> ∃m:Nat,m<=k/\i=vI m/\Ϟ w N/\∀i,i<m->l.getD i 0≠z) (λi _=>k - (intOf i).toNat)
   case atStart=>exact⟨0,Nat.zero_le _,rfl,F,λi h=>absurd h (Nat.not_lt_zero i)⟩
   case round=>
    obtain⟨m,R,rfl,f,D⟩:=hrel;have x:=hV0 D;clear D;by_cases L:m<k
    ·obtain⟨O,W,I,H⟩:=ha m (by rw[g.o];omega)
     cases I
     have U:(0:Int)<=(m:Int):=ϟ;have V:(m:Int)<(n:Int):=ϟ;have X:=cLz f G;have M:=cLz f H;obtain⟨y,t⟩:∃y,l.getD m 0=y:=⟨_,rfl⟩;have A:=hV0 t;rw[t]at M;clear t H ha;by_cases r:z=y
     ·subst r;have c:ϝ (C5 l=false):=ZP L (by rw[g.o];exact E) (by rw[A.o,B.o]);go_wp2
      go_region
      all_goals
       go_wp2;go_ret;refine⟨Ab c.o.symm,?_⟩
       repeat (first|exact f|apply Below.drew)
     ·have P:(z==y)=false:=by simpa using r
      have c:ϝ (l.getD m 0≠z):=by show l.getD m 0≠z;rw[A.o];exact λh=>r h.symm
      clear r;go_wp2
      go_region
      all_goals
       go_wp2;go_roundw
       case rel=>exact⟨m+1,ϟ,by go_num,by(repeat (first|exact f|apply Below.drew)),λi J=>by
        rcases Nat.lt_succ_iff_lt_or_eq.1 J with h|h
        ·exact x.o i h
        ·rw[h];exact c.o⟩
       case measure=>simp[intOf];omega
    ·go_wp2;go_roundw
     case rel=>exact⟨k+1,ϟ,by go_num,f,λi j q d=>by
      rcases Nat.lt_succ_iff_lt_or_eq.1 d with h|h
      ·exact v.o i j q h
      ·rw[h,B.o];exact x.o i ϟ⟩
     case measure=>simp[intOf];omega
  ·have c:ϝ (C5 l=true):=XI (λi j q d=>v.o i j q (by rw[g.o]at d;omega));go_wp2;go_ret;exact⟨Ab c.o.symm,F⟩
def Pw(p:Pln)(j:Nat):Prop:=(0<=p.lkeys.getD j 0/\p.lkeys.getD j 0<(p.left.length:Int))/\(0<=p.rkeys.getD j 0/\p.rkeys.getD j 0<(p.right.length:Int))/\p.left.getD (p.lkeys.getD j 0).toNat 0=p.right.getD (p.rkeys.getD j 0).toNat 0
theorem Ab1(h1:p.low<=p.high)(e:p.lkeys.length=p.rkeys.length)(g:C5 p.lkeys=true)(h:C5 p.rkeys=true)(k:C5 p.group=true)(c:∀j,j<p.lkeys.length->Pw p j)
 (f:∀j,j<p.group.length->0<=p.group.getD j 0/\p.group.getD j 0<((BJ p).length:Int)) (ha:∀j,j<p.aggs.length->Ed (BJ p) (p.aggs.getD j (0,0))):Bf p:=by
 refine⟨h1,⟨e,⟨?_,of_decide_eq_true g⟩,⟨?_,of_decide_eq_true h⟩,λi b=>(c i b).2.2⟩,⟨?_,of_decide_eq_true k⟩,?_⟩
 ·exact(E8 (d:=0) (Q:=λx:Int=>0<=x/\x<(p.left.length:Int))).1 (λi b=>(c i b).1)
 ·exact(E8 (d:=0) (Q:=λx:Int=>0<=x/\x<(p.right.length:Int))).1 (λi b=>(c i ϟ).2.1)
 ·exact(E8 (d:=0) (Q:=λx:Int=>0<=x/\x<((BJ p).length:Int))).1 f
 ·exact(E8 (d:=(0,0)) (Q:=λa:Int×Int=>Ed (BJ p) a)).1 ha
theorem XJ(h:Bf p):C5 p.lkeys=true/\C5 p.rkeys=true/\C5 p.group=true:=
 ⟨decide_eq_true h.2.1.2.1.2,decide_eq_true h.2.1.2.2.1.2,decide_eq_true h.2.2.1.2⟩
theorem AcX(h:Bf p)(j:Nat)(a:j<p.lkeys.length):Pw p j:=by
 obtain⟨e,⟨f,b,c,d⟩,g,i⟩:=h;exact⟨b.1 _ (D4 a),c.1 _ (D4 ϟ),d j a⟩
theorem AcY(h:Bf p)(j:Nat)(a:j<p.group.length):0<=p.group.getD j 0/\p.group.getD j 0<((BJ p).length:Int):=h.2.2.1.1 _ (D4 a)
theorem AcZ(h:Bf p)(j:Nat)(a:j<p.aggs.length):Ed (BJ p) (p.aggs.getD j (0,0)):=h.2.2.2 _ (D4 a)
theorem Dz{B:Nat}{a w:ϛ}(h:Below B a w)(q:Nat):Below B a (w.drewN q):=⟨h.os,h.tape,h.output,h.size,h.block⟩
theorem Ov(p:Pln)(x:PA)(w:ϛ)(c:wfPlan p)(hp:planAt w p x)(n1:0<p.left.length)(n2:0<p.right.length)(m1:p.left.length<=400)(m2:p.right.length<=400):
 η 34 #[Ak p x] w (θ w (.bool (!decide (Bf p)))):=by
 have K:ϝ (¬Bf p->(!decide (Bf p))=true):=λh=>by show(!decide (Bf p))=true;rw[decide_eq_false h];rfl
 have HF:ϝ (Bf p->(!decide (Bf p))=false):=λh=>by show(!decide (Bf p))=false;rw[decide_eq_true h];rfl
 obtain⟨o,cm⟩:=nM (!decide (Bf p));rw[cm]at K HF⊢;clear cm;have ae:(BJ p).length=p.left.length+p.right.length:=by unfold BJ;rw[lAp]
 have K1:=hIz (λ(D:ϛ) (P:Ϟ w D)=>N2 x.lk x.lkc p.lkeys D c.lk (Au hp.lk P));have K2:=hIz (λ(D:ϛ) (P:Ϟ w D)=>N2 x.rk x.rkc p.rkeys D c.rk (Au hp.rk P));have K3:=hIz (λ(D:ϛ) (P:Ϟ w D)=>N2 x.g x.gc p.group D c.g (Au hp.g P));have K4:=hIz (λ(D:ϛ) (P:Ϟ w D)=>N0 p x D (Aj hp P) n1 n2 m1 m2);have u:ϝ (p.low<=p.high->p.lkeys.length=p.rkeys.length->C5 p.lkeys=true->C5 p.rkeys=true->C5 p.group=true->(∀j,j<p.lkeys.length->Pw p j)->(∀j,j<p.group.length->0<=p.group.getD j 0/\p.group.getD j 0<((BJ p).length:Int))->(∀j,j<p.aggs.length->Ed (BJ p) (p.aggs.getD j (0,0)))->Bf p):=Ab1;have L:ϝ (Bf p->C5 p.lkeys=true/\C5 p.rkeys=true/\C5 p.group=true):=XJ;have Y:ϝ (Bf p->∀j,j<p.lkeys.length->Pw p j):=AcX;have O:ϝ (Bf p->∀j,j<p.group.length->0<=p.group.getD j 0/\p.group.getD j 0<((BJ p).length:Int)):=AcY;have ag:ϝ (Bf p->∀j,j<p.aggs.length->Ed (BJ p) (p.aggs.getD j (0,0))):=AcZ;have Z:ϝ (Bf p->p.low<=p.high/\p.lkeys.length=p.rkeys.length):=λh=>⟨h.1,h.2.1.1⟩;have W:ϝ (∀j,Pw p j↔(0<=p.lkeys.getD j 0/\p.lkeys.getD j 0<(p.left.length:Int))/\(0<=p.rkeys.getD j 0/\p.rkeys.getD j 0<(p.right.length:Int))/\p.left.getD (p.lkeys.getD j 0).toNat 0=p.right.getD (p.rkeys.getD j 0).toNat 0):=λj=>Iff.rfl;have HP:planAt w p x:=hp;obtain⟨G,hG⟩:=nM (Pw p);rw[hG]at u Y W;obtain⟨FO,b0⟩:=nM (Bf p);rw[b0]at K HF u L Y O ag Z;obtain⟨q1,cj⟩:=nM (C5 p.lkeys);obtain⟨q2,ck⟩:=nM (C5 p.rkeys);obtain⟨q3,cl⟩:=nM (C5 p.group);rw[cj]at K1 u L;rw[ck]at K2 u L;rw[cl]at K3 u L;obtain⟨v,cb⟩:=nM (BJ p);rw[cb]at K4 u O ag ae;clear hG b0 cj ck cl cb hp;obtain⟨a9,bd,bb,be,a8,a7⟩:=HP;obtain⟨d5,d8,cu,cw,cx,cy,cr,ct⟩:=c;obtain⟨eb,ef,aw,ar,ei,ed,left,right,da,db,dw,y,d⟩:=p;obtain⟨l,lc,r,rc,lk,ee,rk,eh,g,gc,a,ac⟩:=x;unfold Ak at K4⊢;dsimp only at K1 K2 K3 K4 u L Y O ag Z W ae n1 n2 m1 m2 a9 bd bb be a8 a7 cu cw cx cy cr ct⊢
 have dr:=hV0 a9;have dt:=hV0 bd;have ds:=hV0 bb;have du:=hV0 be;have dq:=hV0 a8;have dp:=hV0 a7;clear a9 bd bb be a8 a7 d5 d8;obtain⟨n6,h6⟩:∃n,left.length=n:=⟨_,rfl⟩;obtain⟨n7,h7⟩:∃n,right.length=n:=⟨_,rfl⟩;obtain⟨J,h8⟩:∃n,da.length=n:=⟨_,rfl⟩;obtain⟨n9,h9⟩:∃n,db.length=n:=⟨_,rfl⟩;obtain⟨T,ai⟩:∃n,y.length=n:=⟨_,rfl⟩;obtain⟨af,aj⟩:∃n,d.length=n:=⟨_,rfl⟩;obtain⟨I,aq⟩:∃n,v.length=n:=⟨_,rfl⟩;have H6:=hV0 h6;have H7:=hV0 h7;have H8:=hV0 h8;have H9:=hV0 h9;have df:=hV0 ai;have dg:=hV0 aj;have bm:=hV0 aq;rw[h8]at K1 u Z Y cx;rw[h9]at K2 u Z cy;rw[ai]at K3 u O cr;rw[aj]at u ag ct;rw[aq]at u O ae;rw[h6,h7,h8,h9,ai,aj,aq]at K4;rw[h6]at n1 m1 W cu ae;rw[h7]at n2 m2 W cw ae;rw[h6,h7,h8,h9,ai,aj];have ew:0<I:=ϟ;have ex:I<=800:=ϟ;clear h6 h7 h8 h9 ai aj aq ae;by_cases d1:aw<=ar
 ·have d2:¬ar<aw:=ϟ;by_cases cd:J=n9
  ·subst cd;have d0:((J:Int) !=J)=false:=ϡ
   cases q1
   ·have b:ϝ (o=true):=K.o (λh=>absurd (L.o h).1 Ϡ);go_enter func34,ntmps34;go_wp2_with fail;refine(K1.o _ Ϫ).mono ?_;rintro e D ⟨rfl,aa⟩;go_wp2;go_ret;exact⟨Ab b.o.symm,Ϫ.trans (aa.mono ϡ)⟩
   go_enter func34,ntmps34;go_wp2_with fail;refine(K1.o _ Ϫ).mono ?_;rintro e D ⟨rfl,aa⟩;have a0:=Ϫ.trans (aa.mono ϡ);obtain⟨A,dx⟩:=D3 aa;have E:w.heap.size<D.heap.size:=(by have:=aa.size;simp at this;omega);go_wp2_with fail;refine(K2.o _ a0).mono ?_;rintro e w2 ⟨rfl,an⟩;have ap:=bT a0 an;obtain⟨B,dy⟩:=D3 an;have F:w.heap.size<w2.heap.size:=(by have:=an.size;omega)
   cases q2
   ·have b:ϝ (o=true):=K.o (λh=>absurd (L.o h).2.1 Ϡ);go_wp2;go_ret;exact⟨Ab b.o.symm,ap⟩
   go_wp2_with fail;refine(K3.o _ ap).mono ?_;rintro e t ⟨rfl,ao⟩;have b8:=bT ap ao;have ez:w.heap.size<t.heap.size:=(by have:=ao.size;omega);obtain⟨C,dz⟩:=D3 ao
   cases q3
   ·have b:ϝ (o=true):=K.o (λh=>absurd (L.o h).2.2 Ϡ);go_wp2;go_ret;exact⟨Ab b.o.symm,b8⟩
   have s0:Δ t w 0 (vI eb):=by rw[C _ _ F,B _ _ E,A _ _ ϡ];go_simp
   have s1:Δ t w 1 (vI ef):=by rw[C _ _ F,B _ _ E,A _ _ ϡ];go_simp
   have s2:Δ t w 2 (vI aw):=by rw[C _ _ F,B _ _ E,A _ _ ϡ];go_simp
   have s3:Δ t w 3 (vI ar):=by rw[C _ _ F,B _ _ E,A _ _ ϡ];go_simp
   have s4:Δ t w 4 (vI ei):=by rw[C _ _ F,B _ _ E,A _ _ ϡ];go_simp
   have s5:Δ t w 5 (vI ed):=by rw[C _ _ F,B _ _ E,A _ _ ϡ];go_simp
   have s6:Δ t w 6 (vS l n6 lc):=by rw[C _ _ F,B _ _ E,A _ _ ϡ];go_simp
   have s7:Δ t w 7 (vS r n7 rc):=by rw[C _ _ F,B _ _ E,A _ _ ϡ];go_simp
   have s8:Δ t w 8 (vS lk J ee):=by rw[C _ _ F,B _ _ E,A _ _ ϡ];go_simp
   have s9:Δ t w 9 (vS rk J eh):=by rw[C _ _ F,B _ _ E,A _ _ ϡ];go_simp
   have dc:Δ t w 10 (.bool dw):=by rw[C _ _ F,B _ _ E,A _ _ ϡ];go_simp
   have dd:Δ t w 11 (vS g T gc):=by rw[C _ _ F,B _ _ E,A _ _ ϡ];go_simp
   have de:Δ t w 12 (vS a af ac):=by rw[C _ _ F,B _ _ E,A _ _ ϡ];go_simp
   clear A dx B dy C dz aa an ao a0 ap K1 K2 K3 L;have dj:ϝ ((∀j,j<J->G j)->(∀j,j<T->0<=y.getD j 0/\y.getD j 0<(I:Int))->(∀j,j<af->Ed v (d.getD j (0,0)))->FO):=λh1 h2 h3=>u.o ϧ ϧ ϧ ϧ ϧ h1 h2 h3;clear u;go_wp2
   go_loopw [3,4,5] (λi _ _ wr=> ∃k:Nat,k<=J/\i=vI k/\Ϟ t wr/\∀j,j<k->G j) (λi _ _ _=>J - (intOf i).toNat)
   case atStart=>exact⟨0,Nat.zero_le _,rfl,bR,λi hi=>absurd hi (Nat.not_lt_zero i)⟩
   case round=>
    obtain⟨k,hk,rfl,f,b4⟩:=hrel;have HA:=hV0 b4;clear b4;have c0:=cLz f s0;have c1:=cLz f s1;have c2:=cLz f s2;have c3:=cLz f s3;have c4:=cLz f s4;have c5:=cLz f s5;have c6:=cLz f s6;have c7:=cLz f s7;have c8:=cLz f s8;have c9:=cLz f s9;have bo:=cLz f dc;have bp:=cLz f dd;have bs:=cLz f de;have Q:=bT b8 f;have d4:=Q.size;by_cases a6:k<J
    ·obtain⟨bk,ok,ek,xk⟩:=ds.o k (by rw[H8.o];exact a6);obtain⟨bq,oq,eq,xq⟩:=du.o k (by rw[H9.o];exact a6);subst ek eq;have yk:=cLz Q xk;have yq:=cLz Q xq;have i1:(0:Int)<=(k:Int):=ϟ;have i2:(k:Int)<(J:Int):=ϟ;have X:=W.o k;obtain⟨av,b7⟩:=nM (da.getD k 0);obtain⟨bv,ca⟩:=nM (db.getD k 0);rw[b7]at yk X;rw[ca]at yq X;have V:ϝ (G k↔(0<=av/\av<(n6:Int))/\(0<=bv/\bv<(n7:Int))/\left.getD av.toNat 0=right.getD bv.toNat 0):=X;have ay:ϝ (¬G k->o=true):=λh=>K.o (λhf=>h (Y.o hf k a6));clear b7 ca X xk xq;go_wp2
     go_quiet (fail)
     have ci:=Dz f nq;have ab:=Dz Q nq;have d9:(wr.drewN nq).heap.size=wr.heap.size:=rfl;obtain⟨wq,au⟩:∃x,wr.drewN nq=x:=⟨_,rfl⟩;have d6:Δ wq w 6 (vS l n6 lc):=by rw[<-au];exact c6
     have d7:Δ wq w 7 (vS r n7 rc):=by rw[<-au];exact c7
     rw[au]at ci ab d9⊢;clear au
     cases pa:A8 av 0 ((n6:Int) - 1)with
     |false=>
      have b:ϝ (o=true):=ay.o (λh=>(CP _ _ _).1 pa ⟨(V.o.1 h).1.1,by have:=(V.o.1 h).1.2;omega⟩);go_wp2
      go_quiet (
       (go_at_call 29;exact Calls.quiet_of_same (Ar _ _ _ _))
       )
      go_wp2;go_ret;exact⟨Ab b.o.symm,Dz ab _⟩
     |true=>
      cases pb:A8 bv 0 ((n7:Int) - 1)with
      |false=>
       have b:ϝ (o=true):=ay.o (λh=>(CP _ _ _).1 pb ⟨(V.o.1 h).2.1.1,by have:=(V.o.1 h).2.1.2;omega⟩);go_wp2
       go_quiet (
        (go_at_call 29;exact Calls.quiet_of_same (Ar _ _ _ _))
        )
       go_wp2;go_ret;exact⟨Ab b.o.symm,Dz ab _⟩
      |true=>
       obtain⟨a1,a2⟩:=(Bh _ _ _).1 pa;obtain⟨b1,b2⟩:=(Bh _ _ _).1 pb;obtain⟨ma,rfl⟩:=Int.eq_ofNat_of_zero_le a1;obtain⟨mb,rfl⟩:=Int.eq_ofNat_of_zero_le b1;obtain⟨bl,ol,el,xl⟩:=dr.o ma (by rw[H6.o];omega);obtain⟨br,fb,er,xr⟩:=dt.o mb (by rw[H7.o];omega);subst el er;have yl:=cLz ab xl;have yr:=cLz ab xr;have al:ϝ (G k↔left.getD ma 0=right.getD mb 0):=by
        show G k↔_;rw[V.o,Int.toNat_natCast,Int.toNat_natCast]
        constructor
        ·exact λh=>h.2.2
        ·exact λh=>⟨⟨ϟ,ϟ⟩,⟨ϟ,ϟ⟩,h⟩
       obtain⟨vl,cp⟩:=nM (left.getD ma 0);obtain⟨vr,cq⟩:=nM (right.getD mb 0);rw[cp]at yl al;rw[cq]at yr al;have a3:(ma:Int)<(n6:Int):=ϟ;have b3:(mb:Int)<(n7:Int):=ϟ;clear cp cq xl xr V;by_cases he:vl=vr
       ·have X:ϝ (G k):=al.o.2 he;have d3:(vl !=vr)=false:=by simpa using he
        clear he;go_wp2
        go_quiet (
         (go_at_call 29;exact Calls.quiet_of_same (Ar _ _ _ _))
         )
        go_wp2;go_roundw
        case rel=>exact⟨k+1,ϟ,by go_num,Dz ci _,λj N=>by
         rcases Nat.lt_succ_iff_lt_or_eq.1 N with h|h
         ·exact HA.o j h
         ·rw[h];exact X.o⟩
        case measure=>simp[intOf];omega
       ·have b:ϝ (o=true):=ay.o (λh=>he (al.o.1 h));have d3:(vl !=vr)=true:=by simpa using he
        clear he;go_wp2
        go_quiet (
         (go_at_call 29;exact Calls.quiet_of_same (Ar _ _ _ _))
         )
        go_wp2;go_ret;exact⟨Ab b.o.symm,Dz ab _⟩
    ·have di:ϝ (∀j,j<J->G j):=λj N=>HA.o j ϟ;clear Y W HA;go_wp2_with fail;refine(K4.o _ Q).mono ?_;rintro e w4 ⟨⟨ad,en,rfl,ho⟩,s⟩;have bn:ϝ (AA w4 ad v):=(Le ho).1;have b9:=bT Q s;have e0:=cLz s c0;have e1:=cLz s c1;have e2:=cLz s c2;have e3:=cLz s c3;have e4:=cLz s c4;have e5:=cLz s c5;have e6:=cLz s c6;have e7:=cLz s c7;have e8:=cLz s c8;have e9:=cLz s c9;have bu:=cLz s bo;have bw:=cLz s bp;have bx:=cLz s bs;clear ho s f Q d4 K4 c0 c1 c2 c3 c4 c5 c6 c7 c8 c9 bo bp bs s0 s1 s2 s3 s4 s5 s6 s7 s8 s9 dc dd de;go_wp2
     go_loopw [7] (λi ej=> ∃m:Nat,m<=T/\i=vI m/\Ϟ w4 ej/\∀j,j<m->0<=y.getD j 0/\y.getD j 0<(I:Int)) (λi _=>T - (intOf i).toNat)
     case atStart=>exact⟨0,Nat.zero_le _,rfl,bR,λi hi=>absurd hi (Nat.not_lt_zero i)⟩
     case round=>
      obtain⟨m,hm,rfl,R,b5⟩:=hrel;have ax:=hV0 b5;clear b5;have es:=cLz R bu;have et:=cLz R bw;have dv:=cLz R bx;have a4:=bT b9 R;by_cases cf:m<T
      ·obtain⟨bg,og,eg,xg⟩:=dq.o m (by rw[df.o];exact cf);subst eg;have yg:=cLz a4 xg;have i1:(0:Int)<=(m:Int):=ϟ;have i2:(m:Int)<(T:Int):=ϟ;have bj:ϝ (¬(0<=y.getD m 0/\y.getD m 0<(I:Int))->o=true):=λh=>K.o (λhf=>h (O.o hf m cf));obtain⟨gv,a5⟩:=nM (y.getD m 0);have dl:=hV0 a5;rw[a5]at yg bj;clear a5 xg
       cases pg:A8 gv 0 ((I:Int) - 1)with
       |false=>
        have b:ϝ (o=true):=bj.o (λh=>(CP _ _ _).1 pg ⟨h.1,ϟ⟩);go_wp2_with
         (go_at_call 29;refine(Ar _ _ _ _).mono ?_;rintro e U ⟨rfl,c⟩;subst c)
        go_ret;exact⟨Ab b.o.symm,a4⟩
       |true=>
        have HY:ϝ (0<=y.getD m 0/\y.getD m 0<(I:Int)):=by
         show 0<=y.getD m 0/\y.getD m 0<(I:Int);have:=(Bh _ _ _).1 pg;rw[dl.o];omega
        go_wp2_with
         (go_at_call 29;refine(Ar _ _ _ _).mono ?_;rintro e U ⟨rfl,c⟩;subst c)
        go_roundw
        case rel=>exact⟨m+1,ϟ,by go_num,R,λj N=>by
         rcases Nat.lt_succ_iff_lt_or_eq.1 N with h|h
         ·exact ax.o j h
         ·rw[h];exact HY.o⟩
        case measure=>simp[intOf];omega
      ·have dh:ϝ (∀j,j<T->0<=y.getD j 0/\y.getD j 0<(I:Int)):=λj N=>ax.o j ϟ;obtain⟨W2,rfl⟩:∃x,x=wr:=⟨_,rfl⟩;have dm:ϝ (AA W2 ad v):=Au bn.o R;clear ax O bn R b9 e0 e1 e2 e3 e4 e5 e6 e7 e8 e9 bu bw bx;go_wp2
       go_loopw [8,9] (λi _ em=> ∃m:Nat,m<=af/\i=vI m/\Ϟ W2 em/\∀j,j<m->Ed v (d.getD j (0,0))) (λi _ _=>af - (intOf i).toNat)
       case atStart=>exact⟨0,Nat.zero_le _,rfl,bR,λi hi=>absurd hi (Nat.not_lt_zero i)⟩
       case round=>
        obtain⟨q,hq,rfl,S,b6⟩:=hrel;have bi:=hV0 b6;clear b6;have ev:=cLz S dv;have M:=bT a4 S;have bh:=S.size;by_cases cg:q<af
        ·obtain⟨ba,oa,ea,xa,xb⟩:=dp.o q (by rw[dg.o];exact cg);subst ea;have ya:=cLz M xa;have yb:=cLz M xb;have i1:(0:Int)<=(q:Int):=ϟ;have i2:(q:Int)<(af:Int):=ϟ;have ak:ϝ (¬Ed v (d.getD q (0,0))->o=true):=λh=>K.o (λhf=>h (ag.o hf q cg));have am:ϝ (Ed v (d.getD q (0,0))->∀j,j<q+1->Ed v (d.getD j (0,0))):=λh j N=>by
          rcases Nat.lt_succ_iff_lt_or_eq.1 N with h1|h1
          ·exact bi.o j h1
          ·rw[h1];exact h
         have H:ϝ (Ed v (d.getD q (0,0))↔if (d.getD q (0,0)).1=1 then(d.getD q (0,0)).2=0 else(0<=(d.getD q (0,0)).2/\(d.getD q (0,0)).2<(I:Int))/\((d.getD q (0,0)).1=2->v.getD (d.getD q (0,0)).2.toNat 0=2)):=by
          show Ed v (d.getD q (0,0))↔_;rw[<-bm.o];exact Iff.rfl
         obtain⟨AO,bz⟩:=nM (Ed v (d.getD q (0,0)));rw[bz]at ak am H;obtain⟨⟨fv,cv⟩,cc⟩:∃z,d.getD q (0,0)=z:=⟨_,rfl⟩;rw[cc]at ya yb H;dsimp only at ya yb H;clear cc bz xa xb;by_cases f1:fv=1
         ·subst f1;rw[if_pos rfl]at H;by_cases k0:cv=0
          ·subst k0;have ah:ϝ AO:=H.o.2 rfl;go_wp2_with
            (go_at_call 29;refine(Ar _ _ _ _).mono ?_;rintro e U ⟨rfl,c⟩;subst c)
           go_roundw
           case rel=>exact⟨q+1,ϟ,by go_num,(S.alloc bh _),am.o ah.o⟩
           case measure=>simp[intOf];omega
          ·have fa:(cv !=0)=true:=by simpa using k0
           have b:ϝ (o=true):=ak.o (λh=>k0 (H.o.1 h));clear k0;go_wp2_with
            (go_at_call 29;refine(Ar _ _ _ _).mono ?_;rintro e U ⟨rfl,c⟩;subst c)
           go_ret;exact⟨Ab b.o.symm,M.alloc M.size _⟩
         ·rw[if_neg f1]at H;have eo:(fv==1)=false:=by simpa using f1
          have ep:(fv !=1)=true:=by simpa using f1
          clear f1
          cases pc:A8 cv 0 ((I:Int) - 1)with
          |false=>
           have b:ϝ (o=true):=ak.o (λh=>(CP _ _ _).1 pc ⟨(H.o.1 h).1.1,by have:=(H.o.1 h).1.2;omega⟩);go_wp2_with
            (go_at_call 29;refine(Ar _ _ _ _).mono ?_;rintro e U ⟨rfl,c⟩;subst c)
           go_ret;exact⟨Ab b.o.symm,M.alloc M.size _⟩
          |true=>
           obtain⟨y1,y2⟩:=(Bh _ _ _).1 pc;by_cases f2:fv=2
           ·subst f2;obtain⟨mc,rfl⟩:=Int.eq_ofNat_of_zero_le y1;obtain⟨bc,oc,ec,xc⟩:=dm.o mc (by rw[bm.o];omega);subst ec;have yc:=cLz S xc;have cz:=bLt _ _ yc;have ey:bc<wr.heap.size:=cz;have y3:(mc:Int)<(I:Int):=ϟ;have az:ϝ (AO↔v.getD mc 0=2):=by
             show AO↔_;rw[H.o,Int.toNat_natCast];exact⟨λh=>h.2 rfl,λh=>⟨⟨ϟ,ϟ⟩,λ_=>h⟩⟩
            obtain⟨vc,co⟩:=nM (v.getD mc 0);rw[co]at yc az;clear co xc H cz;by_cases v2:vc=2
            ·subst v2;have ah:ϝ AO:=az.o.2 rfl;go_wp2_with
              (go_at_call 29;refine(Ar _ _ _ _).mono ?_;rintro e U ⟨rfl,c⟩;subst c)
             go_roundw
             case rel=>exact⟨q+1,ϟ,by go_num,(S.alloc bh _),am.o ah.o⟩
             case measure=>simp[intOf];omega
            ·have fc:(vc !=2)=true:=by simpa using v2
             have b:ϝ (o=true):=ak.o (λh=>v2 (az.o.1 h));clear v2;go_wp2_with
              (go_at_call 29;refine(Ar _ _ _ _).mono ?_;rintro e U ⟨rfl,c⟩;subst c)
             go_ret;exact⟨Ab b.o.symm,M.alloc M.size _⟩
           ·have eu:(fv==2)=false:=by simpa using f2
            have ah:ϝ AO:=H.o.2 ⟨⟨y1,ϟ⟩,λh=>absurd h f2⟩;clear f2;go_wp2_with
             (go_at_call 29;refine(Ar _ _ _ _).mono ?_;rintro e U ⟨rfl,c⟩;subst c)
            go_roundw
            case rel=>exact⟨q+1,ϟ,by go_num,(S.alloc bh _),am.o ah.o⟩
            case measure=>simp[intOf];omega
        ·have b:ϝ (o=false):=HF.o (dj.o di.o dh.o (λj N=>bi.o j ϟ));go_wp2;go_ret;exact⟨Ab b.o.symm,M⟩
  ·have b:ϝ (o=true):=K.o (λh=>cd (Z.o h).2);have d0:((J:Int) !=n9)=true:=Ϥ;go_enter func34,ntmps34;go_wp2;go_ret;exact⟨Ab b.o.symm,Ϫ⟩
 ·have b:ϝ (o=true):=K.o (λh=>d1 (Z.o h).1);have d2:ar<aw:=ϟ;go_enter func34,ntmps34;go_wp2;go_ret;exact⟨Ab b.o.symm,Ϫ⟩
end pl
end Go.Proofs.YtdohnkkbkfhphaaGreat
