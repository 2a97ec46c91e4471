import Derived.Test.YtfkihidbnfkbaaaGreatDoorPv12
set_option linter.all false
set_option maxHeartbeats 8000000
set_option maxRecDepth 100000
open Go.ChangeShapes Go.WideShapes Go.ChangeAt Go.RowKit List
open Inhabited renaming default->ϰ
namespace Go.Proofs.YtfkihidbnfkbaaaGreatDoor
open Go.Proofs.Tryz
namespace gr
open vl pl bt
variable {w w' : Ϡ} {a : ϡ} {col rest : Int} {l : List Tal} {k : Nat}
structure Grp where
 row:List Cel
 n:Int
 bags:List (List Tal)
instance:Inhabited Grp:=⟨⟨[],0,[]⟩⟩
structure GX where
 r:Option Addr
 rc:Nat
 b:Option Addr
 bc:Nat
 hs:List (Option Addr×Nat×Nat)
instance:Inhabited GX:=⟨⟨none,0,none,0,[]⟩⟩
def LC(x:GX)(g:Grp):Value:=.agg #[vS x.r g.row.length x.rc,vI g.n,vS x.b g.bags.length x.bc]
structure gAt(w:World)(x:GX)(g:Grp):Prop where
 row:vl.rowAt w x.r g.row
 hs:JB w x.b x.hs
 len:x.hs.length=g.bags.length
 hl:∀i,i<g.bags.length->(x.hs.getD i (none,0,0)).2.1=(g.bags.getD i []).length
 bag:∀i,i<g.bags.length->FL w (x.hs.getD i (none,0,0)).1 (g.bags.getD i [])
theorem Sx{r:List Cel}(h:vl.rowAt w a r)(d:ϣ w w'):vl.rowAt w' a r:=vl.Ac h d
theorem Ki{l:List (Option Addr×Nat×Nat)}(h:JB w a l)(d:ϣ w w'):JB w' a l:=λi f=>by
 obtain⟨b,o,e,x⟩:=h i f;exact⟨b,o,e,cLz d x⟩
theorem gAt.below{x:GX}{g:Grp}(h:gAt w x g)(d:ϣ w w'):gAt w' x g:=
 ⟨Sx h.row d,Ki h.hs d,h.len,h.hl,λi e=>Gz (h.bag i e) d⟩
structure gsAt(w:World)(a:Option Addr)(xs:List GX)(gs:List Grp):Prop where
 len:xs.length=gs.length
 cells:∀i,i<gs.length->∃b o,a=some ⟨b,o,none⟩/\Δ w b (o+i * 3) (vS (xs.getD i ϰ).r (gs.getD i ϰ).row.length (xs.getD i ϰ).rc)/\Δ w b (o+i * 3+1) (vI (gs.getD i ϰ).n)/\Δ w b (o+i * 3+2) (vS (xs.getD i ϰ).b (gs.getD i ϰ).bags.length (xs.getD i ϰ).bc)
 each:∀i,i<gs.length->gAt w (xs.getD i ϰ) (gs.getD i ϰ)
theorem gsAt.below{j:List GX}{g:List Grp}(h:gsAt w a j g)(d:ϣ w w'):gsAt w' a j g:=
 ⟨h.len,λi f=>by
  obtain⟨b,o,e,m,n,p⟩:=h.cells i f;exact⟨b,o,e,cLz d m,cLz d n,cLz d p⟩,λi f=>(h.each i f).below d⟩
structure wfG(g:Grp):Prop where
 row:Bq g.row
 rl:g.row.length<=ύ
 n:i64 g.n
 bl:g.bags.length<=ύ
 tl:∀l∈g.bags,l.length<=ύ/\∀t∈l,t.1.s.size<=maxLen/\i64 t.1.n/\i64 t.2
def Pa(c:Cel)(col:Int):Bool:=decide (chk c.k c.n c.s=0)&&(decide (c.k=0)||decide (c.k=col))
def I1(col rest:Int)(prev:Option Cel)(t:Tal):Bool:=Pa t.1 col&&decide (1<=t.2)&&decide (t.2<=rest)&&(match prev with|none=>true|some c=>decide (FC c t.1<0))
def Dl(col:Int):Int->Option Cel->List Tal->Bool
 |rest,_,[]=>decide (rest=0)
 |rest,prev,t::l=>I1 col rest prev t&&Dl col (rest - t.2) (some t.1) l
def BS(l:List Tal)(k:Nat):Option Cel:=if k=0 then none else some (l.getD (k - 1) ϰ).1
theorem PH(h:k<l.length):Dl col rest (BS l k) (l.drop k)=(I1 col rest (BS l k) (l.getD k ϰ)&&Dl col (rest - (l.getD k ϰ).2) (BS l (k+1)) (l.drop (k+1))):=by
 have e:l.drop k=l.getD k ϰ::l.drop (k+1):=by
  rw[drop_eq_getElem_cons h,gDe,gEe h];rfl
 rw[e,Dl];unfold BS;simp
theorem Sy(h:l.length<=k):Dl col rest (BS l k) (l.drop k)=decide (rest=0):=by
 rw[drop_of_length_le h,Dl]
def I2(c:List Int)(a:Int×Int)(n:Int)(l:List Tal):Bool:=if a.1=1 then decide (l.length=0)else Dl (c.getD a.2.toNat 0) n none l
def J0(c:List Int)(aggs:List (Int×Int))(g:Grp):Bool:=decide (g.bags.length=aggs.length)&&allB g.bags.length (λi=>I2 c (aggs.getD i (0,0)) g.n (g.bags.getD i []))
def AZ(p:Pln):List Int:=p.group.map λat1=>(A7 p).getD at1.toNat 0
def FQ(p:Pln)(gs:List Grp)(i:Nat):Bool:=
 decide (Au (gs.getD i ϰ).row=0)&&BU (gs.getD i ϰ).row (AZ p)&&(decide (1<=(gs.getD i ϰ).n)&&decide ((gs.getD i ϰ).n<=1073741824))&&(decide (i=0)||decide (AJ (gs.getD (i - 1) ϰ).row (gs.getD i ϰ).row<0))&&J0 (A7 p) p.aggs (gs.getD i ϰ)
noncomputable def CS(p:Pln)(gs:List Grp):Int:=if Ag p≠0 then Ag p else if p.grouped=false then 1 else if 4096<gs.length then 2 else if allB gs.length (FQ p gs)=false then 1 else 0
theorem QB(g:FuncId)(eg:∀N w,(callFunc g N).run Tryz.prog w= .ok (.enter g N) w)(p:Array Value)(P:Nat->Bool)(a:ϡ)(cap:Nat)(m:List GX)(l:List Grp)(w:Ϡ)(hl:l.length<=ύ)(ha:gsAt w a m l)
 (H:∀i d,i<l.length->ϣ w d->Calls Tryz.prog g (#[vI (i:Nat),(LC (m.getD i ϰ) (l.getD i ϰ))]++p) d (ψ d (.bool (P i)))):
 χ 238 #[vS a l.length cap,.func (.func g) #[] p] w (ψ w (.bool (allB l.length P))):=by
 have Y:Ϣ (∀i d,i<l.length->ϣ w d->CT g (#[vI (i:Nat),(LC (m.getD i ϰ) (l.getD i ϰ))]++p) d (ψ d (.bool (P i)))):=H;clear H;obtain⟨n,A⟩:∃n,l.length=n:=⟨_,rfl⟩;have M:=hV0 A;rw[A]at hl⊢;clear A;go_enter func238,ntmps238;go_wp2
 go_loopw [9] (λi wr=> ∃k:Nat,k<=n/\i=vI k/\ϣ w wr/\∀i,i<k->P i=true) (λi _=>n - (intOf i).toNat)
 case atStart=>exact⟨0,Nat.zero_le _,rfl,bR,λi q=>absurd q (Nat.not_lt_zero i)⟩
 case round=>
  obtain⟨k,hk,rfl,j,O⟩:=hrel;have L:=hV0 O;clear O;by_cases u:k<n
  ·obtain⟨b,o,e,V,W,X⟩:=ha.cells k (by rw[M.o];exact u);subst e;obtain⟨J,U,K⟩:=lk3 j V W X;clear V W X ha;have i1:=nn0 k;have i2:(k:Int)<(n:Int):=Ϥ;have f:Ϣ (∀d,ϣ wr d->CT g (#[vI (k:Nat),(LC (m.getD k ϰ) (l.getD k ϰ))]++p) d (ψ d (.bool (P k)))):=λd Z=>Y.o k d (by rw[M.o];exact u) (bT j Z);unfold LC at f;obtain⟨z,T⟩:=nM (l.getD k ϰ);rw[T]at J U K f;obtain⟨y,hy⟩:=nM (m.getD k ϰ);rw[hy]at J K f;obtain⟨v1,R⟩:∃v,Value.slice y.r z.row.length y.rc=v:=⟨_,rfl⟩;obtain⟨v3,S⟩:∃v,Value.slice y.b z.bags.length y.bc=v:=⟨_,rfl⟩;have o1:v1.oneCell'=true:=by rw[<-R];rfl
   have o3:v3.oneCell'=true:=by rw[<-S];rfl
   obtain⟨v2,B⟩:∃v,z.n=v:=⟨_,rfl⟩;obtain⟨y1,C⟩:∃v,y.r=v:=⟨_,rfl⟩;obtain⟨y2,D⟩:∃v,z.row.length=v:=⟨_,rfl⟩;obtain⟨y3,E⟩:∃v,y.rc=v:=⟨_,rfl⟩;obtain⟨y4,F⟩:∃v,y.b=v:=⟨_,rfl⟩;obtain⟨y5,G⟩:∃v,z.bags.length=v:=⟨_,rfl⟩;obtain⟨y6,I⟩:∃v,y.bc=v:=⟨_,rfl⟩;rw[C,D,E]at J;rw[B]at U;rw[F,G,I]at K;rw[C,D,E,B,F,G,I]at f;clear T hy R B S o1 o3 C D E F G I;have Q:=j.size
   cases hp:P k with
   |true=>
    rw[hp]at f;go_wp2_with (go_at_fn g;refine(f.o _ ϯ).mono ?_;rintro e d ⟨rfl,s⟩;have t:=(j.alloc Q _).trans (s.mono ϩ));go_roundw;exact⟨k+1,Ϥ,by go_num,t,λi q=>by
     rcases Nat.lt_succ_iff_lt_or_eq.1 q with h|h
     ·exact L.o i h
     ·rw[h];exact hp⟩
    simp[intOf];omega
   |false=>
    have r:Ϣ (allB n P=false):=CP u hp;rw[hp]at f;go_wp2_with (go_at_fn g;refine(f.o _ ϯ).mono ?_;rintro e d ⟨rfl,s⟩;have t:=(j.alloc Q _).trans (s.mono ϩ));go_ret;exact⟨Aa r.o.symm,t⟩
  ·have r:Ϣ (allB n P=true):=AF.2 (λi q=>L.o i Ϥ);go_wp2;go_ret;exact⟨Aa r.o.symm,j⟩
theorem QC(f:FuncId)(J:∀A w,(callFunc f A).run Tryz.prog w= .ok (.enter f A) w)(m:Array Value)(P:Nat->Bool)(a:ϡ)(cap:Nat)(l:List (Option Addr×Nat×Nat))(w:Ϡ)(I:l.length<=ύ)(ha:JB w a l)
 (H:∀i d,i<l.length->ϣ w d->Calls Tryz.prog f (#[vI (i:Nat),vS (l.getD i (none,0,0)).1 (l.getD i (none,0,0)).2.1 (l.getD i (none,0,0)).2.2]++m) d (ψ d (.bool (P i)))):
 χ 277 #[vS a l.length cap,.func (.func f) #[] m] w (ψ w (.bool (allB l.length P))):=by
 have G:Ϣ (∀i d,i<l.length->ϣ w d->CT f (#[vI (i:Nat),vS (l.getD i (none,0,0)).1 (l.getD i (none,0,0)).2.1 (l.getD i (none,0,0)).2.2]++m) d (ψ d (.bool (P i)))):=H;clear H;obtain⟨n,t⟩:∃n,l.length=n:=⟨_,rfl⟩;have v:=hV0 t;rw[t]at I⊢;clear t;go_enter func277,ntmps277;go_wp2
 go_loopw [9] (λi wr=> ∃k:Nat,k<=n/\i=vI k/\ϣ w wr/\∀i,i<k->P i=true) (λi _=>n - (intOf i).toNat)
 case atStart=>exact⟨0,Nat.zero_le _,rfl,bR,λi p=>absurd p (Nat.not_lt_zero i)⟩
 case round=>
  obtain⟨k,K,rfl,j,B⟩:=hrel;have u:=hV0 B;clear B;by_cases s:k<n
  ·obtain⟨b,o,e,F⟩:=ha k (by rw[v.o];exact s);subst e;have E:=cLz j F;clear F ha;have L:=nn0 k;have M:(k:Int)<(n:Int):=Ϥ;have g:Ϣ (CT f (#[vI (k:Nat),vS (l.getD k (none,0,0)).1 (l.getD k (none,0,0)).2.1 (l.getD k (none,0,0)).2.2]++m) wr (ψ wr (.bool (P k)))):=G.o k wr (by rw[v.o];exact s) j;obtain⟨⟨N,O,Q⟩,D⟩:∃z,l.getD k (none,0,0)=z:=⟨_,rfl⟩;rw[D]at E g;dsimp only at E g;clear D;have C:=j.size
   cases hp:P k with
   |true=>
    rw[hp]at g;go_wp2_with (go_at_fn f;refine g.o.mono ?_;rintro e d ⟨rfl,r⟩);go_roundw;exact⟨k+1,Ϥ,by go_num,j.trans (r.mono C),λi p=>by
     rcases Nat.lt_succ_iff_lt_or_eq.1 p with h|h
     ·exact u.o i h
     ·rw[h];exact hp⟩
    simp[intOf];omega
   |false=>
    have q:Ϣ (allB n P=false):=CP s hp;rw[hp]at g;go_wp2_with (go_at_fn f;refine g.o.mono ?_;rintro e d ⟨rfl,r⟩);go_ret;exact⟨Aa q.o.symm,j.trans (r.mono C)⟩
  ·have q:Ϣ (allB n P=true):=AF.2 (λi p=>u.o i Ϥ);go_wp2;go_ret;exact⟨Aa q.o.symm,j⟩
end gr
namespace gr
open vl pl bt
attribute [local go_sem] Oper.semAt_some
variable {col rest : Int} {l : List Tal} {k : Nat}
theorem Nk(c:Cel)(col:Int)(w:Ϡ)(s:c.s.size<=maxLen):
 χ 294 #[Abf c,vI col] w (ψ w (.bool (Pa c col))):=by
 have i:Ϣ (∀d,CT 183 #[Abf c] d (ψ d (vI (chk c.k c.n c.s)))):=λd=>Bi c.k c.n c.s d s;obtain⟨R,q⟩:=nM (Pa c col);have h:=hV0 q;unfold Pa at h;rw[q];clear q s;obtain⟨E,r⟩:=nM (chk c.k c.n c.s);rw[r]at i h;clear r;obtain⟨j,u,v⟩:=c;unfold Abf at i⊢;dsimp only at i h⊢;have m:ϣ w (ϊ w #[vI j,vI u,.string v] 119):=ϯ;by_cases n:E=0
 ·subst n;by_cases o:j=0
  ·subst o;have g:Ϣ (true=R):=by show _=_;rw[<-h.o];simp
   go_enter func294,ntmps294;go_wp2_with (go_at_call 183;refine(i.o _).mono ?_;rintro e d ⟨rfl,f⟩;have t:Δ d w 0 (vI 0):=cLz f Ϩ);go_ret;exact⟨Aa g.o,bT m f⟩
  ·have A:(j==0)=false:=by simpa using o
   by_cases p:j=col
   ·subst p;have g:Ϣ (true=R):=by show _=_;rw[<-h.o];simp
    go_enter func294,ntmps294;go_wp2_with (go_at_call 183;refine(i.o _).mono ?_;rintro e d ⟨rfl,f⟩;have t:Δ d w 0 (vI j):=cLz f Ϩ);go_ret;exact⟨Aa g.o,bT m f⟩
   ·have B:(j==col)=false:=by simpa using p
    have g:Ϣ (false=R):=by show _=_;rw[<-h.o];simp[o,p]
    go_enter func294,ntmps294;go_wp2_with (go_at_call 183;refine(i.o _).mono ?_;rintro e d ⟨rfl,f⟩;have t:Δ d w 0 (vI j):=cLz f Ϩ);go_ret;exact⟨Aa g.o,bT m f⟩
 ·have z:(E==0)=false:=by simpa using n
  have g:Ϣ (false=R):=by show _=_;rw[<-h.o];simp[n]
  go_enter func294,ntmps294;go_wp2_with (go_at_call 183;refine(i.o _).mono ?_;rintro e d ⟨rfl,f⟩);go_ret;exact⟨Aa g.o,bT m f⟩
theorem Sz(h:k<l.length)(ht:I1 col rest (BS l k) (l.getD k ϰ)=false):Dl col rest (BS l k) (l.drop k)=false:=by
 rw[PH h,ht];rfl
theorem PI(h:k<l.length)(ht:I1 col rest (BS l k) (l.getD k ϰ)=true):Dl col rest (BS l k) (l.drop k)=Dl col (rest - (l.getD k ϰ).2) (BS l (k+1)) (l.drop (k+1)):=by
 rw[PH h,ht,Bool.true_and]
theorem LD(a:ϡ)(cap:Nat)(l:List Tal)(col n:Int)(w:Ϡ)(hl:l.length<=ύ)(ha:FL w a l)(hn:i64 n)(hw:∀t∈l,t.1.s.size<=maxLen/\i64 t.1.n/\i64 t.2):
 χ 279 #[vS a l.length cap,vI col,vI n] w (ψ w (.bool (Dl col n none l))):=by
 have HA:=hV0 ha;have HW:Ϣ (∀k,k<l.length->(l.getD k ϰ).1.s.size<=maxLen/\i64 (l.getD k ϰ).2):=λk hk=>by
  have:=hw (l.getD k ϰ) (by rw[gDe,gEe hk];exact getElem_mem hk);exact⟨this.1,this.2.2⟩
 obtain⟨R,hR⟩:=nM (Dl col n none l);have ao:=hV0 hR;rw[hR];clear hR ha hw;obtain⟨G,ad⟩:=nM l.length;have HN:=hV0 ad;rw[ad]at hl⊢;clear ad;obtain⟨ar,au⟩:=hn;go_enter func279,ntmps279;go_wp2
 go_loopw [7,13] (λrr t wr=> ∃(k:Nat) (r:Int),k<=G/\t=vI k/\rr=vI r/\i64 r/\Dl col r (BS l k) (l.drop k)=R/\ϣ w wr) (λ_ t _=>G - (intOf t).toNat)
 case atStart=>exact⟨0,n,Nat.zero_le _,rfl,rfl,⟨ar,au⟩,ao.o,bR⟩
 case round=>
  obtain⟨k,r,hk,rfl,rfl,hr,ai,g⟩:=hrel;have W:=hV0 ai;obtain⟨aw,ax⟩:=hr;clear ai;by_cases aq:k<G
  ·have P:k<l.length:=by rw[HN.o];exact aq
   obtain⟨C,H,e3,m1,m2,m3,m4⟩:=HA.o k P;have an:Ϣ (∀j,k=j+1->∃b o,a=some ⟨b,o,none⟩/\Δ wr b (o+j * 4) (vI (l.getD j ϰ).1.k)/\Δ wr b (o+j * 4+1) (vI (l.getD j ϰ).1.n)/\Δ wr b (o+j * 4+2) (.string (l.getD j ϰ).1.s)):=λj O=>by
    obtain⟨b,o,e,x1,x2,x3,x4⟩:=HA.o j Ϥ;exact⟨b,o,e,cLz g x1,cLz g x2,cLz g x3⟩
   obtain⟨aj,ak,al⟩:=HW.o k P;subst e3;obtain⟨p1,p2,p3,p4⟩:=lk4 g m1 m2 m3 m4;have az:C<wr.heap.size:=bLt _ _ p1;have i1:=nn0 k;have i2:(k:Int)<(G:Int):=Ϥ;have L:Ϣ (I1 col r (BS l k) (l.getD k ϰ)=false->false=R):=λh=>by rw[<-W.o];exact(Sz P h).symm
   have N:Ϣ (I1 col r (BS l k) (l.getD k ϰ)=true->Dl col (r - (l.getD k ϰ).2) (BS l (k+1)) (l.drop (k+1))=R):=λh=>by rw[<-W.o];exact(PI P h).symm
   have KV:Ϣ (∀d,CT 294 #[Abf (l.getD k ϰ).1,vI col] d (ψ d (.bool (Pa (l.getD k ϰ).1 col)))):=λd=>Nk _ _ d aj;obtain⟨⟨⟨q,s,u⟩,m⟩,hx⟩:∃z,l.getD k ϰ=z:=⟨_,rfl⟩;rw[hx]at p1 p2 p3 p4 L N KV ak al;unfold Abf at KV;dsimp only at p1 p2 p3 p4 KV N ak al;obtain⟨VB,ab⟩:=nM (Pa ⟨q,s,u⟩ col);have X:=hV0 ab;rw[ab]at KV;clear hx m1 m2 m3 m4 ab aj
   cases VB with
   |false=>
    have A:Ϣ (false=R):=L.o (by unfold I1;rw[X.o];simp);go_wp2_with (go_at_call 294;refine(KV.o _).mono ?_;rintro e d ⟨rfl,f⟩;have p:Δ d wr 0 (vI q):=cLz f Ϩ;have E:Δ d wr 1 (vI s):=cLz f Ϩ;have F:Δ d wr 2 (.string u):=cLz f Ϩ;have B:Δ d wr 3 (vI m):=cLz f Ϩ;have v:ϣ w d:=(g.alloc g.size _).trans (f.mono (by have:=g.size;simp<;>omega));have M:wr.heap.size<d.heap.size:=bLt _ _ p;have D:ϣ wr d:=ϯ.trans (f.mono Ϧ));go_ret;exact⟨Aa A.o,v⟩
   |true=>
    by_cases h1:m<1
    ·have A:Ϣ (false=R):=L.o (by unfold I1;simp;intros;omega);go_wp2_with (go_at_call 294;refine(KV.o _).mono ?_;rintro e d ⟨rfl,f⟩;have p:Δ d wr 0 (vI q):=cLz f Ϩ;have E:Δ d wr 1 (vI s):=cLz f Ϩ;have F:Δ d wr 2 (.string u):=cLz f Ϩ;have B:Δ d wr 3 (vI m):=cLz f Ϩ;have v:ϣ w d:=(g.alloc g.size _).trans (f.mono (by have:=g.size;simp<;>omega));have M:wr.heap.size<d.heap.size:=bLt _ _ p;have D:ϣ wr d:=ϯ.trans (f.mono Ϧ));go_ret;exact⟨Aa A.o,v⟩
    ·by_cases h2:m>r
     ·have A:Ϣ (false=R):=L.o (by unfold I1;simp;intros;omega);go_wp2_with (go_at_call 294;refine(KV.o _).mono ?_;rintro e d ⟨rfl,f⟩;have p:Δ d wr 0 (vI q):=cLz f Ϩ;have E:Δ d wr 1 (vI s):=cLz f Ϩ;have F:Δ d wr 2 (.string u):=cLz f Ϩ;have B:Δ d wr 3 (vI m):=cLz f Ϩ;have v:ϣ w d:=(g.alloc g.size _).trans (f.mono (by have:=g.size;simp<;>omega));have M:wr.heap.size<d.heap.size:=bLt _ _ p;have D:ϣ wr d:=ϯ.trans (f.mono Ϧ));go_ret;exact⟨Aa A.o,v⟩
     ·have ay:IntKind.i64.wrap (r - m)=r - m:=by rw[IntKind.wrap_i64];omega
      by_cases ac:k=0
      ·have Z:Ϣ (Dl col (r - m) (BS l (k+1)) (l.drop (k+1))=R):=N.o (by unfold I1;rw[X.o,show BS l k=none from if_pos ac];simp;omega);have i6:decide (0<k)=false:=ϩ;have am:i64 (r - m):=⟨Ϥ,Ϥ⟩;have Y:=hV0 am;clear ac am;go_wp2_with (go_at_call 294;refine(KV.o _).mono ?_;rintro e d ⟨rfl,f⟩;have p:Δ d wr 0 (vI q):=cLz f Ϩ;have E:Δ d wr 1 (vI s):=cLz f Ϩ;have F:Δ d wr 2 (.string u):=cLz f Ϩ;have B:Δ d wr 3 (vI m):=cLz f Ϩ;have v:ϣ w d:=(g.alloc g.size _).trans (f.mono (by have:=g.size;simp<;>omega));have M:wr.heap.size<d.heap.size:=bLt _ _ p;have D:ϣ wr d:=ϯ.trans (f.mono Ϧ))
       go_quiet (fail)
       have hq:=pl.Dn v nq;have ah:=pl.Dn (Below.refl d.heap.size d) nq;generalize (d.drewN nq)=W2 at hq ah⊢;have t3:=cLz ah B;go_wp2;go_roundw;exact⟨k+1,r - m,Ϥ,by go_num,rfl,Y.o,Z.o,hq⟩;simp[intOf];omega
      ·obtain⟨j,O⟩:∃j,k=j+1:=⟨k - 1,Ϥ⟩;obtain⟨b4,o4,e4,Q,S,T⟩:=an.o j O;injection e4 with e4
       injection e4 with e5 e6
       subst e5 e6;have i6:decide (0<k)=true:=ϩ;have i7:IntKind.i64.wrap ((k:Int) - 1)=(j:Int):=by rw[IntKind.wrap_i64];omega
       have i8:=nn0 j;have i9:(j:Int)<(G:Int):=Ϥ;have V:Ϣ (BS l k=some (l.getD j ϰ).1):=by show _=_;rw[O];rfl
       obtain⟨⟨I,J,K⟩,ag⟩:∃z,(l.getD j ϰ).1=z:=⟨_,rfl⟩;rw[ag]at Q S T V;dsimp only at Q S T;have KC:Ϣ (∀d,CT 257 #[.agg #[vI I,vI J,.string K],.agg #[vI q,vI s,.string u]] d (ψ d (vI (FC ⟨I,J,K⟩ ⟨q,s,u⟩)))):=λd=>ID I J K q s u d;obtain⟨U,aa⟩:=nM (FC ⟨I,J,K⟩ ⟨q,s,u⟩);have af:=hV0 aa;rw[aa]at KC;clear aa ag O ac;by_cases h3:U<0
       ·have Z:Ϣ (Dl col (r - m) (BS l (k+1)) (l.drop (k+1))=R):=N.o (by unfold I1;rw[X.o,V.o];simp[af.o,h3];omega);have Y:Ϣ (i64 (r - m)):=⟨Ϥ,Ϥ⟩;have ap:¬(U≥0):=Ϥ;go_wp2_with (go_at_call 294;refine(KV.o _).mono ?_;rintro e d ⟨rfl,f⟩;have p:Δ d wr 0 (vI q):=cLz f Ϩ;have E:Δ d wr 1 (vI s):=cLz f Ϩ;have F:Δ d wr 2 (.string u):=cLz f Ϩ;have B:Δ d wr 3 (vI m):=cLz f Ϩ;have v:ϣ w d:=(g.alloc g.size _).trans (f.mono (by have:=g.size;simp<;>omega));have M:wr.heap.size<d.heap.size:=bLt _ _ p;have D:ϣ wr d:=ϯ.trans (f.mono Ϧ));obtain⟨v1,v2,v3⟩:=lk3 D Q S T
        go_region_held3 (λw'=>Δ w' C (H+j * 4) (vI I)/\Δ w' C (H+j * 4+1) (vI J)/\Δ w' C (H+j * 4+2) (.string K)/\ϙ w' wr (vI q) (vI s) (.string u) (vI m)) (first|exact⟨cLz i v1,cLz i v2,cLz i v3,cLz i p,cLz i E,cLz i F,cLz i B⟩|go_keep|(refine⟨?_,?_,?_,?_,?_,?_,?_⟩<;>go_keep))
         (first|(go_at_call 257;refine(KC.o d.drew).mono ?_;rintro e y1 ⟨rfl,ae⟩;have i:ϣ d y1:=bR.drew.trans ae;have t3:=cLz i B))
        all_goals
         go_wp2;go_roundw;exact⟨k+1,r - m,Ϥ,by go_num,rfl,Y.o,Z.o,bT v i⟩;simp[intOf];omega
       ·have A:Ϣ (false=R):=L.o (by unfold I1;rw[V.o];simp[af.o];intros;omega);have ap:U≥0:=Ϥ;go_wp2_with (go_at_call 294;refine(KV.o _).mono ?_;rintro e d ⟨rfl,f⟩;have p:Δ d wr 0 (vI q):=cLz f Ϩ;have E:Δ d wr 1 (vI s):=cLz f Ϩ;have F:Δ d wr 2 (.string u):=cLz f Ϩ;have B:Δ d wr 3 (vI m):=cLz f Ϩ;have v:ϣ w d:=(g.alloc g.size _).trans (f.mono (by have:=g.size;simp<;>omega));have M:wr.heap.size<d.heap.size:=bLt _ _ p;have D:ϣ wr d:=ϯ.trans (f.mono Ϧ));obtain⟨v1,v2,v3⟩:=lk3 D Q S T
        go_region_held3 (λw'=>Δ w' C (H+j * 4) (vI I)/\Δ w' C (H+j * 4+1) (vI J)/\Δ w' C (H+j * 4+2) (.string K)/\ϙ w' wr (vI q) (vI s) (.string u) (vI m)) (first|exact⟨cLz i v1,cLz i v2,cLz i v3,cLz i p,cLz i E,cLz i F,cLz i B⟩|go_keep|(refine⟨?_,?_,?_,?_,?_,?_,?_⟩<;>go_keep))
         (first|(go_at_call 257;refine(KC.o d.drew).mono ?_;rintro e y1 ⟨rfl,ae⟩;have i:ϣ d y1:=bR.drew.trans ae;have t3:=cLz i B))
        all_goals
         go_wp2;go_ret;exact⟨Aa A.o,bT v i⟩
  ·have av:k=G:=Ϥ;have A:Ϣ (decide (r=0)=R):=by show _=_;rw[<-W.o];exact(Sy (by rw[HN.o];omega)).symm
   go_wp2;go_ret
   first
    |exact⟨Aa A.o,g⟩
    |exact⟨Aa (by rw[<-A.o];simp),g⟩
theorem Aap(i A C X:Nat)(u:ϡ)(B:Nat)(l:List Tal)(E J:ϡ)(F K:Nat)(d:List (Int×Int))(c:List Int)(n:Int)(w:Ϡ)
 (P:Δ w A 0 (vS E d.length F)) (Q:Δ w C 0 (vS J c.length K)) (hX:Δ w X 1 (vI n))
 (ha:DI w E d) (U:Ay w J c) (T:FL w u l) (Y:i<d.length) (ad:d.length<=ύ) (ae:c.length<=ύ) (af:0<=(d.getD i (0,0)).2/\(d.getD i (0,0)).2.toNat<c.length)
 (Z:l.length<=ύ) (hn:i64 n) (hw:∀t∈l,t.1.s.size<=maxLen/\i64 t.1.n/\i64 t.2):
 χ 278 #[vI (i:Nat),vS u l.length B,ω A,ω C,ω X] w (ψ w (.bool (I2 c (d.getD i (0,0)) n l))):=by
 have g:Ϣ (∀q,ϣ w q->CT 279 #[vS u l.length B,vI (c.getD (d.getD i (0,0)).2.toNat 0),vI n] q (ψ q (.bool (Dl (c.getD (d.getD i (0,0)).2.toNat 0) n none l)))):=λq o=>LD u B l _ n q Z (Gz T o) hn hw;obtain⟨R,v⟩:=nM (I2 c (d.getD i (0,0)) n l);have f:=hV0 v;unfold I2 at f;rw[v];clear v;obtain⟨H,o1,e1,x1,D⟩:=ha i Y;subst e1;obtain⟨s,p⟩:=af;obtain⟨I,o2,e2,r⟩:=U (d.getD i (0,0)).2.toNat p;subst e2;obtain⟨⟨N,col⟩,hz⟩:∃z,d.getD i (0,0)=z:=⟨_,rfl⟩;rw[hz]at x1 D r f g s p;dsimp only at x1 D r f g s p;obtain⟨m,rfl⟩:=Int.eq_ofNat_of_zero_le s;simp only[Int.toNat_natCast]at r f g p;obtain⟨M,W⟩:=nM (c.getD m 0);rw[W]at r f g;obtain⟨ln,ab⟩:=nM l.length;obtain⟨G,S⟩:=nM d.length;obtain⟨L,V⟩:=nM c.length;rw[ab]at g f Z⊢;rw[S]at P Y ad;rw[V]at Q p ae;have i1:=nn0 i;have i2:(i:Int)<(G:Int):=Ϥ;have j1:=nn0 m;have j2:(m:Int)<(L:Int):=Ϥ;clear hz W ab S V ha U T hn hw s;by_cases o:N=1
 ·subst o;by_cases O:ln=0
  ·subst O;have j:Ϣ (true=R):=by show _=_;rw[<-f.o,if_pos rfl];rfl
   go_enter func278,ntmps278;go_wp2;go_ret;exact⟨Aa j.o,bR⟩
  ·have j:Ϣ (false=R):=by show _=_;rw[<-f.o,if_pos rfl];simp[O]
   have ai:((ln:Int)==0)=false:=ϩ;go_enter func278,ntmps278;go_wp2;go_ret;exact⟨Aa (by rw[<-j.o]),bR⟩
 ·have ah:(N==1)=false:=by simpa using o
  have j:Ϣ (Dl M n none l=R):=by show _=_;rw[<-f.o,if_neg o]
  rw[j.o]at g;go_enter func278,ntmps278;go_wp2
  go_region_held3 (λw'=>Δ w' A 0 (vS (some ⟨H,o1,none⟩) G F)/\Δ w' C 0 (vS (some ⟨I,o2,none⟩) L K)/\Δ w' X 1 (vI n)/\Δ w' H (o1+i * 2+1) (vI (m:Int))/\Δ w' I (o2+m) (vI M)) (first|exact⟨cLz h P,cLz h Q,cLz h hX,cLz h D,cLz h r⟩|go_keep)
   (first|(go_at_call 279;refine(g.o w.drew bR.drew).mono ?_;rintro e y1 ⟨rfl,ag⟩;have h:ϣ w y1:=bR.drew.trans ag))
  all_goals
   go_wp2;go_ret;exact⟨rfl,h⟩
theorem Pb(n o:ϡ)(q s:Nat)(f:List (Int×Int))(c:List Int)(x:GX)(g:Grp)(w:Ϡ)(ha:DI w n f)(T:Ay w o c)(j:gAt w x g)(p:wfG g)(S:f.length<=ύ)(ad:c.length<=ύ)(U:∀i,i<f.length->0<=(f.getD i (0,0)).2/\(f.getD i (0,0)).2.toNat<c.length):
 χ 240 #[vS n f.length q,vS o c.length s,LC x g] w (ψ w (.bool (J0 c f g))):=by
 have M:∀i,i<g.bags.length->g.bags.getD i []∈g.bags:=λi D=>by rw[gDe,gEe D];exact getElem_mem D
 have m:Ϣ (∀A C X d,ϣ w d->g.bags.length=f.length->Δ d A 0 (vS n f.length q)->Δ d C 0 (vS o c.length s)->Δ d X 1 (vI g.n)->
  χ 277 #[vS x.b g.bags.length x.bc,.func (.func 278) #[] #[ω A,ω C,ω X]] d (ψ d (.bool (allB g.bags.length (λi=>I2 c (f.getD i (0,0)) g.n (g.bags.getD i [])))))):=λA C X d z ag hA hC hX=>by
  have k:=QC 278 (enters_of func278 ϧ rfl) #[ω A,ω C,ω X] (λi=>I2 c (f.getD i (0,0)) g.n (g.bags.getD i [])) x.b x.bc x.hs d (by rw[j.len];exact p.bl) (Ki j.hs z) (λi w2 D B=>by
   have E:i<g.bags.length:=by rw[<-j.len];exact D
   have J:=bT z B;rw[j.hl i E];exact Aap i A C X _ _ (g.bags.getD i []) n o q s f c g.n w2 (cLz B hA) (cLz B hC) (cLz B hX) (Cp ha J) (Al T J) (Gz (j.bag i E) J) Ϥ S ad (U i Ϥ) (p.tl _ (M i E)).1 p.n (p.tl _ (M i E)).2)
  rw[j.len]at k;exact k
 obtain⟨R,H⟩:=nM (J0 c f g);have h:=hV0 H;unfold J0 at h;rw[H];have ab:=p.bl;clear H ha T j p U M;unfold LC;obtain⟨N,Q⟩:=nM (allB g.bags.length (λi=>I2 c (f.getD i (0,0)) g.n (g.bags.getD i [])));rw[Q]at m h;obtain⟨r,u⟩:=nM g.bags.length;obtain⟨G,t⟩:=nM f.length;obtain⟨O,K⟩:=nM c.length;obtain⟨rn,V⟩:=nM g.row.length;obtain⟨P,L⟩:=nM g.n;obtain⟨xr,ae,W,Y,xh⟩:=x;dsimp only at m⊢;rw[u,t,K,L]at m;rw[u,t]at h;rw[u]at ab;rw[t]at S;rw[u,t,K,V,L];clear Q u t K V L;have I:ϣ w (ϊ (ϊ (ϊ w #[vS n G q] 30) #[vS o O s] 29) #[vS xr rn ae,vI P,vS W r Y] 102):=by
  repeat (first|exact bR|(refine Below.alloc ?_ ϫ _))
 by_cases v:r=G
 ·subst v;have F:Ϣ (N=R):=by show _=_;rw[<-h.o];simp
  have Z:Ϣ (∀d,ϣ w d->Δ d w 0 (vS n r q)->Δ d (w+1) 0 (vS o O s)->Δ d (w+1+1) 1 (vI P)->CT 277 #[vS W r Y,.func (.func 278) #[] #[ω w,ω (w+1),ω (w+1+1)]] d (ψ d (.bool N))):=λd hb v h2 h3=>m.o _ _ _ d hb rfl v h2 h3;clear m h;go_enter func240,ntmps240;go_wp2_with (go_at_call 277;refine(Z.o _ I Ϩ Ϩ Ϩ).mono ?_;rintro e d ⟨rfl,z⟩);go_ret;exact⟨Aa F.o,bT I z⟩
 ·have af:((r:Int)==(G:Int))=false:=ϩ;have F:Ϣ (false=R):=by show _=_;rw[<-h.o];simp[v]
  clear m h;go_enter func240,ntmps240;go_wp2;go_ret;exact⟨Aa F.o,I⟩
end gr
namespace pl
open vl
variable {c : List Int} {w : Ϡ} {b : Nat} {x y : Int} {a : ϡ}
theorem Aaq{a:Int×Int}(h:a.1<=2):EI c a=2:=if_neg Ϥ
theorem XP{a:Int×Int}(h:2<a.1)(d:a.1<=4):EI c a=c.getD a.2.toNat 0:=if_pos Ϥ
theorem XQ(p:Pln)(x:PA)(w:Ϡ)(hw:wfPlan p)(hp:planAt w p x)(h0:Ag p=0):
 χ 64 #[Aj p x] w λe w'=>(∃P al,e= .returned (vS P (Ce p).length al)/\Ay w' P (Ce p))/\ϣ w w':=by
 have Y:=Bv h0;have hm:=Dp Y.2.2.1;have G:=hIz (λ(w1:Ϡ) (hb:ϣ w w1)=>Gf p x w1 (Ae hp hb) Ϥ Ϥ Ϥ Ϥ);have af:Ϣ (∀j,j<p.group.length->0<=p.group.getD j 0/\p.group.getD j 0<((A7 p).length:Int)):=UA Y.2.2.2.2;have ap:p.group.length<=8:=Ϥ;have a4:p.aggs.length<=4:=Ϥ;have a5:(A7 p).length<=8:=by unfold A7;rw[lAp];omega
 have M:yes p.grouped (∀j,j<p.aggs.length->CN (A7 p) (p.aggs.getD j (0,0))/\(1<=(p.aggs.getD j (0,0)).1/\(p.aggs.getD j (0,0)).1<=4)):=λhg j hj=>⟨UC Y.2.2.2.2 j hj,Y.1.2.2 hg _ (CQ hj)⟩;have F:yes p.grouped (Ce p=p.group.map (λi=>(A7 p).getD i.toNat 0)++p.aggs.map (EI (A7 p))):=λh=>if_pos h;have E:yes (!p.grouped) (Ce p=A7 p):=λh=>if_neg (by simpa using h);have a0:Ϣ (Ay w x.g p.group):=hp.g;have az:Ϣ (DI w x.a p.aggs):=hp.a;obtain⟨d,a2⟩:=nM (A7 p);rw[a2]at G af M F E a5;obtain⟨ol,a7⟩:=nM (Ce p);rw[a7]at F E⊢;clear a2 a7 hw hp Y hm h0;obtain⟨on,au⟩:=nM ol.length;have ay:=hV0 au;rw[au];clear au;obtain⟨bs,bx,bw,br,b2,bu,left,right,bj,bk,a1,s,q⟩:=p;obtain⟨l,lc,r,rc,lk,bv,rk,bz,g,gc,a,ac⟩:=x;unfold Aj at G⊢;dsimp only at G af M F E a0 az ap a4⊢;obtain⟨n6,h6⟩:∃n,left.length=n:=⟨_,rfl⟩;obtain⟨n7,h7⟩:∃n,right.length=n:=⟨_,rfl⟩;obtain⟨n8,h8⟩:∃n,bj.length=n:=⟨_,rfl⟩;obtain⟨n9,h9⟩:∃n,bk.length=n:=⟨_,rfl⟩;obtain⟨aa,H⟩:∃n,s.length=n:=⟨_,rfl⟩;obtain⟨L,S⟩:∃n,q.length=n:=⟨_,rfl⟩;obtain⟨R,V⟩:∃n,d.length=n:=⟨_,rfl⟩;have ab:=hV0 H;have ai:=hV0 S;have ae:=hV0 V;rw[h6,h7,h8,h9,H,S,V]at G;rw[H,V]at af;rw[S]at M a4;rw[H]at ap;rw[V]at a5;rw[h6,h7,h8,h9,H,S];clear h6 h7 h8 h9 H S V;go_enter func64,ntmps64;go_wp2_with fail;refine(G.o _ ϯ).mono ?_;rintro e t ⟨⟨P,al,rfl,ho⟩,T⟩;have an:=ϯ.trans (T.mono Ϧ);have aj:Ϣ (Ay t P d):=(Ea ho).1;have b0:Δ t w 10 (.bool a1):=by rw[(Cu T).1 _ _ Ϧ];go_simp
 have bm:Δ t w 11 (vS g aa gc):=by rw[(Cu T).1 _ _ Ϧ];go_simp
 have bn:Δ t w 12 (vS a L ac):=by rw[(Cu T).1 _ _ Ϧ];go_simp
 clear T ho G
 cases a1 with
 |false=>
  have O:Ϣ (ol=d):=E rfl;have bc:Ϣ (R=on):=by show R=on;rw[<-ay.o,O.o,ae.o]
  clear F E;go_wp2;go_ret;exact⟨⟨P,al,by rw[<-bc.o];rfl,by rw[O.o];exact aj.o⟩,an⟩
 |true=>
  have O:Ϣ (ol=s.map (λi=>d.getD i.toNat 0)++q.map (EI d)):=F rfl;have bb:Ϣ (∀j,j<L->CN d (q.getD j (0,0))/\(1<=(q.getD j (0,0)).1/\(q.getD j (0,0)).1<=4)):=M rfl;clear M F E;go_wp2
  go_loopw [4,5] (λv i wr=> ∃k:Nat,k<=aa/\i=vI k/\Cm wr t.heap.size v ((s.take k).map (λi=>d.getD i.toNat 0))/\ϣ t wr) (λ_ i _=>aa - (intOf i).toNat)
  case atStart=>exact⟨0,Nat.zero_le _,rfl,World.ownsRow_nil _ _ _ _,bR⟩
  case round=>
   obtain⟨k,hk,rfl,a8,J⟩:=hrel;have N:=hV0 a8;have ba:=J.size;have bg:=bT an J;have bo:=cLz J bm;clear a8;by_cases aq:k<aa
   ·obtain⟨b,o,e,xk⟩:=a0.o k (by rw[ab.o];exact aq);subst e;have av:=af.o k aq;have f:Ϣ ((s.take (k+1)).map (λi=>d.getD i.toNat 0)=(s.take k).map (λi=>d.getD i.toNat 0)++[d.getD (s.getD k 0).toNat 0]):=by
     show(s.take (k+1)).map _=_;rw[Hy s k (by rw[ab.o];exact aq),map_append];rfl
    have ak:((s.take k).map (λi=>d.getD i.toNat 0)).length<=8:=by rw[lMp,length_take];omega
    obtain⟨z,hz⟩:=nM (s.getD k 0);rw[hz]at xk av f;obtain⟨u,rfl⟩:=Int.eq_ofNat_of_zero_le av.1;rw[Int.toNat_natCast]at f;obtain⟨b1,o1,e1,x1⟩:=aj.o u (by rw[ae.o];omega);subst e1;have qk:=cLz bg xk;have q1:=cLz J x1;obtain⟨cv,W⟩:=nM (d.getD u 0);rw[W]at q1 f;obtain⟨pr,Z⟩:=nM ((s.take k).map (λi=>d.getD i.toNat 0));rw[Z]at N f ak;have i1:=nn0 k;have i2:(k:Int)<(aa:Int):=Ϥ;have i3:=nn0 u;have i4:(u:Int)<(R:Int):=Ϥ;clear xk x1 hz W av Z;go_wp2_with (at_builtin;refine Fw rfl (.tmp 20) (.tmp 29) rfl t.heap.size u4 pr rfl wr N.o cv wr.heap.size rfl rfl Ϥ ba ?_;intro v2 w3 B X);obtain⟨Q,c2,C,_⟩:=Bw B;have U:=D8 J ba N.o X;subst C;go_roundw;exact⟨k+1,Ϥ,by go_num,by rw[f.o];exact B,U⟩;simp[intOf];omega
   ·have f:Ϣ (s.take k=s):=take_of_length_le (by rw[ab.o];omega);have aw:Ϣ (Cm wr t.heap.size u4 (s.map (λi=>d.getD i.toNat 0))):=by
     have:=N.o;rw[f.o]at this;exact this
    have bi:(s.map (λi=>d.getD i.toNat 0)).length<=8:=by rw[lMp,ab.o];exact ap
    obtain⟨A,a6⟩:=nM (s.map (λi=>d.getD i.toNat 0));rw[a6]at aw O bi;clear N f a6;go_wp2
    go_loopw [4,6] (λv i wr=> ∃k:Nat,k<=L/\i=vI k/\Cm wr t.heap.size v (A++(q.take k).map (EI d))/\ϣ t wr) (λ_ i _=>L - (intOf i).toNat)
    case atStart=>exact⟨0,Nat.zero_le _,rfl,by simpa using aw.o,J⟩
    case round=>
     obtain⟨m,hm,rfl,a9,K⟩:=hrel;have D:=hV0 a9;have ah:=K.size;have ao:=bT an K;have bp:=cLz K bn;clear a9;by_cases ar:m<L
     ·obtain⟨b,o,e,xa,xb⟩:=az.o m (by rw[ai.o];exact ar);subst e;have qa:=cLz ao xa;have qb:=cLz ao xb;have am:=bb.o m ar;have f:Ϣ (A++(q.take (m+1)).map (EI d)=A++(q.take m).map (EI d)++[EI d (q.getD m (0,0))]):=by
       show A++(q.take (m+1)).map (EI d)=_;rw[takeA q m (by rw[ai.o];exact ar),map_append,<-append_assoc];rfl
      have ak:(A++(q.take m).map (EI d)).length<=100:=by rw[lAp,lMp,length_take];omega
      obtain⟨⟨fv,kv⟩,a3⟩:∃z,q.getD m (0,0)=z:=⟨_,rfl⟩;rw[a3]at qa qb am f;dsimp only at qa qb am;obtain⟨I,bq,be⟩:=am;obtain⟨pr,Z⟩:=nM (A++(q.take m).map (EI d));rw[Z]at D f ak;have i1:=nn0 m;have i2:(m:Int)<(L:Int):=Ϥ;clear xa xb a3 Z;by_cases bh:fv<=2
      ·have ag:Ϣ (A++(q.take (m+1)).map (EI d)=pr++[2]):=by
        have:=f.o;rw[Aaq (c:=d) (a:=(fv,kv)) bh]at this;exact this
       clear f I;go_wp2_with (at_builtin;refine Fw rfl (.tmp 45) (.tmp 46) rfl t.heap.size u4 pr rfl wr D.o 2 wr.heap.size rfl rfl Ϥ ah ?_;intro v2 w3 B X);obtain⟨Q,c2,C,_⟩:=Bw B;have U:=D8 K ah D.o X;subst C;go_roundw;exact⟨m+1,Ϥ,by go_num,by rw[ag.o];exact B,U⟩;simp[intOf];omega
      ·have hk:0<=kv/\kv<(R:Int):=by
        unfold CN at I;dsimp only at I;rw[if_neg Ϥ,ae.o]at I;exact I.1
       obtain⟨u,rfl⟩:=Int.eq_ofNat_of_zero_le hk.1;obtain⟨b1,o1,e1,x1⟩:=aj.o u (by rw[ae.o];omega);subst e1;have q1:=cLz K x1;have ag:Ϣ (A++(q.take (m+1)).map (EI d)=pr++[d.getD u 0]):=by
        have:=f.o;rw[XP (c:=d) (a:=(fv,(u:Int))) Ϫ be]at this;exact this
       obtain⟨cv,W⟩:=nM (d.getD u 0);rw[W]at q1 ag;have i3:=nn0 u;have i4:(u:Int)<(R:Int):=Ϥ;clear f I hk W x1;go_wp2_with (at_builtin;refine Fw rfl (.tmp 48) (.tmp 58) rfl t.heap.size u4 pr rfl wr D.o cv wr.heap.size rfl rfl Ϥ ah ?_;intro v2 w3 B X);obtain⟨Q,c2,C,_⟩:=Bw B;have U:=D8 K ah D.o X;subst C;go_roundw;exact⟨m+1,Ϥ,by go_num,by rw[ag.o];exact B,U⟩;simp[intOf];omega
     ·have f:Ϣ (q.take m=q):=take_of_length_le (by rw[ai.o];omega);have ax:Ϣ (Cm wr t.heap.size u4 ol):=by
       have:=D.o;rw[f.o,<-O.o]at this;exact this
      obtain⟨Q,c2,C,_⟩:=Bw ax.o;rw[ay.o]at C;subst C;have bd:Ϣ (Ay wr Q ol):=(Ea ax.o).1;clear D f;go_wp2;go_ret;exact⟨⟨Q,c2,rfl,bd.o⟩,ao⟩
def Gx:Pln:=⟨1,4, -5,5,0,2,[2,2],[2,2],[0],[0],false,[],[]⟩
theorem LF:wfPlan Gx:=⟨by unfold i64;decide,by unfold i64;decide,ϥ,ϥ,ϥ,ϥ,ϥ,ϥ⟩
theorem Dy:Ag Gx=0:=ϧ
theorem Ae0(h0:Δ w b 0 (vI x)):Ay w (ϋ b) [x]:=by
 intro i d
 match i,d with
 |0,_=>exact⟨b,0,rfl,h0⟩
theorem Ae1(h0:Δ w b 0 (vI x))(h1:Δ w b 1 (vI y)):Ay w (ϋ b) [x,y]:=by
 intro i d
 match i,d with
 |0,_=>exact⟨b,0,rfl,h0⟩
 |1,_=>exact⟨b,0,rfl,h1⟩
theorem AfJ:Ay w a []:=λi d=>absurd d (Nat.not_lt_zero i)
theorem AfK:DI w a []:=λi d=>absurd d (Nat.not_lt_zero i)
theorem XR{p:Pln}{x:PA}(h1:Ay w x.l p.left)(d:Ay w x.r p.right)(e:Ay w x.lk p.lkeys)(f:Ay w x.rk p.rkeys)(g:Ay w x.g p.group)(h:DI w x.a p.aggs):planAt w p x:=⟨h1,d,e,f,g,h⟩
def S0(n:Nat)(a:Option Addr):Prop:=∀y,a=some y->n<=y.block
theorem Kj{n o:Nat}(h:n<=b):S0 n (some ⟨b,o,none⟩):=λy hy=>by cases hy;exact h
theorem U9(w:Ϡ):χ 23 #[] w λe w'=>(∃x,e= .returned (Aj Gx x)/\planAt w' Gx x/\S0 w.heap.size x.l/\S0 w.heap.size x.r/\S0 w.heap.size x.lk/\S0 w.heap.size x.rk)/\ϣ w w':=by
 go_enter func23,ntmps23;go_wp2;exact bodyPost_ret (v:=.agg #[vI 1,vI 4,vI (-5),vI 5,Ϗ,vI 2,vS (ϋ (w+1)) 2 2,vS (ϋ (w+1)) 2 2,vS (ϋ (w+1+1)) 1 1,vS (ϋ (w+1+1+1)) 1 1,ϑ,ώ,ώ]) (by simp[results,results23,go_sem]) rfl
  ⟨⟨⟨some ⟨w+1,0,none⟩,2,some ⟨w+1,0,none⟩,2,some ⟨w+1+1,0,none⟩,1,some ⟨w+1+1+1,0,none⟩,1,none,0,none,0⟩,rfl,
   XR (Ae1 Ϩ Ϩ) (Ae1 Ϩ Ϩ) (Ae0 Ϩ) (Ae0 Ϩ) AfJ AfK,Kj (n:=w.heap.size) (b:=w.heap.size+1) Ϥ,Kj (n:=w.heap.size) (b:=w.heap.size+1) Ϥ,Kj (n:=w.heap.size) (b:=w.heap.size+1+1) Ϥ,Kj (n:=w.heap.size) (b:=w.heap.size+1+1+1) Ϥ⟩,by
   repeat (first|exact bR|apply Below.drew|(refine Below.setCell ?_ Ϧ _)|(refine Below.alloc ?_ ϫ _))
   ⟩
theorem WA(n:Int)(w:Ϡ):χ 99 #[vI n] w (ψ w (.agg #[vI 2,vI n,ϐ])):=by
 go_enter func99,ntmps99;go_wp2;exact bodyPost_ret (v:=.agg #[vI 2,vI n,ϐ]) (by simp[results,results99,go_sem]) rfl ⟨rfl,by repeat (first|exact bR|apply Below.drew|(refine Below.setCell ?_ Ϧ _)|(refine Below.alloc ?_ ϫ _))⟩
theorem AeU(h0:Δ w b 0 (vI 2))(h1:Δ w b 1 (vI x))(d:Δ w b 2 (.string ⟨#[]⟩))(e:Δ w b 3 (vI 2))(f:Δ w b 4 (vI y))(g:Δ w b 5 (.string ⟨#[]⟩)):
 vl.rowAt w (ϋ b) [⟨2,x,⟨#[]⟩⟩,⟨2,y,⟨#[]⟩⟩]:=by
 intro i h
 match i,h with
 |0,_=>exact⟨b,0,rfl,h0,h1,d⟩
 |1,_=>exact⟨b,0,rfl,e,f,g⟩
theorem Hs(x y:Int)(w:Ϡ):χ 49 #[vI x,vI y] w λe w'=>(∃d,e= .returned (vS d 2 2)/\vl.rowAt w' d [⟨2,x,⟨#[]⟩⟩,⟨2,y,⟨#[]⟩⟩])/\ϣ w w':=by
 go_enter func49,ntmps49;go_wp2_with fail;refine(WA _ _).mono ?_;rintro e i ⟨rfl,g⟩;go_wp2_with fail;refine(WA _ _).mono ?_;rintro e j ⟨rfl,h⟩;have f:=bT g h;go_wp2;go_ret;exact⟨⟨_,rfl,AeU Ϩ Ϩ Ϩ Ϩ Ϩ Ϩ⟩,f.alloc f.size _⟩
end pl
namespace gr
open vl pl bt
attribute [local go_sem] Oper.semAt_some
end gr
end Go.Proofs.YtfkihidbnfkbaaaGreatDoor
