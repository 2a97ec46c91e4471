import Derived.Test.YtfkihidbnfkbaaaGreatDoorPv13
set_option linter.all false
set_option maxHeartbeats 16000000
set_option maxRecDepth 100000
open Inhabited renaming default->ϰ
open List renaming length->ϲ
namespace Go.Proofs.YtfkihidbnfkbaaaGreatDoor
open ChangeShapes WideShapes ChangeAt RowKit List Proofs.Tryz
namespace gr
open vl pl bt
theorem RE(f:FuncId)(eg:∀L w,(callFunc f L).run prog w= .ok (.enter f L) w)(m:Array Value)(P:Nat->Bool)(a:Ϡ)(cap:Nat)(j:List GX)(l:List Grp)(w:ϟ)(Y:ϲ l<=ύ)(ha:gsAt w a j l)
 (H:∀i c,i<ϲ l->Ϣ w c->Calls prog f (#[vI (i:Nat),(Jf (j.getD i ϰ) (l.getD i ϰ))]++m) c (ψ c (.bool (P i)))):
 χ 238 #[vS a (ϲ l) cap,.func (.func f) #[] m] w (ψ w (.bool (allB (ϲ l) P))):=by
 have W:ϡ (∀i c,i<ϲ l->Ϣ w c->CT f (#[vI (i:Nat),(Jf (j.getD i ϰ) (l.getD i ϰ))]++m) c (ψ c (.bool (P i)))):=H;clear H;obtain⟨n,u⟩:∃n,ϲ l=n:=⟨_,rfl⟩;have K:=hV0 u;rw[u]at Y⊢;clear u;go_enter func238,ntmps238;go_wp2
 go_loopw [9] (λi wr=> ∃k:Nat,k<=n/\i=vI k/\Ϣ w wr/\∀i,i<k->P i=true) (λi _=>n - (intOf i).toNat)
 case atStart=>exact⟨0,At _,rfl,bR,λi p=>absurd p (CA i)⟩
 case round=>
  obtain⟨k,hk,rfl,g,M⟩:=hrel;have J:=hV0 M;clear M;by_cases t:k<n
  ·obtain⟨b,o,e,T,U,V⟩:=ha.cells k (by rw[K.o];exact t);subst e;obtain⟨G,S,I⟩:=lk3 g T U V;clear T U V ha;have i1:=nn0 k;have i2:(k:Int)<(n:Int):=ϣ;have d:ϡ (∀c,Ϣ wr c->CT f (#[vI (k:Nat),(Jf (j.getD k ϰ) (l.getD k ϰ))]++m) c (ψ c (.bool (P k)))):=λc X=>W.o k c (by rw[K.o];exact t) (bT g X);unfold Jf at d;obtain⟨z,R⟩:=nM (l.getD k ϰ);rw[R]at G S I d;obtain⟨y,hy⟩:=nM (j.getD k ϰ);rw[hy]at G I d;obtain⟨v1,O⟩:∃v,Value.slice y.r (ϲ z.row) y.rc=v:=⟨_,rfl⟩;obtain⟨v3,Q⟩:∃v,Value.slice y.b (ϲ z.bags) y.bc=v:=⟨_,rfl⟩;have Z:v1.oneCell'=true:=by rw[<-O];rfl
   have o3:v3.oneCell'=true:=by rw[<-Q];rfl
   obtain⟨v2,x⟩:∃v,z.n=v:=⟨_,rfl⟩;obtain⟨y1,A⟩:∃v,y.r=v:=⟨_,rfl⟩;obtain⟨y2,B⟩:∃v,ϲ z.row=v:=⟨_,rfl⟩;obtain⟨y3,C⟩:∃v,y.rc=v:=⟨_,rfl⟩;obtain⟨y4,D⟩:∃v,y.b=v:=⟨_,rfl⟩;obtain⟨y5,E⟩:∃v,ϲ z.bags=v:=⟨_,rfl⟩;obtain⟨y6,F⟩:∃v,y.bc=v:=⟨_,rfl⟩;rw[A,B,C]at G;rw[x]at S;rw[D,E,F]at I;rw[A,B,C,x,D,E,F]at d;clear R hy O x Q Z o3 A B C D E F;have N:=g.size
   cases hp:P k with
   |true=>
    rw[hp]at d;go_wp2_with (go_at_fn f;refine(d.o _ Ϯ).mono ?_;rintro e c ⟨rfl,r⟩;have s:=(g.alloc N _).trans (r.mono Ϩ));go_roundw;exact⟨k+1,ϣ,by go_num,s,λi p=>by
     rcases Fm.1 p with h|h
     ·exact J.o i h
     ·rw[h];exact hp⟩
    simp[intOf];omega
   |false=>
    have q:ϡ (allB n P=false):=CK t hp;rw[hp]at d;go_wp2_with (go_at_fn f;refine(d.o _ Ϯ).mono ?_;rintro e c ⟨rfl,r⟩;have s:=(g.alloc N _).trans (r.mono Ϩ));go_ret;exact⟨Aa q.o.symm,s⟩
  ·have q:ϡ (allB n P=true):=AA.2 (λi p=>J.o i ϣ);go_wp2;go_ret;exact⟨Aa q.o.symm,g⟩
theorem RF(d:FuncId)(F:∀v w,(callFunc d v).run prog w= .ok (.enter d v) w)(j:Array Value)(P:Nat->Bool)(a:Ϡ)(cap:Nat)(l:List (Option Addr×Nat×Nat))(w:ϟ)(E:ϲ l<=ύ)(ha:M8 w a l)
 (H:∀i c,i<ϲ l->Ϣ w c->Calls prog d (#[vI (i:Nat),vS (l.getD i (none,0,0)).1 (l.getD i (none,0,0)).2.1 (l.getD i (none,0,0)).2.2]++j) c (ψ c (.bool (P i)))):
 χ 277 #[vS a (ϲ l) cap,.func (.func d) #[] j] w (ψ w (.bool (allB (ϲ l) P))):=by
 have D:ϡ (∀i c,i<ϲ l->Ϣ w c->CT d (#[vI (i:Nat),vS (l.getD i (none,0,0)).1 (l.getD i (none,0,0)).2.1 (l.getD i (none,0,0)).2.2]++j) c (ψ c (.bool (P i)))):=H;clear H;obtain⟨n,s⟩:∃n,ϲ l=n:=⟨_,rfl⟩;have u:=hV0 s;rw[s]at E⊢;clear s;go_enter func277,ntmps277;go_wp2
 go_loopw [9] (λi wr=> ∃k:Nat,k<=n/\i=vI k/\Ϣ w wr/\∀i,i<k->P i=true) (λi _=>n - (intOf i).toNat)
 case atStart=>exact⟨0,At _,rfl,bR,λi m=>absurd m (CA i)⟩
 case round=>
  obtain⟨k,G,rfl,g,x⟩:=hrel;have t:=hV0 x;clear x;by_cases r:k<n
  ·obtain⟨b,o,e,C⟩:=ha k (by rw[u.o];exact r);subst e;have B:=cLz g C;clear C ha;have I:=nn0 k;have J:(k:Int)<(n:Int):=ϣ;have f:ϡ (CT d (#[vI (k:Nat),vS (l.getD k (none,0,0)).1 (l.getD k (none,0,0)).2.1 (l.getD k (none,0,0)).2.2]++j) wr (ψ wr (.bool (P k)))):=D.o k wr (by rw[u.o];exact r) g;obtain⟨⟨K,L,M⟩,A⟩:∃z,l.getD k (none,0,0)=z:=⟨_,rfl⟩;rw[A]at B f;dsimp only at B f;clear A;have y:=g.size
   cases hp:P k with
   |true=>
    rw[hp]at f;go_wp2_with (go_at_fn d;refine f.o.mono ?_;rintro e c ⟨rfl,q⟩);go_roundw;exact⟨k+1,ϣ,by go_num,g.trans (q.mono y),λi m=>by
     rcases Fm.1 m with h|h
     ·exact t.o i h
     ·rw[h];exact hp⟩
    simp[intOf];omega
   |false=>
    have p:ϡ (allB n P=false):=CK r hp;rw[hp]at f;go_wp2_with (go_at_fn d;refine f.o.mono ?_;rintro e c ⟨rfl,q⟩);go_ret;exact⟨Aa p.o.symm,g.trans (q.mono y)⟩
  ·have p:ϡ (allB n P=true):=AA.2 (λi m=>t.o i ϣ);go_wp2;go_ret;exact⟨Aa p.o.symm,g⟩
attribute [local go_sem] Oper.semAt_some
variable {col rest : Int} {l : List Tal} {k : Nat}
theorem Ot(c:Cel)(col:Int)(w:ϟ)(q:c.s.size<=maxLen):
 χ 294 #[Ac1 c,vI col] w (ψ w (.bool (PV c col))):=by
 have g:ϡ (∀a,CT 183 #[Ac1 c] a (ψ a (vI (chk c.k c.n c.s)))):=λa=>Bb c.k c.n c.s a q;obtain⟨R,o⟩:=nM (PV c col);have f:=hV0 o;unfold PV at f;rw[o];clear o q;obtain⟨E,p⟩:=nM (chk c.k c.n c.s);rw[p]at g f;clear p;obtain⟨h,s,t⟩:=c;unfold Ac1 at g⊢;dsimp only at g f⊢;have i:Ϣ w (ϊ w #[vI h,vI s,.string t] 119):=Ϯ;by_cases j:E=0
 ·subst j;by_cases m:h=0
  ·subst m;have d:ϡ (true=R):=by show _=_;rw[<-f.o];simp
   go_enter func294,ntmps294;go_wp2_with (go_at_call 183;refine(g.o _).mono ?_;rintro e a ⟨rfl,b⟩;have r:Δ a w 0 (vI 0):=cLz b ϧ);go_ret;exact⟨Aa d.o,bT i b⟩
  ·have v:(h==0)=false:=by simpa using m
   by_cases n:h=col
   ·subst n;have d:ϡ (true=R):=by show _=_;rw[<-f.o];simp
    go_enter func294,ntmps294;go_wp2_with (go_at_call 183;refine(g.o _).mono ?_;rintro e a ⟨rfl,b⟩;have r:Δ a w 0 (vI h):=cLz b ϧ);go_ret;exact⟨Aa d.o,bT i b⟩
   ·have x:(h==col)=false:=by simpa using n
    have d:ϡ (false=R):=by show _=_;rw[<-f.o];simp[m,n]
    go_enter func294,ntmps294;go_wp2_with (go_at_call 183;refine(g.o _).mono ?_;rintro e a ⟨rfl,b⟩;have r:Δ a w 0 (vI h):=cLz b ϧ);go_ret;exact⟨Aa d.o,bT i b⟩
 ·have u:(E==0)=false:=by simpa using j
  have d:ϡ (false=R):=by show _=_;rw[<-f.o];simp[j]
  go_enter func294,ntmps294;go_wp2_with (go_at_call 183;refine(g.o _).mono ?_;rintro e a ⟨rfl,b⟩);go_ret;exact⟨Aa d.o,bT i b⟩
def Tr(h:k<ϲ l)(ht:Jg col rest (BR l k) (l.getD k ϰ)=false):Dp col rest (BR l k) (l.drop k)=false:=by
 rw[Q9 h,ht];rfl
def Qu(h:k<ϲ l)(ht:Jg col rest (BR l k) (l.getD k ϰ)=true):Dp col rest (BR l k) (l.drop k)=Dp col (rest - (l.getD k ϰ).2) (BR l (k+1)) (l.drop (k+1)):=by
 rw[Q9 h,ht,Bool.true_and]
theorem Mo(a:Ϡ)(cap:Nat)(l:List Tal)(col n:Int)(w:ϟ)(hl:ϲ l<=ύ)(ha:GW w a l)(hn:i64 n)(hw:∀t∈l,t.1.s.size<=maxLen/\i64 t.1.n/\i64 t.2):
 χ 279 #[vS a (ϲ l) cap,vI col,vI n] w (ψ w (.bool (Dp col n none l))):=by
 have HA:=hV0 ha;have HW:ϡ (∀k,k<ϲ l->(l.getD k ϰ).1.s.size<=maxLen/\i64 (l.getD k ϰ).2):=λk hk=>by
  have:=hw (l.getD k ϰ) (by rw[gDe,gEe hk];exact GE hk);exact⟨this.1,this.2.2⟩
 obtain⟨R,hR⟩:=nM (Dp col n none l);have ao:=hV0 hR;rw[hR];clear hR ha hw;obtain⟨E,ad⟩:=nM (ϲ l);have HN:=hV0 ad;rw[ad]at hl⊢;clear ad;obtain⟨ar,au⟩:=hn;go_enter func279,ntmps279;go_wp2
 go_loopw [7,13] (λrr t wr=> ∃(k:Nat) (r:Int),k<=E/\t=vI k/\rr=vI r/\i64 r/\Dp col r (BR l k) (l.drop k)=R/\Ϣ w wr) (λ_ t _=>E - (intOf t).toNat)
 case atStart=>exact⟨0,n,At _,rfl,rfl,⟨ar,au⟩,ao.o,bR⟩
 case round=>
  obtain⟨k,r,hk,rfl,rfl,hr,ai,f⟩:=hrel;have U:=hV0 ai;obtain⟨aw,ax⟩:=hr;clear ai;by_cases aq:k<E
  ·have N:k<ϲ l:=by rw[HN.o];exact aq
   obtain⟨A,F,e3,m1,m2,m3,m4⟩:=HA.o k N;have an:ϡ (∀j,k=j+1->∃b o,a=some ⟨b,o,none⟩/\Δ wr b (o+j * 4) (vI (l.getD j ϰ).1.k)/\Δ wr b (o+j * 4+1) (vI (l.getD j ϰ).1.n)/\Δ wr b (o+j * 4+2) (.string (l.getD j ϰ).1.s)):=λj M=>by
    obtain⟨b,o,e,x1,x2,x3,x4⟩:=HA.o j ϣ;exact⟨b,o,e,cLz f x1,cLz f x2,cLz f x3⟩
   obtain⟨aj,ak,al⟩:=HW.o k N;subst e3;obtain⟨p1,p2,p3,p4⟩:=lk4 f m1 m2 m3 m4;have az:A<wr.heap.size:=bLt _ _ p1;have i1:=nn0 k;have i2:(k:Int)<(E:Int):=ϣ;have J:ϡ (Jg col r (BR l k) (l.getD k ϰ)=false->false=R):=λh=>by rw[<-U.o];exact(Tr N h).symm
   have L:ϡ (Jg col r (BR l k) (l.getD k ϰ)=true->Dp col (r - (l.getD k ϰ).2) (BR l (k+1)) (l.drop (k+1))=R):=λh=>by rw[<-U.o];exact(Qu N h).symm
   have KV:ϡ (∀c,CT 294 #[Ac1 (l.getD k ϰ).1,vI col] c (ψ c (.bool (PV (l.getD k ϰ).1 col)))):=λc=>Ot _ _ c aj;obtain⟨⟨⟨p,q,s⟩,i⟩,hx⟩:∃z,l.getD k ϰ=z:=⟨_,rfl⟩;rw[hx]at p1 p2 p3 p4 J L KV ak al;unfold Ac1 at KV;dsimp only at p1 p2 p3 p4 KV L ak al;obtain⟨VB,ab⟩:=nM (PV ⟨p,q,s⟩ col);have V:=hV0 ab;rw[ab]at KV;clear hx m1 m2 m3 m4 ab aj
   cases VB with
   |false=>
    have v:ϡ (false=R):=J.o (by unfold Jg;rw[V.o];simp);go_wp2_with (go_at_call 294;refine(KV.o _).mono ?_;rintro e c ⟨rfl,d⟩;have m:Δ c wr 0 (vI p):=cLz d ϧ;have C:Δ c wr 1 (vI q):=cLz d ϧ;have D:Δ c wr 2 (.string s):=cLz d ϧ;have x:Δ c wr 3 (vI i):=cLz d ϧ;have u:Ϣ w c:=(f.alloc f.size _).trans (d.mono (by have:=f.size;simp<;>omega));have K:wr.heap.size<c.heap.size:=bLt _ _ m;have B:Ϣ wr c:=Ϯ.trans (d.mono ϥ));go_ret;exact⟨Aa v.o,u⟩
   |true=>
    by_cases h1:i<1
    ·have v:ϡ (false=R):=J.o (by unfold Jg;simp;intros;omega);go_wp2_with (go_at_call 294;refine(KV.o _).mono ?_;rintro e c ⟨rfl,d⟩;have m:Δ c wr 0 (vI p):=cLz d ϧ;have C:Δ c wr 1 (vI q):=cLz d ϧ;have D:Δ c wr 2 (.string s):=cLz d ϧ;have x:Δ c wr 3 (vI i):=cLz d ϧ;have u:Ϣ w c:=(f.alloc f.size _).trans (d.mono (by have:=f.size;simp<;>omega));have K:wr.heap.size<c.heap.size:=bLt _ _ m;have B:Ϣ wr c:=Ϯ.trans (d.mono ϥ));go_ret;exact⟨Aa v.o,u⟩
    ·by_cases h2:i>r
     ·have v:ϡ (false=R):=J.o (by unfold Jg;simp;intros;omega);go_wp2_with (go_at_call 294;refine(KV.o _).mono ?_;rintro e c ⟨rfl,d⟩;have m:Δ c wr 0 (vI p):=cLz d ϧ;have C:Δ c wr 1 (vI q):=cLz d ϧ;have D:Δ c wr 2 (.string s):=cLz d ϧ;have x:Δ c wr 3 (vI i):=cLz d ϧ;have u:Ϣ w c:=(f.alloc f.size _).trans (d.mono (by have:=f.size;simp<;>omega));have K:wr.heap.size<c.heap.size:=bLt _ _ m;have B:Ϣ wr c:=Ϯ.trans (d.mono ϥ));go_ret;exact⟨Aa v.o,u⟩
     ·have ay:IntKind.i64.wrap (r - i)=r - i:=by rw[RW];omega
      by_cases ac:k=0
      ·have X:ϡ (Dp col (r - i) (BR l (k+1)) (l.drop (k+1))=R):=L.o (by unfold Jg;rw[V.o,show BR l k=none from AE ac];simp;omega);have i6:decide (0<k)=false:=Ϩ;have am:i64 (r - i):=⟨ϣ,ϣ⟩;have W:=hV0 am;clear ac am;go_wp2_with (go_at_call 294;refine(KV.o _).mono ?_;rintro e c ⟨rfl,d⟩;have m:Δ c wr 0 (vI p):=cLz d ϧ;have C:Δ c wr 1 (vI q):=cLz d ϧ;have D:Δ c wr 2 (.string s):=cLz d ϧ;have x:Δ c wr 3 (vI i):=cLz d ϧ;have u:Ϣ w c:=(f.alloc f.size _).trans (d.mono (by have:=f.size;simp<;>omega));have K:wr.heap.size<c.heap.size:=bLt _ _ m;have B:Ϣ wr c:=Ϯ.trans (d.mono ϥ))
       go_quiet (fail)
       have hq:=pl.Dl u nq;have ah:=pl.Dl (RK c.heap.size c) nq;generalize (c.drewN nq)=W2 at hq ah⊢;have t3:=cLz ah x;go_wp2;go_roundw;exact⟨k+1,r - i,ϣ,by go_num,rfl,W.o,X.o,hq⟩;simp[intOf];omega
      ·obtain⟨j,M⟩:∃j,k=j+1:=⟨k - 1,ϣ⟩;obtain⟨b4,o4,Z,O,P,Q⟩:=an.o j M;injection Z with Z
       injection Z with e5 e6
       subst e5 e6;have i6:decide (0<k)=true:=Ϩ;have i7:IntKind.i64.wrap ((k:Int) - 1)=(j:Int):=by rw[RW];omega
       have i8:=nn0 j;have i9:(j:Int)<(E:Int):=ϣ;have T:ϡ (BR l k=some (l.getD j ϰ).1):=by show _=_;rw[M];rfl
       obtain⟨⟨G,H,I⟩,ag⟩:∃z,(l.getD j ϰ).1=z:=⟨_,rfl⟩;rw[ag]at O P Q T;dsimp only at O P Q;have Y:ϡ (∀c,CT 257 #[.agg #[vI G,vI H,.string I],.agg #[vI p,vI q,.string s]] c (ψ c (vI (FI ⟨G,H,I⟩ ⟨p,q,s⟩)))):=λc=>Je G H I p q s c;obtain⟨S,aa⟩:=nM (FI ⟨G,H,I⟩ ⟨p,q,s⟩);have af:=hV0 aa;rw[aa]at Y;clear aa ag M ac;by_cases h3:S<0
       ·have X:ϡ (Dp col (r - i) (BR l (k+1)) (l.drop (k+1))=R):=L.o (by unfold Jg;rw[V.o,T.o];simp[af.o,h3];omega);have W:ϡ (i64 (r - i)):=⟨ϣ,ϣ⟩;have ap:¬(S≥0):=ϣ;go_wp2_with (go_at_call 294;refine(KV.o _).mono ?_;rintro e c ⟨rfl,d⟩;have m:Δ c wr 0 (vI p):=cLz d ϧ;have C:Δ c wr 1 (vI q):=cLz d ϧ;have D:Δ c wr 2 (.string s):=cLz d ϧ;have x:Δ c wr 3 (vI i):=cLz d ϧ;have u:Ϣ w c:=(f.alloc f.size _).trans (d.mono (by have:=f.size;simp<;>omega));have K:wr.heap.size<c.heap.size:=bLt _ _ m;have B:Ϣ wr c:=Ϯ.trans (d.mono ϥ));obtain⟨v1,v2,v3⟩:=lk3 B O P Q
        go_region_held3 (λy=>Δ y A (F+j * 4) (vI G)/\Δ y A (F+j * 4+1) (vI H)/\Δ y A (F+j * 4+2) (.string I)/\ϝ y wr (vI p) (vI q) (.string s) (vI i)) (first|exact⟨cLz g v1,cLz g v2,cLz g v3,cLz g m,cLz g C,cLz g D,cLz g x⟩|go_keep|(refine⟨?_,?_,?_,?_,?_,?_,?_⟩<;>go_keep))
         (first|(go_at_call 257;refine(Y.o c.drew).mono ?_;rintro e y1 ⟨rfl,ae⟩;have g:Ϣ c y1:=bR.drew.trans ae;have t3:=cLz g x))
        all_goals
         go_wp2;go_roundw;exact⟨k+1,r - i,ϣ,by go_num,rfl,W.o,X.o,bT u g⟩;simp[intOf];omega
       ·have v:ϡ (false=R):=J.o (by unfold Jg;rw[T.o];simp[af.o];intros;omega);have ap:S≥0:=ϣ;go_wp2_with (go_at_call 294;refine(KV.o _).mono ?_;rintro e c ⟨rfl,d⟩;have m:Δ c wr 0 (vI p):=cLz d ϧ;have C:Δ c wr 1 (vI q):=cLz d ϧ;have D:Δ c wr 2 (.string s):=cLz d ϧ;have x:Δ c wr 3 (vI i):=cLz d ϧ;have u:Ϣ w c:=(f.alloc f.size _).trans (d.mono (by have:=f.size;simp<;>omega));have K:wr.heap.size<c.heap.size:=bLt _ _ m;have B:Ϣ wr c:=Ϯ.trans (d.mono ϥ));obtain⟨v1,v2,v3⟩:=lk3 B O P Q
        go_region_held3 (λy=>Δ y A (F+j * 4) (vI G)/\Δ y A (F+j * 4+1) (vI H)/\Δ y A (F+j * 4+2) (.string I)/\ϝ y wr (vI p) (vI q) (.string s) (vI i)) (first|exact⟨cLz g v1,cLz g v2,cLz g v3,cLz g m,cLz g C,cLz g D,cLz g x⟩|go_keep|(refine⟨?_,?_,?_,?_,?_,?_,?_⟩<;>go_keep))
         (first|(go_at_call 257;refine(Y.o c.drew).mono ?_;rintro e y1 ⟨rfl,ae⟩;have g:Ϣ c y1:=bR.drew.trans ae;have t3:=cLz g x))
        all_goals
         go_wp2;go_ret;exact⟨Aa v.o,bT u g⟩
  ·have av:k=E:=ϣ;have v:ϡ (decide (r=0)=R):=by show _=_;rw[<-U.o];exact(TY (by rw[HN.o];omega)).symm
   go_wp2;go_ret
   first
    |exact⟨Aa v.o,f⟩
    |exact⟨Aa (by rw[<-v.o];simp),f⟩
theorem Ab8(i A C X:Nat)(s:Ϡ)(v:Nat)(l:List Tal)(y G:Ϡ)(B H:Nat)(a:List (Int×Int))(c:List Int)(n:Int)(w:ϟ)
 (M:Δ w A 0 (vS y (ϲ a) B)) (N:Δ w C 0 (vS G (ϲ c) H)) (hX:Δ w X 1 (vI n))
 (ha:DK w y a) (Q:Au w G c) (P:GW w s l) (U:i<ϲ a) (ab:ϲ a<=ύ) (ad:ϲ c<=ύ) (ae:0<=(a.getD i (0,0)).2/\(a.getD i (0,0)).2.toNat<ϲ c)
 (V:ϲ l<=ύ) (Y:i64 n) (Z:∀t∈l,t.1.s.size<=maxLen/\i64 t.1.n/\i64 t.2):
 χ 278 #[vI (i:Nat),vS s (ϲ l) v,ω A,ω C,ω X] w (ψ w (.bool (Jh c (a.getD i (0,0)) n l))):=by
 have d:ϡ (∀p,Ϣ w p->CT 279 #[vS s (ϲ l) v,vI (c.getD (a.getD i (0,0)).2.toNat 0),vI n] p (ψ p (.bool (Dp (c.getD (a.getD i (0,0)).2.toNat 0) n none l)))):=λp j=>Mo s v l _ n p V (GY P j) Y Z;obtain⟨R,u⟩:=nM (Jh c (a.getD i (0,0)) n l);have b:=hV0 u;unfold Jh at b;rw[u];clear u;obtain⟨E,o1,e1,x1,x⟩:=ha i U;subst e1;obtain⟨r,m⟩:=ae;obtain⟨F,o2,e2,q⟩:=Q (a.getD i (0,0)).2.toNat m;subst e2;obtain⟨⟨K,col⟩,hz⟩:∃z,a.getD i (0,0)=z:=⟨_,rfl⟩;rw[hz]at x1 x q b d r m;dsimp only at x1 x q b d r m;obtain⟨h,rfl⟩:=SK r;simp only[SM]at q b d m;obtain⟨J,T⟩:=nM (c.getD h 0);rw[T]at q b d;obtain⟨ln,W⟩:=nM (ϲ l);obtain⟨D,O⟩:=nM (ϲ a);obtain⟨I,S⟩:=nM (ϲ c);rw[W]at d b V⊢;rw[O]at M U ab;rw[S]at N m ad;have i1:=nn0 i;have i2:(i:Int)<(D:Int):=ϣ;have j1:=nn0 h;have j2:(h:Int)<(I:Int):=ϣ;clear hz T W O S ha Q P Y Z r;by_cases j:K=1
 ·subst j;by_cases L:ln=0
  ·subst L;have g:ϡ (true=R):=by show _=_;rw[<-b.o,AE rfl];rfl
   go_enter func278,ntmps278;go_wp2;go_ret;exact⟨Aa g.o,bR⟩
  ·have g:ϡ (false=R):=by show _=_;rw[<-b.o,AE rfl];simp[L]
   have ah:((ln:Int)==0)=false:=Ϩ;go_enter func278,ntmps278;go_wp2;go_ret;exact⟨Aa (by rw[<-g.o]),bR⟩
 ·have ag:(K==1)=false:=by simpa using j
  have g:ϡ (Dp J n none l=R):=by show _=_;rw[<-b.o,AC j]
  rw[g.o]at d;go_enter func278,ntmps278;go_wp2
  go_region_held3 (λo=>Δ o A 0 (vS (some ⟨E,o1,none⟩) D B)/\Δ o C 0 (vS (some ⟨F,o2,none⟩) I H)/\Δ o X 1 (vI n)/\Δ o E (o1+i * 2+1) (vI (h:Int))/\Δ o F (o2+h) (vI J)) (first|exact⟨cLz f M,cLz f N,cLz f hX,cLz f x,cLz f q⟩|go_keep)
   (first|(go_at_call 279;refine(d.o w.drew bR.drew).mono ?_;rintro e y1 ⟨rfl,af⟩;have f:Ϣ w y1:=bR.drew.trans af))
  all_goals
   go_wp2;go_ret;exact⟨rfl,f⟩
theorem PM(j m:Ϡ)(o q:Nat)(b:List (Int×Int))(c:List Int)(x:GX)(g:Grp)(w:ϟ)(ha:DK w j b)(P:Au w m c)(f:gAt w x g)(n:wfG g)(O:ϲ b<=ύ)(ad:ϲ c<=ύ)(Q:∀i,i<ϲ b->0<=(b.getD i (0,0)).2/\(b.getD i (0,0)).2.toNat<ϲ c):
 χ 240 #[vS j (ϲ b) o,vS m (ϲ c) q,Jf x g] w (ψ w (.bool (Kd c b g))):=by
 have J:∀i,i<ϲ g.bags->g.bags.getD i []∈g.bags:=λi y=>by rw[gDe,gEe y];exact GE y
 have h:ϡ (∀A C X a,Ϣ w a->ϲ g.bags=ϲ b->Δ a A 0 (vS j (ϲ b) o)->Δ a C 0 (vS m (ϲ c) q)->Δ a X 1 (vI g.n)->
  χ 277 #[vS x.b (ϲ g.bags) x.bc,.func (.func 278) #[] #[ω A,ω C,ω X]] a (ψ a (.bool (allB (ϲ g.bags) (λi=>Jh c (b.getD i (0,0)) g.n (g.bags.getD i [])))))):=λA C X a u ag Z hC hX=>by
  have k:=RF 278 (IB func278 Ϧ rfl) #[ω A,ω C,ω X] (λi=>Jh c (b.getD i (0,0)) g.n (g.bags.getD i [])) x.b x.bc x.hs a (by rw[f.len];exact n.bl) (L3 f.hs u) (λi w2 y v=>by
   have z:i<ϲ g.bags:=by rw[<-f.len];exact y
   have G:=bT u v;rw[f.hl i z];exact Ab8 i A C X _ _ (g.bags.getD i []) j m o q b c g.n w2 (cLz v Z) (cLz v hC) (cLz v hX) (Cs ha G) (Al P G) (GY (f.bag i z) G) ϣ O ad (Q i ϣ) (n.tl _ (J i z)).1 n.n (n.tl _ (J i z)).2)
  rw[f.len]at k;exact k
 obtain⟨R,E⟩:=nM (Kd c b g);have d:=hV0 E;unfold Kd at d;rw[E];have ab:=n.bl;clear E ha P f n Q J;unfold Jf;obtain⟨K,N⟩:=nM (allB (ϲ g.bags) (λi=>Jh c (b.getD i (0,0)) g.n (g.bags.getD i [])));rw[N]at h d;obtain⟨p,s⟩:=nM (ϲ g.bags);obtain⟨D,r⟩:=nM (ϲ b);obtain⟨L,H⟩:=nM (ϲ c);obtain⟨rn,S⟩:=nM (ϲ g.row);obtain⟨M,I⟩:=nM g.n;obtain⟨xr,ae,T,U,xh⟩:=x;dsimp only at h⊢;rw[s,r,H,I]at h;rw[s,r]at d;rw[s]at ab;rw[r]at O;rw[s,r,H,S,I];clear N s r H S I;have F:Ϣ w (ϊ (ϊ (ϊ w #[vS j D o] 30) #[vS m L q] 29) #[vS xr rn ae,vI M,vS T p U] 102):=by
  repeat (first|exact bR|(refine DH ?_ Ϫ _))
 by_cases t:p=D
 ·subst t;have B:ϡ (K=R):=by show _=_;rw[<-d.o];simp
  have V:ϡ (∀a,Ϣ w a->Δ a w 0 (vS j p o)->Δ a (w+1) 0 (vS m L q)->Δ a (w+1+1) 1 (vI M)->CT 277 #[vS T p U,.func (.func 278) #[] #[ω w,ω (w+1),ω (w+1+1)]] a (ψ a (.bool K))):=λa hb t W Y=>h.o _ _ _ a hb rfl t W Y;clear h d;go_enter func240,ntmps240;go_wp2_with (go_at_call 277;refine(V.o _ F ϧ ϧ ϧ).mono ?_;rintro e a ⟨rfl,u⟩);go_ret;exact⟨Aa B.o,bT F u⟩
 ·have af:((p:Int)==(D:Int))=false:=Ϩ;have B:ϡ (false=R):=by show _=_;rw[<-d.o];simp[t]
  clear h d;go_enter func240,ntmps240;go_wp2;go_ret;exact⟨Aa B.o,F⟩
theorem Zh(a1 a2:Ϡ)(c1 c2:Nat)(a5 a6:List GX)(a:List Grp)(w:ϟ)(h1:gsAt w a1 a5 a)(h2:gsAt w a2 a6 a)(hl:ϲ a<=1000000)(ap:∀g∈a,ϲ g.row<=1000/\(ϲ g.bags)<=1000/\∀l∈g.bags,ϲ l<=1073741824):
 χ 43 #[vS a1 (ϲ a) c1,vS a2 (ϲ a) c2] w (ψ w (.bool true)):=by
 have am:=hV0 h1;have an:=hV0 h2;have al:ϡ (∀i,i<ϲ a->ϲ (a.getD i ϰ).row<=1000/\(ϲ (a.getD i ϰ).bags)<=1000/\∀l∈(a.getD i ϰ).bags,ϲ l<=1073741824):=λi hi=>ap _ (by rw[gDe,gEe hi];exact GE hi);obtain⟨n,hn⟩:=nM (ϲ a);have HN:=hV0 hn;rw[hn]at hl al⊢;clear h1 h2 ap hn;go_enter func43,ntmps43;go_wp2
 go_loopw [5] (λt wr=> ∃i:Nat,i<=n/\t=vI i/\Ϣ w wr) (λt _=>n - (intOf t).toNat)
 case atStart=>exact⟨0,At _,rfl,bR⟩
 case round=>
  obtain⟨i,hi,rfl,U⟩:=hrel;by_cases au:i<n
  ·have V:i<ϲ a:=by rw[HN.o];exact au
   obtain⟨b,o,e1,F,x2,u⟩:=am.o.cells i V;obtain⟨d,q,e2,f,y2,x⟩:=an.o.cells i V;have R:=am.o.each i V;have S:=an.o.each i V;have T:=al.o i au;subst e1 e2;obtain⟨g,hg⟩:=nM (a.getD i ϰ);obtain⟨⟨ar,ae,ab,ad,ah⟩,a3⟩:∃z,a5.getD i ϰ=z:=⟨_,rfl⟩;obtain⟨⟨br,ag,bb,af,bh⟩,a4⟩:∃z,a6.getD i ϰ=z:=⟨_,rfl⟩;rw[hg]at F x2 u f y2 x R S T;rw[a3]at F u R;rw[a4]at f x S;dsimp only at F u f x;have G:=hV0 R;have H:=hV0 S;have aa:=hV0 T;have ac:∀L,Ϣ w L->χ 94 #[vS ar (ϲ g.row) ae,vS br (ϲ g.row) ag] L (ψ L (.bool true)):=λL I=>by
    have h:=vl.NQ ar br ae ag g.row g.row L (vl.Ac G.o.row I) (vl.Ac H.o.row I) (by have:=aa.o.1;omega) (by have:=aa.o.1;omega);rw[DB rfl]at h;exact h
   obtain⟨rl,ax⟩:=nM (ϲ g.row);obtain⟨m,hm⟩:=nM (ϲ g.bags);obtain⟨N,hN⟩:=nM g.n;have HM:=hV0 hm;have bd:=T.2.1;rw[ax]at F f ac;rw[hm]at u x bd;rw[hN]at x2 y2;have KS:ϡ _:=ac;obtain⟨p1,p2,J,q1,q2,K⟩:=lk6 U F x2 u f y2 x;have M:ϡ (Δ w b (o+i * 3+2) (vS ab m ad)/\Δ w d (q+i * 3+2) (vS bb m af)):=⟨u,x⟩;have i1:=nn0 i;have i2:(i:Int)<(n:Int):=ϣ;clear hg a3 a4 R S T ax hm hN ac F x2 u f y2 x;go_wp2
   go_region_held3 (λD=>Δ D b (o+i * 3) (vS ar rl ae)/\Δ D b (o+i * 3+1) (vI N)/\Δ D b (o+i * 3+2) (vS ab m ad)/\Δ D d (q+i * 3) (vS br rl ag)/\Δ D d (q+i * 3+1) (vI N)/\Δ D d (q+i * 3+2) (vS bb m af)) (first|exact⟨cLz hy p1,cLz hy p2,cLz hy J,cLz hy q1,cLz hy q2,cLz hy K⟩|go_keep)
    (first|(go_at_call 94;refine(KS.o _ U.drew).mono ?_;rintro e f ⟨rfl,a9⟩;have hy:Ϣ wr f:=bR.drew.trans a9))
   all_goals
    have ba:Ϣ w f:=bT U hy;clear p1 p2 J q1 q2 K KS;go_wp2
    go_loopw [6] (λt wq=> ∃j:Nat,j<=m/\t=vI j/\Ϣ w wq) (λt _=>m - (intOf t).toNat)
    case atStart=>exact⟨0,At _,rfl,ba⟩
    case round=>
     rename World=>wq;obtain⟨j,hj,rfl,B⟩:=hrel;have J:=cLz B M.o.1;have K:=cLz B M.o.2;by_cases bc:j<m
     ·have s:j<ϲ g.bags:=by rw[HM.o];exact bc
      obtain⟨I,ho,P,p⟩:=G.o.hs j (by rw[G.o.len];exact s);have aj:=G.o.hl j s;have y:=G.o.bag j s;dsimp only at P p aj y;rw[aj]at p;obtain⟨kb,ko,Q,r⟩:=H.o.hs j (by rw[H.o.len];exact s);have ai:=H.o.hl j s;have A:=H.o.bag j s;dsimp only at Q r ai A;rw[ai]at r;have aw:=aa.o.2.2 (g.bags.getD j []) (by rw[gDe,gEe s];exact GE s);obtain⟨l,av⟩:=nM (g.bags.getD j []);obtain⟨⟨ta,tx,tc⟩,ay⟩:∃z,ah.getD j (none,0,0)=z:=⟨_,rfl⟩;obtain⟨⟨ua,ux,uc⟩,az⟩:∃z,bh.getD j (none,0,0)=z:=⟨_,rfl⟩;rw[av]at p r y A aw;rw[ay]at p y;rw[az]at r A;dsimp only at p r y A;have a7:=hV0 y;have a8:=hV0 A;obtain⟨C,ak⟩:=nM (ϲ l);have ao:=hV0 ak;rw[ak]at p r aw;rw[P]at J;rw[Q]at K;have O:ϡ (Δ w I (ho+j) (vS ta C tc)/\Δ w kb (ko+j) (vS ua C uc)/\Δ w b (o+i * 3+2) (vS (some ⟨I,ho,none⟩) m ad)/\Δ w d (q+i * 3+2) (vS (some ⟨kb,ko,none⟩) m af)):=⟨p,r,by rw[<-P];exact M.o.1,by rw[<-Q];exact M.o.2⟩;have r1:=cLz B p;have r2:=cLz B r;have j1:=nn0 j;have j2:(j:Int)<(m:Int):=ϣ;clear av ay az y A ak aj ai p r P Q;go_wp2
      go_quiet (fail)
      go_wp2
      go_loopw [7] (λt E=> ∃v:Nat,v<=C/\t=vI v/\Ϣ w E) (λt _=>C - (intOf t).toNat)
      case atStart=>exact⟨0,At _,rfl,NK B _⟩
      case round=>
       rename World=>E;obtain⟨v,hv,rfl,c⟩:=hrel;obtain⟨J,K,r1,r2⟩:=lk4 c O.o.2.2.1 O.o.2.2.2 O.o.1 O.o.2.1;by_cases a0:v<C
       ·obtain⟨sb,so,es,W,X,Y,Z⟩:=a7.o v (by rw[ao.o];exact a0);obtain⟨tb,tq,et,t1,t2,t3,t4⟩:=a8.o v (by rw[ao.o];exact a0);rw[es]at r1;rw[et]at r2;obtain⟨⟨⟨ck,cn,cs⟩,cN⟩,aq⟩:∃z,l.getD v ϰ=z:=⟨_,rfl⟩;rw[aq]at W X Y Z t1 t2 t3 t4;dsimp only at W X Y Z t1 t2 t3 t4;have W:=cLz c W;have X:=cLz c X;have Y:Δ E sb (so+v * 4+1+1) (.string cs):=cLz c Y;have Z:Δ E sb (so+v * 4+1+1+1) (vI cN):=cLz c Z;have t1:=cLz c t1;have t2:=cLz c t2;have t3:Δ E tb (tq+v * 4+1+1) (.string cs):=cLz c t3;have t4:Δ E tb (tq+v * 4+1+1+1) (vI cN):=cLz c t4;have v1:=nn0 v;have v2:(v:Int)<(C:Int):=ϣ;clear aq es et;go_wp2
        go_quiet (fail)
        go_wp2;go_roundw;exact⟨v+1,ϣ,by go_num,NK c _⟩;simp[intOf];omega
       ·go_wp2;go_roundw;exact⟨j+1,ϣ,by go_num,c⟩;simp[intOf];omega
     ·go_wp2;go_roundw;exact⟨i+1,ϣ,by go_num,B⟩;simp[intOf];omega
  ·go_wp2;go_ret;exact⟨rfl,U⟩
end gr
