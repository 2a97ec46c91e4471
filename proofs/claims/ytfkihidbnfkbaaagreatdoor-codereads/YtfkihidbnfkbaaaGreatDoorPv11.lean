import Derived.Test.YtfkihidbnfkbaaaGreatDoorPv9
import Derived.Test.YtfkihidbnfkbaaaGreatDoorPv6
set_option linter.all false
set_option maxHeartbeats 4000000
set_option maxRecDepth 100000
open Go.ChangeShapes Go.WideShapes Go.ChangeAt Go.RowKit Go.Maps Go.WideMaps Go.Sort List
open Inhabited renaming default->ϰ
open List renaming length->ϲ
namespace Go.Proofs.YtfkihidbnfkbaaaGreatDoor
open Go.Proofs.Tryz
namespace ch
open vl
variable {r1 r2 : List Cnt} {k : Nat}
instance:DecidableEq Cnt:=λa b=>if h:a.r=b.r/\a.n=b.n then isTrue (by cases a;cases b;simp at h;simp[h])else isFalse (λe=>h (by rw[e];exact⟨rfl,rfl⟩))
def SR(h1:k<ϲ r1)(a:k<ϲ r2)(h:r1.take k=r2.take k)(b:r1.getD k ϰ=r2.getD k ϰ):r1.take (k+1)=r2.take (k+1):=by
 rw[XN r1 k h1,XN r2 k a,h,b]
def AgI(a:r1.getD k ϰ≠r2.getD k ϰ):decide (r1=r2)=false:=BP (λe=>a (by rw[e]))
theorem PD(a1 a2:Ϡ)(c1 c2:Nat)(r1 r2:List Cnt)(w:ϟ)(h1:viewAt w a1 r1)(h2:viewAt w a2 r2)(x1:BK r1)(x2:BK r2)(l1:ϲ r1<=ύ)(l2:ϲ r2<=ύ):
 χ 44 #[vS a1 (ϲ r1) c1,vS a2 (ϲ r2) c2] w (ψ w (.bool (decide (r1=r2)))):=by
 by_cases hl:ϲ r1=ϲ r2
 ·obtain⟨j,u⟩:∃j,ϲ r1=j:=⟨_,rfl⟩;have R:ϲ r2=j:=ϣ;rw[u]at l1;have Z:=hV0 u;have aa:=hV0 R;rw[u,R];clear hl l2 u R;go_enter func44,ntmps44;go_wp2
  go_loopw [5] (λi wr=> ∃k:Nat,k<=j/\i=vI k/\Ϣ w wr/\r1.take k=r2.take k) (λi _=>j - (intOf i).toNat)
  case atStart=>exact⟨0,At _,rfl,bR,rfl⟩
  case round=>
   obtain⟨k,hk,rfl,b,ab⟩:=hrel;have Y:=hV0 ab;clear ab;by_cases ae:k<j
   ·have N:k<ϲ r1:=by rw[Z.o];exact ae
    have O:k<ϲ r2:=by rw[aa.o];exact ae
    obtain⟨r,y,m,D,e1,p1,p2,p3⟩:=h1 k N;obtain⟨s,z,n,E,e2,y1,y2,y3⟩:=h2 k O;subst e1 e2;have I:=(Ir x1 k N).2.1;have J:=(Ir x2 k O).2.1;have l:=cLz b p1;have L:ϡ (vl.rowAt wr m (r1.getD k ϰ).r):=Ac p2 b;have A:=cLz b p3;have o:=cLz b y1;have M:ϡ (vl.rowAt wr n (r2.getD k ϰ).r):=Ac y2 b;have F:=cLz b y3;clear p1 p2 p3 y1 y2 y3 h1 h2;have p:ϡ (r1.getD k ϰ≠r2.getD k ϰ->decide (r1=r2)=false):=AgI;have K:ϡ (r1.getD k ϰ=r2.getD k ϰ->r1.take (k+1)=r2.take (k+1)):=SR N O Y.o;obtain⟨⟨B,f⟩,ac⟩:∃c,r1.getD k ϰ=c:=⟨_,rfl⟩;obtain⟨⟨C,v⟩,ad⟩:∃c,r2.getD k ϰ=c:=⟨_,rfl⟩;rw[ac]at l A L p K I;rw[ad]at o F M p K J;clear ac ad;dsimp only at l A o F L M I J;obtain⟨V,P⟩:∃x,ϲ B=x:=⟨_,rfl⟩;obtain⟨W,Q⟩:∃x,ϲ C=x:=⟨_,rfl⟩;have q:ϡ (∀a,Ϣ wr a->CT 94 #[vS m V D,vS n W E] a (ψ a (.bool (decide (B=C))))):=λa hb=>by
     rw[<-P,<-Q];exact NQ m n D E B C a (Ac L.o hb) (Ac M.o hb) I J
    rw[P]at l;rw[Q]at o;clear P Q I J;have i1:=nn0 k;have i2:(k:Int)<(j:Int):=ϣ;have dr:Ϣ wr wr.drew:=bR.drew;by_cases G:f=v
    ·subst G;by_cases H:B=C
     ·have g:ϡ (r1.take (k+1)=r2.take (k+1)):=K.o (by rw[H]);rw[DB H]at q;go_wp2
      go_region_held3 (λa=>Δ a r (y+k * 2) (vS m V D)/\Δ a s (z+k * 2) (vS n W E)/\Δ a r (y+k * 2+1) (vI f)/\Δ a s (z+k * 2+1) (vI f)) (first|go_keep|exact⟨cLz d l,cLz d o,cLz d A,cLz d F⟩)
       (first|(go_at_call 94;refine(q.o wr.drew dr).mono ?_;rintro e X ⟨rfl,d⟩))
      all_goals
       have S:Ϣ w X:=b.drew.trans (d.mono b.size);go_wp2;go_roundw;exact⟨k+1,ϣ,by go_num,S,g.o⟩;simp[intOf];omega
     ·have g:ϡ (decide (r1=r2)=false):=p.o (λe=>H (by cases e;rfl));rw[BP H]at q;go_wp2
      go_region_held3 (λa=>Δ a r (y+k * 2) (vS m V D)/\Δ a s (z+k * 2) (vS n W E)/\Δ a r (y+k * 2+1) (vI f)/\Δ a s (z+k * 2+1) (vI f)) (first|go_keep|exact⟨cLz d l,cLz d o,cLz d A,cLz d F⟩)
       (first|(go_at_call 94;refine(q.o wr.drew dr).mono ?_;rintro e X ⟨rfl,d⟩))
      all_goals
       have S:Ϣ w X:=b.drew.trans (d.mono b.size);go_wp2;go_ret;exact⟨Aa g.o.symm,S⟩
    ·have ah:(f==v)=false:=by simpa using G
     have ai:∀t,binOp .neq t (vI f) (vI v)=pure (.bool true):=λt=>by rw[binOp_neq,show(f !=v)=true by simpa using G]
     have g:ϡ (decide (r1=r2)=false):=p.o (λe=>G (by cases e;rfl));go_wp2
     go_quiet (fail)
     have ag:=NK b nq;go_wp2;go_ret;exact⟨Aa g.o.symm,ag⟩
   ·have HT:ϡ (decide (r1=r2)=true):=DB (by
     have h:=Y.o;rw[KI (by rw[Z.o];omega),KI (by rw[aa.o];omega)]at h;exact h)
    go_wp2;go_ret;exact⟨Aa HT.o.symm,b⟩
 ·have af:((ϲ r1:Int)==(ϲ r2:Int))=false:=by rw[K5];omega
  have g:ϡ (decide (r1=r2)=false):=BP (λe=>hl (by rw[e]));obtain⟨n1,T⟩:∃x,ϲ r1=x:=⟨_,rfl⟩;obtain⟨n2,U⟩:∃x,ϲ r2=x:=⟨_,rfl⟩;rw[T,U]at af;rw[T,U];rw[T]at l1;rw[U]at l2;go_enter func44,ntmps44;go_wp2;go_ret;exact⟨Aa g.o.symm,bR⟩
instance:DecidableEq Chg:=λa b=>if h:a.k=b.k/\a.r=b.r then isTrue (by cases a;cases b;simp at h;simp[h])else isFalse (λe=>h (by rw[e];exact⟨rfl,rfl⟩))
def Di(b a j:Nat):(⟨b,a,none⟩:Addr).add j=⟨b,a+j,none⟩:=by unfold Addr.add;split<;>simp_all
def FH{w:ϟ}{b d:Nat}{r:List Cel}(h:vl.rowAt w (some ⟨b,d,none⟩) r):∀j u,(celCells r)[j]? =some u->w.cell? ((⟨b,d,none⟩:Addr).add j)=some u:=by
 intro j u a;have g:j<ϲ (celCells r):=by
  rcases RN j (ϲ (celCells r)) with h|h
  ·exact h
  ·rw[cR h]at a;cases a
 rw[Eb]at g;have c:j/3<ϲ r:=ϣ;obtain⟨q,s,e,i,l,m⟩:=h (j/3) c
 cases e
 obtain⟨n,o,p⟩:=IV r (j/3) c;rw[Di];have f:j=j/3 * 3\/j=j/3 * 3+1\/j=j/3 * 3+1+1:=ϣ;rcases f with e|e|e
 ·rw[e]at a⊢;rw[n]at a;rw[<-a];exact i
 ·rw[e]at a⊢;rw[o]at a;rw[<-a];exact l
 ·rw[e]at a⊢;rw[p]at a;rw[<-a];exact m
def Fc(r:List Cel):∀u∈celCells r,u.oneCell'=true:=by
 intro u b;unfold celCells at b;obtain⟨c,_,a⟩:=eI.1 b;simp at a;rcases a with rfl|rfl|rfl<;>rfl
end ch
namespace bt
open vl pl
def Rh(a b:List Cel):celCells (a++b)=celCells a++celCells b:=by unfold celCells;rw[SN]
def IH(v:Value)(h:v.cells.size=3)(n:Nat):(Builtin.zeroCells v.cells n).size=n * 3:=by
 simp[Builtin.zeroCells,h]
theorem YJ(n:Nat)(w:ϟ)(x:n<=1000):
 χ 378 #[ώ,vI n] w λe q=>(∃v,e= .returned v/\AF q w v [])/\Ϣ w q:=by
 obtain⟨p,l,o,u,d⟩:=IR Tryz.infoV;by_cases s:n=0
 ·subst s;go_enter func378,ntmps378;go_wp2;go_ret;exact⟨⟨_,rfl,KX _ _ _ _⟩,bR⟩
 ·have b:∀f,(Builtin.append_ #[80,3] f #[ώ,vI (n:Int)]).run Tryz.prog w=
   .ok (vS (ϋ w) n (grownCap w n 0 119)) (w.drew.alloc (.cells (Builtin.zeroCells (Value.agg #[Ϗ,Ϗ,ϐ]).cells n++Builtin.zeroCells (Value.agg #[Ϗ,Ϗ,ϐ]).cells (grownCap w n 0 119 - n)) 119)):=λf=>by
   have h:=Lib.run_append_grow_zeros w 80 3 f 119 p (.agg #[Ϗ,Ϗ,ϐ]) .i64 .i64 underlying80 underlying3 l o none 0 0 [] (run_firstCells_none w.drew p.size 0 0 0) n ϣ ϣ ϣ ϣ (by rw[d];omega) (growslice_fits ϣ (by rw[d];omega));simpa using h
  have t:n<=grownCap w n 0 119:=grownCap_ge w _ _ _;have a:grownCap w n 0 119<=maxLen:=grownCap_le_maxLen w n 0 119 ϭ;obtain⟨G,i⟩:∃G,G=grownCap w n 0 119:=⟨_,rfl⟩;rw[<-i]at b t a;have m:(Builtin.zeroCells (Value.agg #[Ϗ,Ϗ,ϐ]).cells n++Builtin.zeroCells (Value.agg #[Ϗ,Ϗ,ϐ]).cells (G - n)).size=G * 3:=by
   rw[fW,IH _ rfl,IH _ rfl];omega
  obtain⟨g,j⟩:∃c,Builtin.zeroCells (Value.agg #[Ϗ,Ϗ,ϐ]).cells n++Builtin.zeroCells (Value.agg #[Ϗ,Ϗ,ϐ]).cells (G - n)=c:=⟨_,rfl⟩;rw[j]at b m;have r:ϡ (AF (w.drew.alloc (.cells g 119)) w.heap.size (vS (ϋ w) 0 G) []):=eF (base:=w.heap.size) (e:=119) (size:=3) w.drew g G nR a m;have y:0<(n:Int):=ϣ;unfold maxLen at a;clear j i l o u d;go_enter func378,ntmps378;go_wp2_with (at_builtin;refine Lib.wpList_append_run _ rfl _ _ _ _ rfl _ _ rfl rfl _ _ (b _) ?_);go_ret;exact⟨⟨_,rfl,r.o⟩,(bR.drew).alloc nR _⟩
theorem MK(g:Nat)(R S:Ϡ)(V W:Nat)(a c:List Cel)(w:ϟ)(n1:0<ϲ a)(n2:0<ϲ c)(m1:ϲ a<=400)(m2:ϲ c<=400)(h1:vl.rowAt w R a)(f:vl.rowAt w S c)
 (L:Δ w g 0 (vS R (ϲ a) V)) (M:Δ w g 1 (vS S (ϲ c) W)):
 χ 364 #[vS (ϋ g) 2 2] w λe d=>(∃r X,e= .returned (vS r (ϲ (a++c)) X)/\AF d w (vS r (ϲ (a++c)) X) (a++c))/\Ϣ w d:=by
 obtain⟨y,Z,af,ag,ah⟩:=IR Tryz.infoV;have m:ϡ (Tryz.prog.info? 119=some y/\y.zero=some (.agg #[Ϗ,Ϗ,ϐ])/\y.size=3/\y.bytes=32):=⟨Z,af,ag,ah⟩;clear Z af ag ah;obtain⟨T,o1,rfl,_⟩:=h1 0 n1;obtain⟨U,o2,rfl,_⟩:=f 0 n2;have ai:ϡ (∀d,Ϣ w d->∀j u,(celCells a)[j]? =some u->d.cell? ((⟨T,o1,none⟩:Addr).add j)=some u):=λd p=>ch.FH (Ac h1 p);have aj:ϡ (∀d,Ϣ w d->∀j u,(celCells c)[j]? =some u->d.cell? ((⟨U,o2,none⟩:Addr).add j)=some u):=λd p=>ch.FH (Ac f p);have ac:ϡ (ϲ (celCells a)=ϲ a * 3):=Eb a;have ae:ϡ (ϲ (celCells c)=ϲ c * 3):=Eb c;clear h1 f;obtain⟨z,G⟩:∃n,ϲ a=n:=⟨_,rfl⟩;obtain⟨C,H⟩:∃n,ϲ c=n:=⟨_,rfl⟩;have E:=hV0 G;have P:=hV0 H;rw[G]at n1 m1 L ac;rw[H]at n2 m2 M ae;rw[lAp,G,H];clear G H;have HG:ϡ (∀A,CT 378 #[ώ,vI ((z:Int)+C)] A λe d=>(∃v,e= .returned v/\AF d A v [])/\Ϣ A d):=λA=>by
  have h:=YJ (z+C) A ϣ;rwa[dN]at h
 go_enter func364,ntmps364;go_wp2
 go_loop [3,11] (λs i=>(i=vI 0/\s=vI 0)\/(i=vI 1/\s=vI z)\/(i=vI 2/\s=vI ((z:Int)+C))) (λ_ i=>2 - (intOf i).toNat)
 case atStart=>exact .inl ⟨rfl,rfl⟩
 case round=>
  rcases hrel with⟨rfl,rfl⟩|⟨rfl,rfl⟩|⟨rfl,rfl⟩
  ·go_wp2
   go_round
   case rel=>exact .inr (.inl ⟨rfl,rfl⟩)
   case measure=>simp[intOf]
  ·go_wp2
   go_round
   case rel=>exact .inr (.inr ⟨rfl,rfl⟩)
   case measure=>simp[intOf]
  ·go_wp2_with fail;refine(HG.o _).mono ?_;rintro e A ⟨⟨v,rfl,ab⟩,F⟩;have f1:=cLz F L;have f2:=cLz F M;have Q:=hV0 ab;clear ab;go_wp2
   go_loopw [6,27] (λx i wr=> ∃l:List Cel,((i=vI 0/\l=[])\/(i=vI 1/\l=a)\/(i=vI 2/\l=a++c))/\AF wr w x l/\Ϣ w wr) (λ_ i _=>2 - (intOf i).toNat)
   case atStart=>exact⟨[],.inl ⟨rfl,rfl⟩,Q.o,F⟩
   case round=>
    obtain⟨l,hl,aa,o⟩:=hrel;have g1:=cLz o L;have g2:=cLz o M;have q:=hV0 aa;have I:=o.size;clear aa f1 f2 F Q;have ak:(u27=vI 0/\[]=l)\/(u27=vI 1/\a=l)\/(u27=vI 2/\a++c=l):=by
     rcases hl with⟨h1,f⟩|⟨h1,f⟩|⟨h1,f⟩
     ·exact .inl ⟨h1,f.symm⟩
     ·exact .inr (.inl ⟨h1,f.symm⟩)
     ·exact .inr (.inr ⟨h1,f.symm⟩)
    clear hl;rcases ak with⟨rfl,rfl⟩|⟨rfl,rfl⟩|⟨rfl,rfl⟩
    ·go_wp2_with (at_builtin;refine Vc _ rfl (.tmp 31) (.tmp 32) 80 rfl w.heap.size 119 y (.agg #[Ϗ,Ϗ,ϐ]) 3 32 underlying80 m.o.1 m.o.2.1 m.o.2.2.1 m.o.2.2.2 rfl Ϥ _ _ _ rfl q.o ⟨T,o1,none⟩ z V (celCells a) rfl (by rw[ac.o]) (ai.o _ o) (ch.Fc a) (by unfold maxLen;(simp only[NS];omega)) (by(simp only[NS];omega)) I ?_;intro O D B N am);have J:ϡ (AF D w O (a)):=by
      show D.ownsRow _ _ _ _ (ϲ (a)) (celCells a);simpa[E.o,celCells]using B
     obtain⟨r,K,t,Y⟩:=Bo B;subst t;go_roundw
     case rel=>exact⟨a,.inr (.inl ⟨rfl,rfl⟩),J.o,o.grown N I (λb p=>(aB q.o b p).1)⟩
     case measure=>simp[intOf]
    ·go_wp2_with (at_builtin;refine Vc _ rfl (.tmp 31) (.tmp 32) 80 rfl w.heap.size 119 y (.agg #[Ϗ,Ϗ,ϐ]) 3 32 underlying80 m.o.1 m.o.2.1 m.o.2.2.1 m.o.2.2.2 rfl Ϥ _ _ _ rfl q.o ⟨U,o2,none⟩ C W (celCells c) rfl (by rw[ae.o]) (aj.o _ o) (ch.Fc c) (by unfold maxLen;(rw[E.o];omega)) (by(rw[E.o];omega)) I ?_;intro O D B N am);have J:ϡ (AF D w O (a++c)):=by
      show D.ownsRow _ _ _ _ (ϲ (a++c)) (celCells (a++c));rw[lAp,Rh,P.o];exact B
     obtain⟨r,K,t,Y⟩:=Bo B;subst t;go_roundw
     case rel=>exact⟨a++c,.inr (.inr ⟨rfl,rfl⟩),J.o,o.grown N I (λb p=>(aB q.o b p).1)⟩
     case measure=>simp[intOf]
    ·obtain⟨r,K,t,Y⟩:=Bo q.o;have al:ϲ (a++c)=z+C:=by rw[lAp,E.o,P.o]
     rw[al]at t;subst t;go_wp2;go_ret;exact⟨⟨r,K,rfl,q.o⟩,o⟩
end bt
