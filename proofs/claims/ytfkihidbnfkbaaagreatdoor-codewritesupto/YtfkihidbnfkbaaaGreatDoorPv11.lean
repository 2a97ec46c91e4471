import Derived.Test.YtfkihidbnfkbaaaGreatDoorPv10
import Derived.Laws.AppendOwnNone
import Derived.Test.YtfkihidbnfkbaaaGreatDoorPv8
set_option linter.all false
set_option maxHeartbeats 4000000
set_option maxRecDepth 100000
open Go.ChangeShapes Go.WideShapes Go.ChangeAt Go.RowKit Go.Maps Go.WideMaps Go.Sort List
open Inhabited renaming default->ϰ
namespace Go.Proofs.YtfkihidbnfkbaaaGreatDoor
open Go.Proofs.Tryz
namespace ch
open vl
variable {r1 r2 : List Cnt} {k : Nat}
instance:DecidableEq Cnt:=λa b=>if h:a.r=b.r/\a.n=b.n then isTrue (by cases a;cases b;simp at h;simp[h])else isFalse (λe=>h (by rw[e];exact⟨rfl,rfl⟩))
theorem RU(h1:k<r1.length)(a:k<r2.length)(h:r1.take k=r2.take k)(b:r1.getD k ϰ=r2.getD k ϰ):r1.take (k+1)=r2.take (k+1):=by
 rw[WE r1 k h1,WE r2 k a,h,b]
theorem Af9(a:r1.getD k ϰ≠r2.getD k ϰ):decide (r1=r2)=false:=decide_eq_false (λe=>a (by rw[e]))
theorem OU(a1 a2:ϡ)(c1 c2:Nat)(r1 r2:List Cnt)(w:Ϡ)(h1:viewAt w a1 r1)(h2:viewAt w a2 r2)(x1:Cc r1)(x2:Cc r2)(l1:r1.length<=ύ)(l2:r2.length<=ύ):
 χ 44 #[vS a1 r1.length c1,vS a2 r2.length c2] w (ψ w (.bool (decide (r1=r2)))):=by
 by_cases hl:r1.length=r2.length
 ·obtain⟨j,u⟩:∃j,r1.length=j:=⟨_,rfl⟩;have R:r2.length=j:=Ϥ;rw[u]at l1;have Z:=hV0 u;have aa:=hV0 R;rw[u,R];clear hl l2 u R;go_enter func44,ntmps44;go_wp2
  go_loopw [5] (λi wr=> ∃k:Nat,k<=j/\i=vI k/\ϣ w wr/\r1.take k=r2.take k) (λi _=>j - (intOf i).toNat)
  case atStart=>exact⟨0,Nat.zero_le _,rfl,bR,rfl⟩
  case round=>
   obtain⟨k,hk,rfl,b,ab⟩:=hrel;have Y:=hV0 ab;clear ab;by_cases ae:k<j
   ·have N:k<r1.length:=by rw[Z.o];exact ae
    have O:k<r2.length:=by rw[aa.o];exact ae
    obtain⟨r,y,m,D,e1,p1,p2,p3⟩:=h1 k N;obtain⟨s,z,n,E,e2,y1,y2,y3⟩:=h2 k O;subst e1 e2;have I:=(Hw x1 k N).2.1;have J:=(Hw x2 k O).2.1;have l:=cLz b p1;have L:Ϣ (vl.rowAt wr m (r1.getD k ϰ).r):=Ac p2 b;have A:=cLz b p3;have o:=cLz b y1;have M:Ϣ (vl.rowAt wr n (r2.getD k ϰ).r):=Ac y2 b;have F:=cLz b y3;clear p1 p2 p3 y1 y2 y3 h1 h2;have p:Ϣ (r1.getD k ϰ≠r2.getD k ϰ->decide (r1=r2)=false):=Af9;have K:Ϣ (r1.getD k ϰ=r2.getD k ϰ->r1.take (k+1)=r2.take (k+1)):=RU N O Y.o;obtain⟨⟨B,f⟩,ac⟩:∃c,r1.getD k ϰ=c:=⟨_,rfl⟩;obtain⟨⟨C,v⟩,ad⟩:∃c,r2.getD k ϰ=c:=⟨_,rfl⟩;rw[ac]at l A L p K I;rw[ad]at o F M p K J;clear ac ad;dsimp only at l A o F L M I J;obtain⟨V,P⟩:∃x,B.length=x:=⟨_,rfl⟩;obtain⟨W,Q⟩:∃x,C.length=x:=⟨_,rfl⟩;have q:Ϣ (∀a,ϣ wr a->CT 94 #[vS m V D,vS n W E] a (ψ a (.bool (decide (B=C))))):=λa hb=>by
     rw[<-P,<-Q];exact Tl m n D E B C a (Ac L.o hb) (Ac M.o hb) I J
    rw[P]at l;rw[Q]at o;clear P Q I J;have i1:=nn0 k;have i2:(k:Int)<(j:Int):=Ϥ;have dr:ϣ wr wr.drew:=bR.drew;by_cases G:f=v
    ·subst G;by_cases H:B=C
     ·have g:Ϣ (r1.take (k+1)=r2.take (k+1)):=K.o (by rw[H]);rw[decide_eq_true H]at q;go_wp2
      go_region_held3 (λa=>Δ a r (y+k * 2) (vS m V D)/\Δ a s (z+k * 2) (vS n W E)/\Δ a r (y+k * 2+1) (vI f)/\Δ a s (z+k * 2+1) (vI f)) (first|go_keep|exact⟨cLz d l,cLz d o,cLz d A,cLz d F⟩)
       (first|(go_at_call 94;refine(q.o wr.drew dr).mono ?_;rintro e X ⟨rfl,d⟩))
      all_goals
       have S:ϣ w X:=b.drew.trans (d.mono b.size);go_wp2;go_roundw;exact⟨k+1,Ϥ,by go_num,S,g.o⟩;simp[intOf];omega
     ·have g:Ϣ (decide (r1=r2)=false):=p.o (λe=>H (by cases e;rfl));rw[decide_eq_false H]at q;go_wp2
      go_region_held3 (λa=>Δ a r (y+k * 2) (vS m V D)/\Δ a s (z+k * 2) (vS n W E)/\Δ a r (y+k * 2+1) (vI f)/\Δ a s (z+k * 2+1) (vI f)) (first|go_keep|exact⟨cLz d l,cLz d o,cLz d A,cLz d F⟩)
       (first|(go_at_call 94;refine(q.o wr.drew dr).mono ?_;rintro e X ⟨rfl,d⟩))
      all_goals
       have S:ϣ w X:=b.drew.trans (d.mono b.size);go_wp2;go_ret;exact⟨Aa g.o.symm,S⟩
    ·have ah:(f==v)=false:=by simpa using G
     have ai:∀t,binOp .neq t (vI f) (vI v)=pure (.bool true):=λt=>by rw[binOp_neq,show(f !=v)=true by simpa using G]
     have g:Ϣ (decide (r1=r2)=false):=p.o (λe=>G (by cases e;rfl));go_wp2
     go_quiet (fail)
     have ag:=below_drewN b nq;go_wp2;go_ret;exact⟨Aa g.o.symm,ag⟩
   ·have HT:Ϣ (decide (r1=r2)=true):=decide_eq_true (by
     have h:=Y.o;rw[take_of_length_le (by rw[Z.o];omega),take_of_length_le (by rw[aa.o];omega)]at h;exact h)
    go_wp2;go_ret;exact⟨Aa HT.o.symm,b⟩
 ·have af:((r1.length:Int)==(r2.length:Int))=false:=by rw[beq_eq_false_iff_ne];omega
  have g:Ϣ (decide (r1=r2)=false):=decide_eq_false (λe=>hl (by rw[e]));obtain⟨n1,T⟩:∃x,r1.length=x:=⟨_,rfl⟩;obtain⟨n2,U⟩:∃x,r2.length=x:=⟨_,rfl⟩;rw[T,U]at af;rw[T,U];rw[T]at l1;rw[U]at l2;go_enter func44,ntmps44;go_wp2;go_ret;exact⟨Aa g.o.symm,bR⟩
instance:DecidableEq Chg:=λa b=>if h:a.k=b.k/\a.r=b.r then isTrue (by cases a;cases b;simp at h;simp[h])else isFalse (λe=>h (by rw[e];exact⟨rfl,rfl⟩))
theorem Dk(b a j:Nat):(⟨b,a,none⟩:Addr).add j=⟨b,a+j,none⟩:=by unfold Addr.add;split<;>simp_all
theorem F5{w:Ϡ}{b d:Nat}{r:List Cel}(h:vl.rowAt w (some ⟨b,d,none⟩) r):∀j u,(celCells r)[j]? =some u->w.cell? ((⟨b,d,none⟩:Addr).add j)=some u:=by
 intro j u a;have g:j<(celCells r).length:=by
  rcases Nat.lt_or_ge j (celCells r).length with h|h
  ·exact h
  ·rw[getElem?_eq_none h]at a;cases a
 rw[Ed]at g;have c:j/3<r.length:=Ϥ;obtain⟨q,s,e,i,l,m⟩:=h (j/3) c
 cases e
 obtain⟨n,o,p⟩:=IA r (j/3) c;rw[Dk];have f:j=j/3 * 3\/j=j/3 * 3+1\/j=j/3 * 3+1+1:=Ϥ;rcases f with e|e|e
 ·rw[e]at a⊢;rw[n]at a;rw[<-a];exact i
 ·rw[e]at a⊢;rw[o]at a;rw[<-a];exact l
 ·rw[e]at a⊢;rw[p]at a;rw[<-a];exact m
theorem EK(r:List Cel):∀u∈celCells r,u.oneCell'=true:=by
 intro u b;unfold celCells at b;obtain⟨c,_,a⟩:=mem_flatMap.1 b;simp at a;rcases a with rfl|rfl|rfl<;>rfl
end ch
namespace ch
open vl
theorem Pz(p q:List (Int×Value)):BF (p++q)=BF p++BF q:=by unfold BF;rw[flatMap_append]
theorem X6{p:List (Int×Value)}(h:∀x∈p,x.2.oneCell'=true):∀u∈BF p,u.oneCell'=true:=by
 intro u a;unfold BF at a;obtain⟨x,b,a⟩:=mem_flatMap.1 a;simp at a;rcases a with rfl|rfl
 ·rfl
 ·exact h x b
end ch
namespace ch
open vl
end ch
namespace bt
open vl pl
theorem Q0(a b:List Cel):celCells (a++b)=celCells a++celCells b:=by unfold celCells;rw[flatMap_append]
theorem Iw(v:Value)(h:v.cells.size=3)(n:Nat):(Builtin.zeroCells v.cells n).size=n * 3:=by
 simp[Builtin.zeroCells,h]
theorem X7(n:Nat)(w:Ϡ)(x:n<=1000):
 χ 378 #[ώ,vI n] w λe q=>(∃v,e= .returned v/\AM q w v [])/\ϣ w q:=by
 obtain⟨p,l,o,u,d⟩:=info_parts Tryz.infoV;by_cases s:n=0
 ·subst s;go_enter func378,ntmps378;go_wp2;go_ret;exact⟨⟨_,rfl,World.ownsRow_nil _ _ _ _⟩,bR⟩
 ·have b:∀f,(Builtin.append_ #[80,3] f #[ώ,vI (n:Int)]).run Tryz.prog w=
   .ok (vS (ϋ w) n (grownCap w n 0 119)) (w.drew.alloc (.cells (Builtin.zeroCells (Value.agg #[Ϗ,Ϗ,ϐ]).cells n++Builtin.zeroCells (Value.agg #[Ϗ,Ϗ,ϐ]).cells (grownCap w n 0 119 - n)) 119)):=λf=>by
   have h:=Lib.run_append_grow_zeros w 80 3 f 119 p (.agg #[Ϗ,Ϗ,ϐ]) .i64 .i64 underlying80 underlying3 l o none 0 0 [] (run_firstCells_none w.drew p.size 0 0 0) n Ϥ Ϥ Ϥ Ϥ (by rw[d];omega) (growslice_fits Ϥ (by rw[d];omega));simpa using h
  have t:n<=grownCap w n 0 119:=grownCap_ge w _ _ _;have a:grownCap w n 0 119<=maxLen:=grownCap_le_maxLen w n 0 119 Ϯ;obtain⟨G,i⟩:∃G,G=grownCap w n 0 119:=⟨_,rfl⟩;rw[<-i]at b t a;have m:(Builtin.zeroCells (Value.agg #[Ϗ,Ϗ,ϐ]).cells n++Builtin.zeroCells (Value.agg #[Ϗ,Ϗ,ϐ]).cells (G - n)).size=G * 3:=by
   rw[Array.size_append,Iw _ rfl,Iw _ rfl];omega
  obtain⟨g,j⟩:∃c,Builtin.zeroCells (Value.agg #[Ϗ,Ϗ,ϐ]).cells n++Builtin.zeroCells (Value.agg #[Ϗ,Ϗ,ϐ]).cells (G - n)=c:=⟨_,rfl⟩;rw[j]at b m;have r:Ϣ (AM (w.drew.alloc (.cells g 119)) w.heap.size (vS (ϋ w) 0 G) []):=World.ownsRow_made (base:=w.heap.size) (e:=119) (size:=3) w.drew g G nR a m;have y:0<(n:Int):=Ϥ;unfold maxLen at a;clear j i l o u d;go_enter func378,ntmps378;go_wp2_with (at_builtin;refine Lib.wpList_append_run _ rfl _ _ _ _ rfl _ _ rfl rfl _ _ (b _) ?_);go_ret;exact⟨⟨_,rfl,r.o⟩,(bR.drew).alloc nR _⟩
theorem Mm(g:Nat)(R S:ϡ)(V W:Nat)(a c:List Cel)(w:Ϡ)(n1:0<a.length)(n2:0<c.length)(m1:a.length<=400)(m2:c.length<=400)(h1:vl.rowAt w R a)(f:vl.rowAt w S c)
 (L:Δ w g 0 (vS R a.length V)) (M:Δ w g 1 (vS S c.length W)):
 χ 364 #[vS (ϋ g) 2 2] w λe d=>(∃r X,e= .returned (vS r (a++c).length X)/\AM d w (vS r (a++c).length X) (a++c))/\ϣ w d:=by
 obtain⟨y,Z,af,ag,ah⟩:=info_parts Tryz.infoV;have m:Ϣ (Tryz.prog.info? 119=some y/\y.zero=some (.agg #[Ϗ,Ϗ,ϐ])/\y.size=3/\y.bytes=32):=⟨Z,af,ag,ah⟩;clear Z af ag ah;obtain⟨T,o1,rfl,_⟩:=h1 0 n1;obtain⟨U,o2,rfl,_⟩:=f 0 n2;have ai:Ϣ (∀d,ϣ w d->∀j u,(celCells a)[j]? =some u->d.cell? ((⟨T,o1,none⟩:Addr).add j)=some u):=λd p=>ch.F5 (Ac h1 p);have aj:Ϣ (∀d,ϣ w d->∀j u,(celCells c)[j]? =some u->d.cell? ((⟨U,o2,none⟩:Addr).add j)=some u):=λd p=>ch.F5 (Ac f p);have ac:Ϣ ((celCells a).length=a.length * 3):=Ed a;have ae:Ϣ ((celCells c).length=c.length * 3):=Ed c;clear h1 f;obtain⟨z,G⟩:∃n,a.length=n:=⟨_,rfl⟩;obtain⟨C,H⟩:∃n,c.length=n:=⟨_,rfl⟩;have E:=hV0 G;have P:=hV0 H;rw[G]at n1 m1 L ac;rw[H]at n2 m2 M ae;rw[lAp,G,H];clear G H;have HG:Ϣ (∀A,CT 378 #[ώ,vI ((z:Int)+C)] A λe d=>(∃v,e= .returned v/\AM d A v [])/\ϣ A d):=λA=>by
  have h:=X7 (z+C) A Ϥ;rwa[Int.natCast_add]at h
 go_enter func364,ntmps364;go_wp2
 go_loop [3,11] (λs i=>(i=vI 0/\s=vI 0)\/(i=vI 1/\s=vI z)\/(i=vI 2/\s=vI ((z:Int)+C))) (λ_ i=>2 - (intOf i).toNat)
 case atStart=>exact .inl ⟨rfl,rfl⟩
 case round=>
  rcases hrel with⟨rfl,rfl⟩|⟨rfl,rfl⟩|⟨rfl,rfl⟩
  ·go_wp2
   go_round
   case rel=>exact .inr (.inl ⟨rfl,rfl⟩)
   case measure=>simp[intOf]
  ·go_wp2
   go_round
   case rel=>exact .inr (.inr ⟨rfl,rfl⟩)
   case measure=>simp[intOf]
  ·go_wp2_with fail;refine(HG.o _).mono ?_;rintro e A ⟨⟨v,rfl,ab⟩,F⟩;have f1:=cLz F L;have f2:=cLz F M;have Q:=hV0 ab;clear ab;go_wp2
   go_loopw [6,27] (λx i wr=> ∃l:List Cel,((i=vI 0/\l=[])\/(i=vI 1/\l=a)\/(i=vI 2/\l=a++c))/\AM wr w x l/\ϣ w wr) (λ_ i _=>2 - (intOf i).toNat)
   case atStart=>exact⟨[],.inl ⟨rfl,rfl⟩,Q.o,F⟩
   case round=>
    obtain⟨l,hl,aa,o⟩:=hrel;have g1:=cLz o L;have g2:=cLz o M;have q:=hV0 aa;have I:=o.size;clear aa f1 f2 F Q;have ak:(u27=vI 0/\[]=l)\/(u27=vI 1/\a=l)\/(u27=vI 2/\a++c=l):=by
     rcases hl with⟨h1,f⟩|⟨h1,f⟩|⟨h1,f⟩
     ·exact .inl ⟨h1,f.symm⟩
     ·exact .inr (.inl ⟨h1,f.symm⟩)
     ·exact .inr (.inr ⟨h1,f.symm⟩)
    clear hl;rcases ak with⟨rfl,rfl⟩|⟨rfl,rfl⟩|⟨rfl,rfl⟩
    ·go_wp2_with (at_builtin;refine wpList_append_own _ rfl (.tmp 31) (.tmp 32) 80 rfl w.heap.size 119 y (.agg #[Ϗ,Ϗ,ϐ]) 3 32 underlying80 m.o.1 m.o.2.1 m.o.2.2.1 m.o.2.2.2 rfl ϥ _ _ _ rfl q.o ⟨T,o1,none⟩ z V (celCells a) rfl (by rw[ac.o]) (ai.o _ o) (ch.EK a) (by unfold maxLen;(simp only[length_nil];omega)) (by(simp only[length_nil];omega)) I ?_;intro O D B N am);have J:Ϣ (AM D w O (a)):=by
      show D.ownsRow _ _ _ _ (a).length (celCells a);simpa[E.o,celCells]using B
     obtain⟨r,K,t,Y⟩:=Bw B;subst t;go_roundw
     case rel=>exact⟨a,.inr (.inl ⟨rfl,rfl⟩),J.o,o.grown N I (λb p=>(World.ownsRow.lt q.o b p).1)⟩
     case measure=>simp[intOf]
    ·go_wp2_with (at_builtin;refine wpList_append_own _ rfl (.tmp 31) (.tmp 32) 80 rfl w.heap.size 119 y (.agg #[Ϗ,Ϗ,ϐ]) 3 32 underlying80 m.o.1 m.o.2.1 m.o.2.2.1 m.o.2.2.2 rfl ϥ _ _ _ rfl q.o ⟨U,o2,none⟩ C W (celCells c) rfl (by rw[ae.o]) (aj.o _ o) (ch.EK c) (by unfold maxLen;(rw[E.o];omega)) (by(rw[E.o];omega)) I ?_;intro O D B N am);have J:Ϣ (AM D w O (a++c)):=by
      show D.ownsRow _ _ _ _ (a++c).length (celCells (a++c));rw[lAp,Q0,P.o];exact B
     obtain⟨r,K,t,Y⟩:=Bw B;subst t;go_roundw
     case rel=>exact⟨a++c,.inr (.inr ⟨rfl,rfl⟩),J.o,o.grown N I (λb p=>(World.ownsRow.lt q.o b p).1)⟩
     case measure=>simp[intOf]
    ·obtain⟨r,K,t,Y⟩:=Bw q.o;have al:(a++c).length=z+C:=by rw[lAp,E.o,P.o]
     rw[al]at t;subst t;go_wp2;go_ret;exact⟨⟨r,K,rfl,q.o⟩,o⟩
end bt
end Go.Proofs.YtfkihidbnfkbaaaGreatDoor
