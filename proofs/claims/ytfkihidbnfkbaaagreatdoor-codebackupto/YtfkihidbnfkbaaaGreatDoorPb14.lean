import Derived.Test.YtfkihidbnfkbaaaGreatDoorPb13
import Derived.Test.YtfkihidbnfkbaaaGreatDoorPb10
set_option linter.all false
set_option maxHeartbeats 4000000
set_option maxRecDepth 100000
open Go.ChangeShapes Go.WideShapes Go.ChangeAt Go.RowKit Go.Maps Go.WideMaps List
namespace Go.Proofs.YtfkihidbnfkbaaaGreatDoor
open Go.Proofs.Tryz
namespace ch
open vl
end ch
namespace bt
open vl pl
theorem P4(a b:List Cel):celCells (a++b)=celCells a++celCells b:=by unfold celCells;rw[flatMap_append]
theorem Hk(v:Value)(h:v.cells.size=3)(n:Nat):(Builtin.zeroCells v.cells n).size=n * 3:=by
 simp[Builtin.zeroCells,h]
theorem Wt(n:Nat)(w:ϙ)(u:n<=1000):
 η 378 #[ψ,vI n] w λe p=>(∃v,e= .returned v/\AA p w v [])/\Ϝ w p:=by
 obtain⟨o,k,m,t,d⟩:=info_parts Tryz.infoV;by_cases r:n=0
 ·subst r;go_enter func378,ntmps378;go_wp2;go_ret;exact⟨⟨_,rfl,World.ownsRow_nil _ _ _ _⟩,bR⟩
 ·have b:∀f,(Builtin.append_ #[80,3] f #[ψ,vI (n:Int)]).run Tryz.prog w=
   .ok (vS (τ w) n (grownCap w n 0 119)) (w.drew.alloc (.cells (Builtin.zeroCells (Value.agg #[ω,ω,ϊ]).cells n++Builtin.zeroCells (Value.agg #[ω,ω,ϊ]).cells (grownCap w n 0 119 - n)) 119)):=λf=>by
   have h:=Lib.run_append_grow_zeros w 80 3 f 119 o (.agg #[ω,ω,ϊ]) .i64 .i64 underlying80 underlying3 k m none 0 0 [] (run_firstCells_none w.drew o.size 0 0 0) n ϝ ϝ ϝ ϝ (by rw[d];omega) (growslice_fits ϝ (by rw[d];omega));simpa using h
  have s:n<=grownCap w n 0 119:=grownCap_ge w _ _ _;have a:grownCap w n 0 119<=maxLen:=grownCap_le_maxLen w n 0 119 ϧ;obtain⟨G,i⟩:∃G,G=grownCap w n 0 119:=⟨_,rfl⟩;rw[<-i]at b s a;have l:(Builtin.zeroCells (Value.agg #[ω,ω,ϊ]).cells n++Builtin.zeroCells (Value.agg #[ω,ω,ϊ]).cells (G - n)).size=G * 3:=by
   rw[Array.size_append,Hk _ rfl,Hk _ rfl];omega
  obtain⟨g,j⟩:∃c,Builtin.zeroCells (Value.agg #[ω,ω,ϊ]).cells n++Builtin.zeroCells (Value.agg #[ω,ω,ϊ]).cells (G - n)=c:=⟨_,rfl⟩;rw[j]at b l;have q:ϛ (AA (w.drew.alloc (.cells g 119)) w.heap.size (vS (τ w) 0 G) []):=World.ownsRow_made (base:=w.heap.size) (e:=119) (size:=3) w.drew g G nR a l;have x:0<(n:Int):=ϝ;unfold maxLen at a;clear j i k m t d;go_enter func378,ntmps378;go_wp2_with (at_builtin;refine Lib.wpList_append_run _ rfl _ _ _ _ rfl _ _ rfl rfl _ _ (b _) ?_);go_ret;exact⟨⟨_,rfl,q.o⟩,(bR.drew).alloc nR _⟩
theorem Lx(g:Nat)(R S:Ϛ)(V W:Nat)(a c:List Cel)(w:ϙ)(n1:0<a.length)(n2:0<c.length)(m1:a.length<=400)(m2:c.length<=400)(f:vl.rowAt w R a)(k:vl.rowAt w S c)
 (L:Δ w g 0 (vS R a.length V)) (M:Δ w g 1 (vS S c.length W)):
 η 364 #[vS (τ g) 2 2] w λe d=>(∃r X,e= .returned (vS r (a++c).length X)/\AA d w (vS r (a++c).length X) (a++c))/\Ϝ w d:=by
 obtain⟨y,Z,af,ag,ah⟩:=info_parts Tryz.infoV;have m:ϛ (Tryz.prog.info? 119=some y/\y.zero=some (.agg #[ω,ω,ϊ])/\y.size=3/\y.bytes=32):=⟨Z,af,ag,ah⟩;clear Z af ag ah;obtain⟨T,o1,rfl,_⟩:=f 0 n1;obtain⟨U,o2,rfl,_⟩:=k 0 n2;have ai:ϛ (∀d,Ϝ w d->∀j u,(celCells a)[j]? =some u->d.cell? ((⟨T,o1,none⟩:Addr).add j)=some u):=λd p=>ch.FG (Ab f p);have aj:ϛ (∀d,Ϝ w d->∀j u,(celCells c)[j]? =some u->d.cell? ((⟨U,o2,none⟩:Addr).add j)=some u):=λd p=>ch.FG (Ab k p);have ac:ϛ ((celCells a).length=a.length * 3):=DT a;have ae:ϛ ((celCells c).length=c.length * 3):=DT c;clear f k;obtain⟨z,G⟩:∃n,a.length=n:=⟨_,rfl⟩;obtain⟨C,H⟩:∃n,c.length=n:=⟨_,rfl⟩;have E:=hqz G;have P:=hqz H;rw[G]at n1 m1 L ac;rw[H]at n2 m2 M ae;rw[lAp,G,H];clear G H;have HG:ϛ (∀A,CT 378 #[ψ,vI ((z:Int)+C)] A λe d=>(∃v,e= .returned v/\AA d A v [])/\Ϝ A d):=λA=>by
  have h:=Wt (z+C) A ϝ;rwa[Int.natCast_add]at h
 go_enter func364,ntmps364;go_wp2
 go_loop [3,11] (λs i=>(i=vI 0/\s=vI 0)\/(i=vI 1/\s=vI z)\/(i=vI 2/\s=vI ((z:Int)+C))) (λ_ i=>2 - (intOf i).toNat)
 case atStart=>exact .inl ⟨rfl,rfl⟩
 case round=>
  rcases hrel with⟨rfl,rfl⟩|⟨rfl,rfl⟩|⟨rfl,rfl⟩
  ·go_wp2
   go_round
   case rel=>exact .inr (.inl ⟨rfl,rfl⟩)
   case measure=>simp[intOf]
  ·go_wp2
   go_round
   case rel=>exact .inr (.inr ⟨rfl,rfl⟩)
   case measure=>simp[intOf]
  ·go_wp2_with fail;refine(HG.o _).mono ?_;rintro e A ⟨⟨v,rfl,ab⟩,F⟩;have f1:=cLz F L;have f2:=cLz F M;have Q:=hqz ab;clear ab;go_wp2
   go_loopw [6,27] (λx i wr=> ∃l:List Cel,((i=vI 0/\l=[])\/(i=vI 1/\l=a)\/(i=vI 2/\l=a++c))/\AA wr w x l/\Ϝ w wr) (λ_ i _=>2 - (intOf i).toNat)
   case atStart=>exact⟨[],.inl ⟨rfl,rfl⟩,Q.o,F⟩
   case round=>
    obtain⟨l,hl,aa,o⟩:=hrel;have g1:=cLz o L;have g2:=cLz o M;have q:=hqz aa;have I:=o.size;clear aa f1 f2 F Q;have ak:(u27=vI 0/\[]=l)\/(u27=vI 1/\a=l)\/(u27=vI 2/\a++c=l):=by
     rcases hl with⟨f,k⟩|⟨f,k⟩|⟨f,k⟩
     ·exact .inl ⟨f,k.symm⟩
     ·exact .inr (.inl ⟨f,k.symm⟩)
     ·exact .inr (.inr ⟨f,k.symm⟩)
    clear hl;rcases ak with⟨rfl,rfl⟩|⟨rfl,rfl⟩|⟨rfl,rfl⟩
    ·go_wp2_with (at_builtin;refine wpList_append_own _ rfl (.tmp 31) (.tmp 32) 80 rfl w.heap.size 119 y (.agg #[ω,ω,ϊ]) 3 32 underlying80 m.o.1 m.o.2.1 m.o.2.2.1 m.o.2.2.2 rfl Ϟ _ _ _ rfl q.o ⟨T,o1,none⟩ z V (celCells a) rfl (by rw[ac.o]) (ai.o _ o) (ch.EZ a) (by unfold maxLen;(simp only[length_nil];omega)) (by(simp only[length_nil];omega)) I ?_;intro O D B N am);have J:ϛ (AA D w O (a)):=by
      show D.ownsRow _ _ _ _ (a).length (celCells a);simpa[E.o,celCells]using B
     obtain⟨r,K,t,Y⟩:=Ce B;subst t;go_roundw
     case rel=>exact⟨a,.inr (.inl ⟨rfl,rfl⟩),J.o,o.grown N I (λb p=>(World.ownsRow.lt q.o b p).1)⟩
     case measure=>simp[intOf]
    ·go_wp2_with (at_builtin;refine wpList_append_own _ rfl (.tmp 31) (.tmp 32) 80 rfl w.heap.size 119 y (.agg #[ω,ω,ϊ]) 3 32 underlying80 m.o.1 m.o.2.1 m.o.2.2.1 m.o.2.2.2 rfl Ϟ _ _ _ rfl q.o ⟨U,o2,none⟩ C W (celCells c) rfl (by rw[ae.o]) (aj.o _ o) (ch.EZ c) (by unfold maxLen;(rw[E.o];omega)) (by(rw[E.o];omega)) I ?_;intro O D B N am);have J:ϛ (AA D w O (a++c)):=by
      show D.ownsRow _ _ _ _ (a++c).length (celCells (a++c));rw[lAp,P4,P.o];exact B
     obtain⟨r,K,t,Y⟩:=Ce B;subst t;go_roundw
     case rel=>exact⟨a++c,.inr (.inr ⟨rfl,rfl⟩),J.o,o.grown N I (λb p=>(World.ownsRow.lt q.o b p).1)⟩
     case measure=>simp[intOf]
    ·obtain⟨r,K,t,Y⟩:=Ce q.o;have al:(a++c).length=z+C:=by rw[lAp,E.o,P.o]
     rw[al]at t;subst t;go_wp2;go_ret;exact⟨⟨r,K,rfl,q.o⟩,o⟩
end bt
end Go.Proofs.YtfkihidbnfkbaaaGreatDoor
