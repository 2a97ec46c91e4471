import Derived.Test.YtfkihidbnfkbaaaGreatDoorPv39
import Derived.Test.YtfkihidbnfkbaaaGreatDoorPv33
import Derived.Test.YtfkihidbnfkbaaaGreatDoorPv44
set_option linter.all false
set_option maxHeartbeats 16000000
set_option maxRecDepth 100000
open Go.ChangeShapes Go.WideShapes Go.ChangeAt Go.RowKit Go.Maps Go.WideMaps List
open Inhabited renaming default->ϰ
namespace Go.Proofs.YtfkihidbnfkbaaaGreatDoor
open Go.Proofs.Tryz
namespace ch
variable {P : Program} {md : Region.Mode} {ops : Array Oper} {Q : Exit -> Act -> World -> Prop} {S : World -> Prop} {fuel : Nat} {listed : Array Bool} {a : Act} {w : Ϡ} {oi : Oper}
theorem Ae2(i:Nat)(d:Option Tmp)(j:ops[i]? =some oi)
 (l:Region.noSelect ops=true) (g:Region.free md ops listed i=true) (k:(Region.ready md ops listed).contains i=true) (b:∀c a w,Q (.panic c) (a.put oi.dst undef) w->Q (.panic c) a w) (f:oi.dst=d)
 (m:Region.wanted oi (yielded ops a.tmps)=false) (e:S w) (h:wpAnyH P md ops Q S fuel (listed.setIfInBounds i true) (a.put d undef) w):wpAnyH P md ops Q S (fuel+1) listed a w:=
 wpAnyH_take j l g k b (Or.inr ⟨m,rfl⟩) e (by rw[f];exact h)
theorem Ae3{v:Value}(i:Nat)(d:Option Tmp)(j:ops[i]? =some oi)
 (l:Region.noSelect ops=true) (g:Region.free md ops listed i=true) (k:(Region.ready md ops listed).contains i=true) (b:∀c a w,Q (.panic c) (a.put oi.dst v) w->Q (.panic c) a w) (f:oi.dst=d)
 (m:Region.wanted oi (yielded ops a.tmps)=true) (hy:∀w,S w->(execOp a.eval oi).run P w= .ok (.value v) w) (e:S w) (h:wpAnyH P md ops Q S fuel (listed.setIfInBounds i true) (a.put d v) w):wpAnyH P md ops Q S (fuel+1) listed a w:=
 wpAnyH_take j l g k b (Or.inl ⟨m,hy⟩) e (by rw[f];exact h)
end ch
namespace ch
open vl
variable {x y : Int}
theorem Js{a b:Int}(h:a=b):Ending.returned (vI a)= .returned (vI b):=by rw[h]
theorem Aer(h:x≠y):∀t,binOp .neq t (vI x) (vI y)=pure (.bool true):=λt=>by rw[binOp_neq,show(x !=y)=true by simpa using h]
theorem JD(b:Bool)(h:decide (x<y)=b):∀t,binOp .lss t (vI x) (vI y)=pure (.bool b):=λt=>by rw[binOp_lss,h]
theorem Ex(b:Bool)(h:decide (x>y)=b):∀t,binOp .gtr t (vI x) (vI y)=pure (.bool b):=λt=>by rw[binOp_gtr,h]
theorem JF(b:Bool)(h:decide (x≥y)=b):∀t,binOp .geq t (vI x) (vI y)=pure (.bool b):=λt=>by rw[binOp_geq,h]
theorem Px(a:ϡ)(cap:Nat)(v:List Cnt)(w:Ϡ)(hv:viewAt w a v)(hw:Cc v)(hl:v.length<=ύ):
 χ 63 #[vS a v.length cap] w (ψ w (vI (Az v))):=by
 obtain⟨n,hn⟩:∃n,v.length=n:=⟨_,rfl⟩;have J:=hV0 hn;rw[hn]at hl⊢;clear hn;by_cases h4:4096<n
 ·have u:Ϣ (Az v=2):=Km (by rw[J.o];exact h4);go_enter func63,ntmps63;go_wp2;go_ret;exact⟨Js u.o.symm,bR⟩
 ·go_enter func63,ntmps63;go_wp2
  go_loopw [3] (λi wr=> ∃k:Nat,k<=n/\i=vI k/\ϣ w wr/\(∀i,i<k->Fe v i)) (λi _=>n - (intOf i).toNat)
  case atStart=>exact⟨0,Ϥ,rfl,bR,λi M=>absurd M (Nat.not_lt_zero i)⟩
  case round=>
   obtain⟨k,hk,rfl,g,af⟩:=hrel;have HA:=hV0 af;have ax:=g.size;clear af;by_cases ao:k<n
   ·have aa:k<v.length:=by rw[J.o];exact ao
    obtain⟨b,o,t,C,e,x1,x2,x3⟩:=hv k aa;subst e;obtain⟨ae,U,ak,al⟩:=Hw hw k aa;have q:=cLz g x1;have s:=cLz g x3;have W:Ϣ (vl.rowAt wr t (v.getD k ϰ).r):=Ac x2 g;have i1:=nn0 k;have i2:(k:Int)<(n:Int):=Ϥ;have N:Ϣ (¬Fe v k->Az v=1):=Mr (by rw[J.o];exact h4) k aa;have D:Ϣ (Fe v k↔Au (v.getD k ϰ).r=0/\1<=(v.getD k ϰ).n/\(v.getD k ϰ).n<=1073741824/\(0<k->AJ (v.getD (k - 1) ϰ).r (v.getD k ϰ).r<0)):=Iff.rfl;obtain⟨⟨r,m⟩,am⟩:∃c,v.getD k ϰ=c:=⟨_,rfl⟩;rw[am]at q s W D ae U ak al;dsimp only at q s W D ae U ak al;clear x1 x2 x3;obtain⟨H,R⟩:∃l,r.length=l:=⟨_,rfl⟩;rw[R]at q;have I:Ϣ (∀w,vl.rowAt w t r->CT 119 #[vS t H C] w (ψ w (vI (Au r)))):=by
     subst R;exact λw h=>Cr t C r w h ae U
    have dr:ϣ wr wr.drew:=bR.drew;have F:Ϣ (vl.rowAt wr.drew t r):=Ac W.o dr;obtain⟨ke,an⟩:∃x,Au r=x:=⟨_,rfl⟩;rw[an]at I D;by_cases Z:ke=0
    ·subst Z;by_cases e2:m<1
     ·have u:Ϣ (Az v=1):=N.o (λh=>by have:=(D.o.1 h).2.1;omega);have t2:=JD (x:=m) (y:=1) true (decide_eq_true e2);go_wp2;refine wp_region_held_drew (S:=λp=>Δ p b (o+k * 2) (vS t H C)/\Δ p b (o+k * 2+1) (vI m)) ϧ ⟨q,s⟩ (λd=>?_);refine tkz 0 13 d ?_;refine tkz 1 14 d ?_;refine tkz 2 15 d ?_;refine tkz 3 16 d ?_;refine tkz 4 17 d ?_;refine rD 5 λK A=>?_;go_simp;refine(I.o wr.drew F.o).mono ?_;rintro e z ⟨rfl,f⟩;go_wp2_with fail;refine A.out _ _ ⟨cLz f q,cLz f s⟩ (λd=>?_);clear A K
      try simp only[Act.put,sI,sZ,sSz]
      refine tkz 6 19 d ?_;refine tkz 7 20 d ?_;refine tkz 8 21 d ?_;refine tkz 9 22 d ?_;refine tkz 10 23 d ?_;refine tkz 11 24 d ?_;refine tkz 12 25 d ?_;refine tkz 13 26 d ?_;refine tkz 14 27 d ?_;refine tkz 15 28 d ?_;refine sk 16 29 d ?_;refine sk 17 30 d ?_;refine sk 18 31 d ?_;refine sk 19 32 d ?_;refine sk 20 33 d ?_;refine sk 21 34 d ?_;refine tkz 22 35 d ?_;refine tkz 23 36 d ?_;refine sk 24 37 d ?_;refine sk 25 38 d ?_;refine sk 26 39 d ?_;refine sk 27 40 d ?_;refine sk 28 41 d ?_;refine sk 29 42 d ?_;refine sk 30 43 d ?_;refine sk 31 44 d ?_;refine sk 32 45 d ?_;refine sk 33 46 d ?_;refine sk 34 47 d ?_;refine sk 35 48 d ?_;refine sk 36 49 d ?_;refine sk 37 50 d ?_;refine sk 38 51 d ?_;refine sk 39 52 d ?_;refine sk 40 53 d ?_;refine tkz 41 54 d ?_;refine wpAnyH_done ϧ ?_ _;have B:ϣ w z:=g.drew.trans (f.mono g.size);go_wp2;go_ret;exact⟨Js u.o.symm,B⟩
     ·have t2:=JD (x:=m) (y:=1) false (decide_eq_false e2);by_cases e3:1073741824<m
      ·have t3:=Ex (x:=m) (y:=1073741824) true (decide_eq_true e3);have u:Ϣ (Az v=1):=N.o (λh=>by have:=(D.o.1 h).2.2.1;omega);go_wp2;refine wp_region_held_drew (S:=λp=>Δ p b (o+k * 2) (vS t H C)/\Δ p b (o+k * 2+1) (vI m)) ϧ ⟨q,s⟩ (λd=>?_);refine tkz 0 13 d ?_;refine tkz 1 14 d ?_;refine tkz 2 15 d ?_;refine tkz 3 16 d ?_;refine tkz 4 17 d ?_;refine rD 5 λK A=>?_;go_simp;refine(I.o wr.drew F.o).mono ?_;rintro e z ⟨rfl,f⟩;go_wp2_with fail;refine A.out _ _ ⟨cLz f q,cLz f s⟩ (λd=>?_);clear A K
       try simp only[Act.put,sI,sZ,sSz]
       refine tkz 6 19 d ?_;refine tkz 7 20 d ?_;refine tkz 8 21 d ?_;refine tkz 9 22 d ?_;refine tkz 10 23 d ?_;refine tkz 11 24 d ?_;refine tkz 12 25 d ?_;refine tkz 13 26 d ?_;refine tkz 14 27 d ?_;refine tkz 15 28 d ?_;refine tkz 16 29 d ?_;refine tkz 17 30 d ?_;refine tkz 18 31 d ?_;refine tkz 19 32 d ?_;refine tkz 20 33 d ?_;refine tkz 21 34 d ?_;refine tkz 22 35 d ?_;refine tkz 23 36 d ?_;refine sk 24 37 d ?_;refine sk 25 38 d ?_;refine sk 26 39 d ?_;refine sk 27 40 d ?_;refine sk 28 41 d ?_;refine sk 29 42 d ?_;refine sk 30 43 d ?_;refine sk 31 44 d ?_;refine sk 32 45 d ?_;refine sk 33 46 d ?_;refine sk 34 47 d ?_;refine sk 35 48 d ?_;refine sk 36 49 d ?_;refine sk 37 50 d ?_;refine sk 38 51 d ?_;refine sk 39 52 d ?_;refine sk 40 53 d ?_;refine tkz 41 54 d ?_;refine wpAnyH_done ϧ ?_ _;have B:ϣ w z:=g.drew.trans (f.mono g.size);go_wp2;go_ret;exact⟨Js u.o.symm,B⟩
      ·have t3:=Ex (x:=m) (y:=1073741824) false (decide_eq_false e3);by_cases e4:k=0
       ·subst e4;simp only[Nat.zero_mul,Nat.add_zero]at q s;have t4:=Ex (x:=0) (y:=0) false ϥ;have u:Ϣ (Fe v 0):=D.o.2 ⟨rfl,Ϥ,Ϥ,λh=>absurd h Ϥ⟩;go_wp2;refine wp_region_held_drew (S:=λp=>Δ p b o (vS t H C)/\Δ p b (o+1) (vI m)) ϧ ⟨q,s⟩ (λd=>?_);refine tkz 0 13 d ?_;refine tkz 1 14 d ?_;refine tkz 2 15 d ?_;refine tkz 3 16 d ?_;refine tkz 4 17 d ?_;refine rD 5 λK A=>?_;go_simp;refine(I.o wr.drew F.o).mono ?_;rintro e z ⟨rfl,f⟩;go_wp2_with fail;refine A.out _ _ ⟨cLz f q,cLz f s⟩ (λd=>?_);clear A K
        try simp only[Act.put,sI,sZ,sSz]
        refine tkz 6 19 d ?_;refine tkz 7 20 d ?_;refine tkz 8 21 d ?_;refine tkz 9 22 d ?_;refine tkz 10 23 d ?_;refine tkz 11 24 d ?_;refine tkz 12 25 d ?_;refine tkz 13 26 d ?_;refine tkz 14 27 d ?_;refine tkz 15 28 d ?_;refine tkz 16 29 d ?_;refine tkz 17 30 d ?_;refine tkz 18 31 d ?_;refine tkz 19 32 d ?_;refine tkz 20 33 d ?_;refine tkz 21 34 d ?_;refine tkz 22 35 d ?_;refine tkz 23 36 d ?_;refine tkz 24 37 d ?_;refine tkz 25 38 d ?_;refine tkz 26 39 d ?_;refine sk 27 40 d ?_;refine sk 28 41 d ?_;refine sk 29 42 d ?_;refine sk 30 43 d ?_;refine sk 31 44 d ?_;refine sk 32 45 d ?_;refine sk 33 46 d ?_;refine sk 34 47 d ?_;refine sk 35 48 d ?_;refine sk 36 49 d ?_;refine sk 37 50 d ?_;refine sk 38 51 d ?_;refine sk 39 52 d ?_;refine tkz 40 53 d ?_;refine tkz 41 54 d ?_;refine wpAnyH_done ϧ ?_ _;have B:ϣ w z:=g.drew.trans (f.mono g.size);go_wp2;go_roundw;exact⟨0+1,Ϥ,by go_num,B,λi M=>by rw[show i=0 by omega];exact u.o⟩;simp[intOf];omega
       ·obtain⟨j,rfl⟩:∃j,k=j+1:=⟨k - 1,Ϥ⟩;have ah:j<v.length:=by rw[J.o];omega
        obtain⟨b',o',L,T,e',y1,y2,y3⟩:=hv j ah
        cases e'
        have G:=cLz g y1;have V:Ϣ (vl.rowAt wr.drew L (v.getD j ϰ).r):=Ac (Ac y2 g) dr;obtain⟨aj,ad,_,_⟩:=Hw hw j ah;have O:Ϣ (Fe v (j+1)↔1<=m/\m<=1073741824/\(AJ (v.getD j ϰ).r r<0)):=by
         show Fe v (j+1)↔_;rw[D.o];simp
        obtain⟨pr,ai⟩:∃c,(v.getD j ϰ).r=c:=⟨_,rfl⟩;rw[ai]at G V O aj ad;clear y1 y2 y3 ai D e4;obtain⟨pl,ac⟩:∃l,pr.length=l:=⟨_,rfl⟩;rw[ac]at G;have X:Ϣ (∀w,vl.rowAt w L pr->vl.rowAt w t r->CT 120 #[vS L pl T,vS t H C] w (ψ w (vI (AJ pr r)))):=by
         subst ac R;exact λw h h'=>Qb L t T C pr r w h h' ad U
        have aq:(0:Int)<=((j:Int)+1):=Ϥ;have ar:((j:Int)+1)<(n:Int):=Ϥ;have au:(0:Int)<((j:Int)+1):=Ϥ;have av:((j:Int))<(n:Int):=Ϥ;have aw:=nn0 j;have ay:IntKind.i64.wrap ((j:Int)+1 - 1)=(j:Int):=by rw[Cq];omega
        have az:IntKind.i64.wrap (j:Int)=(j:Int):=by rw[Cq];omega
        obtain⟨Y,ag⟩:∃c,AJ pr r=c:=⟨_,rfl⟩;rw[ag]at X O;clear ag ac R aj ad;have t4:=Ex (x:=(j:Int)+1) (y:=0) true (decide_eq_true Ϥ);by_cases e5:0<=Y
        ·have t5:=JF (x:=Y) (y:=0) true (decide_eq_true e5);have u:Ϣ (Az v=1):=N.o (λh=>by have:=(O.o.1 h).2.2;omega);go_wp2
         go_region_held3 (λp=>Δ p b (o+(j+1) * 2) (vS t H C)/\Δ p b (o+(j+1) * 2+1) (vI m)/\Δ p b (o+j * 2) (vS L pl T)) (first|exact⟨cLz E (cLz f q),cLz E (cLz f s),cLz E (cLz f G)⟩|exact⟨cLz f q,cLz f s,cLz f G⟩|exact⟨q,s,G⟩)
          (first
           |(go_at_call 119;refine(I.o wr.drew F.o).mono ?_;rintro e z ⟨rfl,f⟩)
           |(go_at_call 120;refine(X.o z (Ac V.o f) (Ac F.o f)).mono ?_;rintro e wz ⟨rfl,E⟩))
         have B:ϣ w z:=g.drew.trans (f.mono g.size);have ab:=bT B E;go_wp2;go_ret;exact⟨Js u.o.symm,ab⟩
        ·have t5:=JF (x:=Y) (y:=0) false (decide_eq_false e5);have u:Ϣ (Fe v (j+1)):=O.o.2 ⟨Ϥ,Ϥ,Ϥ⟩;go_wp2
         go_region_held3 (λp=>Δ p b (o+(j+1) * 2) (vS t H C)/\Δ p b (o+(j+1) * 2+1) (vI m)/\Δ p b (o+j * 2) (vS L pl T)) (first|exact⟨cLz E (cLz f q),cLz E (cLz f s),cLz E (cLz f G)⟩|exact⟨cLz f q,cLz f s,cLz f G⟩|exact⟨q,s,G⟩)
          (first
           |(go_at_call 119;refine(I.o wr.drew F.o).mono ?_;rintro e z ⟨rfl,f⟩)
           |(go_at_call 120;refine(X.o z (Ac V.o f) (Ac F.o f)).mono ?_;rintro e wz ⟨rfl,E⟩))
         have B:ϣ w z:=g.drew.trans (f.mono g.size);have ab:=bT B E;go_wp2;go_roundw;exact⟨j+1+1,Ϥ,by go_num,ab,λi M=>by
          rcases Nat.lt_or_ge i (j+1)with h|h
          ·exact HA.o i h
          ·rw[show i=j+1 by omega];exact u.o⟩
         simp[intOf];omega
    ·have u:Ϣ (Az v=1):=N.o (λh=>Z (D.o.1 h).1);have ap:=Aer Z;go_wp2;refine wp_region_held_drew (S:=λp=>Δ p b (o+k * 2) (vS t H C)/\Δ p b (o+k * 2+1) (vI m)) ϧ ⟨q,s⟩ (λd=>?_);refine tkz 0 13 d ?_;refine tkz 1 14 d ?_;refine tkz 2 15 d ?_;refine tkz 3 16 d ?_;refine tkz 4 17 d ?_;refine rD 5 λK A=>?_;go_simp;refine(I.o wr.drew F.o).mono ?_;rintro e z ⟨rfl,f⟩;go_wp2_with fail;refine A.out _ _ ⟨cLz f q,cLz f s⟩ (λd=>?_);clear A K
     try simp only[Act.put,sI,sZ,sSz]
     refine tkz 6 19 d ?_;refine tkz 7 20 d ?_;refine sk 8 21 d ?_;refine sk 9 22 d ?_;refine sk 10 23 d ?_;refine sk 11 24 d ?_;refine sk 12 25 d ?_;refine sk 13 26 d ?_;refine tkz 14 27 d ?_;refine tkz 15 28 d ?_;refine sk 16 29 d ?_;refine sk 17 30 d ?_;refine sk 18 31 d ?_;refine sk 19 32 d ?_;refine sk 20 33 d ?_;refine sk 21 34 d ?_;refine tkz 22 35 d ?_;refine tkz 23 36 d ?_;refine sk 24 37 d ?_;refine sk 25 38 d ?_;refine sk 26 39 d ?_;refine sk 27 40 d ?_;refine sk 28 41 d ?_;refine sk 29 42 d ?_;refine sk 30 43 d ?_;refine sk 31 44 d ?_;refine sk 32 45 d ?_;refine sk 33 46 d ?_;refine sk 34 47 d ?_;refine sk 35 48 d ?_;refine sk 36 49 d ?_;refine sk 37 50 d ?_;refine sk 38 51 d ?_;refine sk 39 52 d ?_;refine sk 40 53 d ?_;refine tkz 41 54 d ?_;refine wpAnyH_done ϧ ?_ _;have B:ϣ w z:=g.drew.trans (f.mono g.size);go_wp2;go_ret;exact⟨Js u.o.symm,B⟩
   ·have HO:Ϣ (Ez v):=⟨by rw[J.o];omega,λi M=>HA.o i (by rw[J.o]at M;omega)⟩;go_wp2;go_ret;exact⟨Js (Np HO.o).symm,g⟩
end ch
namespace cd
open vl bf bt jn
def Iu(f:Nat->Int)(e:Int)(k:Nat):Bool:=(List.range k).any λi=>f i==e
theorem Zy(f:Nat->Int)(e:Int)(k:Nat):Iu f e (k+1)=(Iu f e k||(f k==e)):=by
 unfold Iu;rw[range_succ,any_append];simp
theorem O8(f:Nat->Int)(e:Int)(k:Nat):Iu f e k=true↔ ∃i,i<k/\f i=e:=by
 unfold Iu;simp[any_eq_true]
theorem Zz(b:List Int)(v:List ch.Cnt):Eh b v=if Iu (λi=>pl.Dt b (v.getD i ϰ).r) 2 v.length=true then 2 else if Iu (λi=>pl.Dt b (v.getD i ϰ).r) 5 v.length=true then 5 else 0:=by
 have d:OH b v= !(Iu (λi=>pl.Dt b (v.getD i ϰ).r) 2 v.length):=by
  rw[Bool.eq_iff_iff];unfold OH;rw[pl.AF,Bool.not_eq_true',<-Bool.not_eq_true,O8]
  constructor
  ·rintro h ⟨i,c,e⟩;have:=of_decide_eq_true (h i c);unfold pl.Dt at e;rw[if_neg (λh=>h this)]at e;split at e<;>cases e
  ·intro h i c;refine decide_eq_true (Classical.byContradiction λj=>h ⟨i,c,?_⟩);show pl.Dt _ _=2;unfold pl.Dt;rw[if_pos j]
 unfold Eh;rw[d]
 cases hm:Iu (λi=>pl.Dt b (v.getD i ϰ).r) 2 v.length with
 |true=>rfl
 |false=>
  rw[hm]at d;unfold OH at d;rw[show(!false)=true from rfl,pl.AF]at d;have f:Z4 b v= !(Iu (λi=>pl.Dt b (v.getD i ϰ).r) 5 v.length):=by
   rw[Bool.eq_iff_iff];unfold Z4;rw[pl.AF,Bool.not_eq_true',<-Bool.not_eq_true,O8]
   constructor
   ·rintro f ⟨i,c,e⟩;have e:pl.Dt b (v.getD i ϰ).r=5:=e;unfold pl.Dt at e;rw[if_neg (λg=>g (of_decide_eq_true (d i c))),if_neg (by rw[f i c];decide)]at e
    cases e
   ·intro f i c
    cases ht:pl.BU (v.getD i ϰ).r b with
    |true=>rfl
    |false=>
     refine absurd ⟨i,c,?_⟩ f;show pl.Dt _ _=5;unfold pl.Dt;rw[if_neg (λg=>g (of_decide_eq_true (d i c))),if_pos ht]
  rw[f]
  cases Iu (λi=>pl.Dt b (v.getD i ϰ).r) 5 v.length<;>rfl
theorem Uk(p:pl.Pln)(x:pl.PA)(a:ϡ)(cap:Nat)(j:List gr.GX)(b:List gr.Grp)(w:Ϡ)(i:pl.wfPlan p)(f:pl.planAt w p x)(m:gr.gsAt w a j b)(n:∀g∈b,gr.wfG g)(l:b.length<=ύ):
 χ 62 #[pl.Aj p x,vS a b.length cap] w (ψ w (vI (gr.CS p b))):=by
 by_cases h:pl.Ag p≠0\/p.grouped=false\/4096<b.length
 ·exact gr.MA p x a cap b w i f l h
 ·have c:pl.Ag p=0:=Classical.byContradiction λe=>h (.inl e);have d:p.grouped=true:=by
   cases e:p.grouped with
   |true=>rfl
   |false=>exact absurd (.inr (.inl e)) h
  have k:b.length<=4096:=by
   rcases Nat.lt_or_ge 4096 b.length with e|e
   ·exact absurd (.inr (.inr e)) h
   ·exact e
  have:=gr.OM p x a cap j b w i f m n k c d;rw[show gr.CS p b=(if pl.allB b.length (gr.FQ p b)=false then 1 else 0) by
   unfold gr.CS;rw[if_neg (by simpa using c),if_neg (by simp[d]),if_neg Ϥ]]
  exact this
theorem Ul(p:pl.Pln)(x:pl.PA)(e:Egg)(y:GGX)(w:Ϡ)(hw:pl.wfPlan p)(hp:pl.planAt w p x)(h:eggAt w e y)(C:wfEg e)(hE:∀z∈Ab e.j.L++Ab e.j.R,wfE z/\z.key.size<=140737488355328/\z.row.length<=2000000)(av:(Ab e.j.L).length<=4611686018427387904)(aw:(Ab e.j.R).length<=4611686018427387904):
 χ 30 #[pl.Aj p x,egV e y] w (ψ w (vI (Cs p e))):=by
 have F:=hIz (λ(d:Ϡ) (q:ϣ w d)=>Uc p x e.j y.y d hw (pl.Ae hp q) (h.j.below q) hE av aw);have E:=hIz (λ(d:Ϡ) (q:ϣ w d)=>Uk p x y.ga y.gc y.xs e.gs d hw (pl.Ae hp q) (h.g.below q) C.g C.gl);have KV:=hIz (λ(d:Ϡ) (q:ϣ w d)=>ch.Px y.va y.vc e.v d (ch.Br h.v q) C.v C.n);have A:Ϣ (Ba p e.j=0->∀d,ϣ w d->CT 64 #[pl.Aj p x] d λo w'=>(∃B az,o= .returned (vS B (pl.Ce p).length az)/\pl.Ay w' B (pl.Ce p))/\ϣ d w'):=λh0 d q=>pl.XQ p x d hw (pl.Ae hp q) (Fb h0);have D:Ϣ (Ba p e.j=0->∀d k G rc B cp,k<e.v.length->vl.rowAt d G (e.v.getD k ϰ).r->pl.Ay d B (pl.Ce p)->CT 65 #[vS B (pl.Ce p).length cp,vS G (e.v.getD k ϰ).r.length rc] d (ψ d (vI (pl.Dt (pl.Ce p) (e.v.getD k ϰ).r)))):=λh0 d k G rc B cp hk hr hi=>pl.GZ G B rc cp _ _ d (ch.Hw C.v k hk).2.1 (T4 (Fb h0)) hr hi;have H:Ϣ (Eh (pl.Ce p) e.v=if Iu (λi=>pl.Dt (pl.Ce p) (e.v.getD i ϰ).r) 2 e.v.length=true then 2 else if Iu (λi=>pl.Dt (pl.Ce p) (e.v.getD i ϰ).r) 5 e.v.length=true then 5 else 0):=Zz _ _;have HS:Ϣ (∀c k,Iu (λi=>pl.Dt (pl.Ce p) (e.v.getD i ϰ).r) c (k+1)=(Iu (λi=>pl.Dt (pl.Ce p) (e.v.getD i ϰ).r) c k||(pl.Dt (pl.Ce p) (e.v.getD k ϰ).r==c))):=λc k=>Zy _ c k;have HZ:Ϣ (∀c,Iu (λi=>pl.Dt (pl.Ce p) (e.v.getD i ϰ).r) c 0=false):=λc=>rfl;have HT:Ϣ (∀k,k<e.v.length->pl.Dt (pl.Ce p) (e.v.getD k ϰ).r=2->Iu (λi=>pl.Dt (pl.Ce p) (e.v.getD i ϰ).r) 2 e.v.length=true):=λk hk h2=>(O8 _ _ _).2 ⟨k,hk,h2⟩;have HV:Ϣ (ch.viewAt w y.va e.v):=h.v;have a3:e.v.length<=ύ:=C.n;obtain⟨R,hR⟩:=nM (Cs p e);have g:=hV0 hR;rw[hR];clear hR hw hp h C hE av aw;unfold Cs at g;have v:Ϣ (GY p e.gs=if p.grouped=true then gr.CS p e.gs else if 0<e.gs.length then 1 else 0):=rfl;obtain⟨E5,h9⟩:=nM (GY p e.gs);rw[h9]at g v;clear h9
 obtain⟨l,q1⟩:∃f:Int->Nat->Bool,∀c k,Iu (λi=>pl.Dt (pl.Ce p) (e.v.getD i ϰ).r) c k=f c k:=⟨_,λ_ _=>rfl⟩;obtain⟨FE,q2⟩:∃f:Nat->Int,∀k,pl.Dt (pl.Ce p) (e.v.getD k ϰ).r=f k:=⟨_,λ_=>rfl⟩;simp only[q1]at H HS HZ HT;simp only[q2]at D HS HT;obtain⟨E1,h1⟩:=nM (Ba p e.j);obtain⟨E2,h2⟩:=nM (Eh (pl.Ce p) e.v);obtain⟨E3,h3⟩:=nM (gr.CS p e.gs);obtain⟨E4,h4⟩:=nM (ch.Az e.v);rw[h1]at F A D g;rw[h2]at H g;rw[h3]at E v;rw[h4]at KV g;obtain⟨cs,h5⟩:=nM (pl.Ce p);simp only[h5]at A D;obtain⟨cn,h6⟩:=nM cs.length;simp only[h6]at A D;obtain⟨n,h7⟩:=nM e.v.length;have HN:=hV0 h7;obtain⟨gd,hg⟩:=nM p.grouped;have HG:=hV0 hg;clear h1 h2 h3 h4 h5 h6 q1 q2;simp only[h7]at KV D H HT a3;obtain⟨gn,h8⟩:=nM e.gs.length;simp only[h8]at E v;have aj:=hV0 h8;clear h8 h7;unfold pl.Aj at F E A⊢;rw[hg]at F E A v⊢;clear hg;rw[AY]at F;unfold egV;go_enter func30,ntmps30;unfold egC;go_wp2_with fail;generalize hV:(World.alloc (World.alloc w _) _)=V;have af:ϣ w V:=by rw[<-hV];exact ϯ.alloc Ϧ _
 have r:Ϣ (boxP V w p x):=by
  subst hV;rw[<-HG.o];exact Af (BQ ..) ϯ
 have m:Ϣ (SB V (w.heap.size+1) (egC e y)):=by
  subst hV;have:=SB.new (ϊ w #[vI p.kind,vI p.mode,vI p.low,vI p.high,vI p.size,vI p.limit,vS x.l p.left.length x.lc,vS x.r p.right.length x.rc,vS x.lk p.lkeys.length x.lkc,vS x.rk p.rkeys.length x.rkc,.bool gd,vS x.g p.group.length x.gc,vS x.a p.aggs.length x.ac] 32) (egC e y) 42;rw[World.size_alloc]at this;exact this
 clear hV;refine(F.o _ af).mono ?_;rintro e1 d ⟨rfl,aa⟩;have j:ϣ w d:=bT af aa;replace r:Ϣ (boxP d w p x):=Af r.o aa;replace m:Ϣ (SB d (w.heap.size+1) (egC e y)):=m.o.below aa;clear aa af F;by_cases k1:E1=0
 rotate_left
 ·have a5:(E1 !=0)=true:=by simpa using k1
  have u:Ϣ (E1=R):=by show _=_;rw[<-g.o,if_pos k1]
  go_wp2;go_ret;exact⟨vl.Ad u.o,j⟩
 subst k1;rw[if_neg ϥ]at g;obtain⟨M,N,U,W,X,Y,Z,v7,v8,v9,s,O,T⟩:=r.o;rw[HG.o]at s;obtain⟨u0,u1,u2,u3,u4,u5,u6,u7,u8,u9,u10⟩:=Iq m.o;rw[aj.o]at u9
 cases gd
 case' false=>
  by_cases hn:0<gn
  case pos=>
   have a2:(0:Int)<(gn:Int):=Ϥ;have G1:Ϣ (E5=1):=by show _=_;rw[v.o];simp[hn]
   have u:Ϣ (1=R):=by show _=_;rw[<-g.o,G1.o];simp
   go_wp2;go_ret;exact⟨vl.Ad u.o,j⟩
  have a2:¬(0:Int)<(gn:Int):=Ϥ;have G1:Ϣ (E5=0):=by show _=_;rw[v.o];simp[hn]
  rw[G1.o,if_neg Ϧ]at g;obtain⟨WW,rfl⟩:∃z,z=d:=⟨_,rfl⟩
 case' true=>
  have G1:Ϣ (E5=E3):=by show _=_;rw[v.o];simp
  rw[G1.o]at g;go_wp2_with fail;refine(E.o _ j).mono ?_;rintro e2 WW ⟨rfl,ab⟩;replace j:ϣ w WW:=bT j ab;replace r:Ϣ (boxP WW w p x):=Af r.o ab;replace m:Ϣ (SB WW (w.heap.size+1) (egC e y)):=m.o.below ab;clear M N U W X Y Z v7 v8 v9 s O T u0 u1 u2 u3 u4 u5 u6 u7 u8 u9 u10 ab;by_cases k2:E3=0
  case neg=>
   have a6:(E3 !=0)=true:=by simpa using k2
   have u:Ϣ (E3=R):=by show _=_;rw[<-g.o,if_pos k2]
   go_wp2;go_ret;exact⟨vl.Ad u.o,j⟩
  subst k2;rw[if_neg ϥ]at g;obtain⟨M,N,U,W,X,Y,Z,v7,v8,v9,s,O,T⟩:=r.o;rw[HG.o]at s;obtain⟨u0,u1,u2,u3,u4,u5,u6,u7,u8,u9,u10⟩:=Iq m.o;rw[aj.o]at u9
 all_goals
  rw[HN.o]at u10;go_wp2_with fail;refine(KV.o _ j).mono ?_;rintro e3 w3 ⟨rfl,ac⟩;replace j:ϣ w w3:=bT j ac;replace r:Ϣ (boxP w3 w p x):=Af r.o ac;replace m:Ϣ (SB w3 (w.heap.size+1) (egC e y)):=m.o.below ac;clear M N U W X Y Z v7 v8 v9 s O T u0 u1 u2 u3 u4 u5 u6 u7 u8 u9 u10 ac;by_cases k3:E4=0
  rotate_left
  ·have a7:(E4 !=0)=true:=by simpa using k3
   have u:Ϣ (E4=R):=by show _=_;rw[<-g.o,if_pos k3]
   go_wp2;go_ret;exact⟨vl.Ad u.o,j⟩
  subst k3;rw[if_neg ϥ]at g;obtain⟨M,N,U,W,X,Y,Z,v7,v8,v9,s,O,T⟩:=r.o;rw[HG.o]at s;obtain⟨u0,u1,u2,u3,u4,u5,u6,u7,u8,u9,u10⟩:=Iq m.o;go_wp2_with fail;refine(A.o Ϭ _ j).mono ?_;rintro e4 w4 ⟨⟨oa,oc,rfl,ar⟩,J⟩;replace j:ϣ w w4:=bT j J;replace r:Ϣ (boxP w4 w p x):=Af r.o J;replace m:Ϣ (SB w4 (w.heap.size+1) (egC e y)):=m.o.below J;clear M N U W X Y Z v7 v8 v9 s O T u0 u1 u2 u3 u4 u5 u6 u7 u8 u9 u10 J;have ay:=hV0 ar;have ai:=hV0 j;have am:Ϣ ((if l 2 n=true then 2 else if l 5 n=true then 5 else 0)=R):=by show _=_;rw[<-H.o];exact g.o
  clear ar g H j E KV A;go_wp2_with fail
  go_loopw [9,10] (λt i wr=> ∃k:Nat,k<=n/\i=vI k/\t= .bool (l 5 k)/\l 2 k=false/\ϣ w4 wr) (λ_ i _=>n - (intOf i).toNat)
  case atStart=>exact⟨0,Nat.zero_le _,rfl,by rw[HZ.o],HZ.o 2,bR⟩
  case round=>
   obtain⟨k,hk,rfl,rfl,aq,L⟩:=hrel;have ak:=hV0 aq;clear aq;have K:=ai.o.trans (L.mono ai.o.size);have J:=L.mono nR;have ax:=m.o.below L;have u10:=ax.cell 10 _ rfl;rw[HN.o]at u10;have lu:=bLt _ _ u10;by_cases ag:k<n
   ·obtain⟨b,o,G,a4,ee,x1,x2,x3⟩:=HV.o k (by rw[HN.o];exact ag);rw[ee]at u10;have q1:=cLz K x1;have i1:=nn0 k;have i2:(k:Int)<(n:Int):=Ϥ;have ae:Ϣ (CT 65 _ wr _):=D.o Ϭ wr k G a4 oa oc ag (vl.Ac x2 K) (pl.Al ay.o L);have H2:Ϣ (l 2 (k+1)=(l 2 k||(FE k==2))):=HS.o 2 k;have H5:Ϣ (l 5 (k+1)=(l 5 k||(FE k==5))):=HS.o 5 k;have ah:Ϣ (FE k=2->l 2 n=true):=HT.o k ag;obtain⟨fe,ao⟩:=nM (FE k);obtain⟨rl,au⟩:=nM ((e.v.getD k ϰ).r.length);rw[ao]at ae H2 H5 ah;rw[au]at ae q1;clear ao au x1 x2 x3 ee;obtain⟨m5,ap⟩:=nM (l 5 k);rw[ap]at H5⊢;clear ap;go_wp2_with fail;refine ae.o.mono ?_;rintro e5 w5 ⟨rfl,an⟩;by_cases f2:fe=2
    ·have I:Ϣ (2=R):=by show _=_;rw[<-am.o,if_pos (ah.o f2)]
     subst f2;go_wp2;go_ret;exact⟨vl.Ad I.o,bT K an⟩
    have a0:(fe==2)=false:=by simpa using f2
    have HM:Ϣ (l 2 (k+1)=false):=by show _=_;rw[H2.o,ak.o,a0];rfl
    clear f2
    cases m5
    all_goals
     go_wp2;go_roundw;exact⟨k+1,Ϥ,by go_num,by rw[H5.o];first|rfl|simp,HM.o,bT L an⟩;simp[intOf];omega
   ·have a1:k=n:=Ϥ;subst a1;have al:Ϣ ((if l 5 k=true then 5 else 0)=R):=by show _=_;rw[<-am.o,ak.o];rfl
    cases q:l 5 k with
    |true=>
     have I:Ϣ (5=R):=by show _=_;rw[<-al.o,q];rfl
     go_wp2;go_ret;exact⟨vl.Ad I.o,K⟩
    |false=>
     have I:Ϣ (0=R):=by show _=_;rw[<-al.o,q];rfl
     go_wp2;go_ret;exact⟨vl.Ad I.o,K⟩
end cd
end Go.Proofs.YtfkihidbnfkbaaaGreatDoor
