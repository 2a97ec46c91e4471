import Derived.Test.YtfkihidbnfkbaaaGreatDoorPv39
import Derived.Test.YtfkihidbnfkbaaaGreatDoorPv42
import Derived.Test.YtfkihidbnfkbaaaGreatDoorPv20
set_option linter.all false
set_option maxHeartbeats 16000000
set_option maxRecDepth 100000
open Inhabited renaming default->ϰ
open List renaming length->ϲ
namespace Go.Proofs.YtfkihidbnfkbaaaGreatDoor
open ChangeShapes WideShapes ChangeAt RowKit Maps WideMaps List Proofs.Tryz
namespace ch
open vl
variable {x y : Int}
def JH{a b:Int}(h:a=b):Ending.returned (vI a)= .returned (vI b):=by rw[h]
def Afm(h:x≠y):∀t,binOp .neq t (vI x) (vI y)=pure (.bool true):=λt=>by rw[binOp_neq,show(x !=y)=true by simpa using h]
def Km(b:Bool)(h:decide (x<y)=b):∀t,binOp .lss t (vI x) (vI y)=pure (.bool b):=λt=>by rw[binOp_lss,h]
def EH(b:Bool)(h:decide (x>y)=b):∀t,binOp .gtr t (vI x) (vI y)=pure (.bool b):=λt=>by rw[binOp_gtr,h]
def Kn(b:Bool)(h:decide (x≥y)=b):∀t,binOp .geq t (vI x) (vI y)=pure (.bool b):=λt=>by rw[binOp_geq,h]
theorem Qd(a:Ϡ)(cap:Nat)(v:List Cnt)(w:ϟ)(hv:viewAt w a v)(hw:BK v)(hl:ϲ v<=ύ):
 χ 63 #[vS a (ϲ v) cap] w (ψ w (vI (Av v))):=by
 obtain⟨n,hn⟩:∃n,ϲ v=n:=⟨_,rfl⟩;have J:=hV0 hn;rw[hn]at hl⊢;clear hn;by_cases h4:4096<n
 ·have u:ϡ (Av v=2):=Lj (by rw[J.o];exact h4);go_enter func63,ntmps63;go_wp2;go_ret;exact⟨JH u.o.symm,bR⟩
 ·go_enter func63,ntmps63;go_wp2
  go_loopw [3] (λi wr=> ∃k:Nat,k<=n/\i=vI k/\Ϣ w wr/\(∀i,i<k->Fx v i)) (λi _=>n - (intOf i).toNat)
  case atStart=>exact⟨0,ϣ,rfl,bR,λi M=>absurd M (CA i)⟩
  case round=>
   obtain⟨k,hk,rfl,g,ad⟩:=hrel;have HA:=hV0 ad;have av:=g.size;clear ad;by_cases am:k<n
   ·have Y:k<ϲ v:=by rw[J.o];exact am
    obtain⟨b,o,t,C,e,x1,x2,x3⟩:=hv k Y;subst e;obtain⟨ac,R,ai,aj⟩:=Ir hw k Y;have q:=cLz g x1;have s:=cLz g x3;have U:ϡ (vl.rowAt wr t (v.getD k ϰ).r):=Ac x2 g;have i1:=nn0 k;have i2:(k:Int)<(n:Int):=ϣ;have N:ϡ (¬Fx v k->Av v=1):=MP (by rw[J.o];exact h4) k Y;have D:ϡ (Fx v k↔Aq (v.getD k ϰ).r=0/\1<=(v.getD k ϰ).n/\(v.getD k ϰ).n<=1073741824/\(0<k->AH (v.getD (k - 1) ϰ).r (v.getD k ϰ).r<0)):=Iff.rfl;obtain⟨⟨r,m⟩,ak⟩:∃c,v.getD k ϰ=c:=⟨_,rfl⟩;rw[ak]at q s U D ac R ai aj;dsimp only at q s U D ac R ai aj;clear x1 x2 x3;obtain⟨H,P⟩:∃l,ϲ r=l:=⟨_,rfl⟩;rw[P]at q;have I:ϡ (∀w,vl.rowAt w t r->CT 119 #[vS t H C] w (ψ w (vI (Aq r)))):=by
     subst P;exact λw h=>Cq t C r w h ac R
    have dr:Ϣ wr wr.drew:=bR.drew;have F:ϡ (vl.rowAt wr.drew t r):=Ac U.o dr;obtain⟨ke,al⟩:∃x,Aq r=x:=⟨_,rfl⟩;rw[al]at I D;by_cases X:ke=0
    ·subst X;by_cases e2:m<1
     ·have u:ϡ (Av v=1):=N.o (λh=>by have:=(D.o.1 h).2.1;omega);have t2:=Km (x:=m) (y:=1) true (DB e2);go_wp2;refine aJ (S:=λp=>Δ p b (o+k * 2) (vS t H C)/\Δ p b (o+k * 2+1) (vI m)) Ϧ ⟨q,s⟩ (λd=>?_);refine tkz 0 13 d ?_;refine tkz 1 14 d ?_;refine tkz 2 15 d ?_;refine tkz 3 16 d ?_;refine tkz 4 17 d ?_;refine rD 5 λK A=>?_;go_simp;refine(I.o wr.drew F.o).mono ?_;rintro e z ⟨rfl,f⟩;go_wp2_with fail;refine A.out _ _ ⟨cLz f q,cLz f s⟩ (λd=>?_);clear A K
      try simp only[Act.put,sI,sZ,sSz]
      refine tkz 6 19 d ?_;refine tkz 7 20 d ?_;refine tkz 8 21 d ?_;refine tkz 9 22 d ?_;refine tkz 10 23 d ?_;refine tkz 11 24 d ?_;refine tkz 12 25 d ?_;refine tkz 13 26 d ?_;refine tkz 14 27 d ?_;refine tkz 15 28 d ?_;refine sk 16 29 d ?_;refine sk 17 30 d ?_;refine sk 18 31 d ?_;refine sk 19 32 d ?_;refine sk 20 33 d ?_;refine sk 21 34 d ?_;refine tkz 22 35 d ?_;refine tkz 23 36 d ?_;refine sk 24 37 d ?_;refine sk 25 38 d ?_;refine sk 26 39 d ?_;refine sk 27 40 d ?_;refine sk 28 41 d ?_;refine sk 29 42 d ?_;refine sk 30 43 d ?_;refine sk 31 44 d ?_;refine sk 32 45 d ?_;refine sk 33 46 d ?_;refine sk 34 47 d ?_;refine sk 35 48 d ?_;refine sk 36 49 d ?_;refine sk 37 50 d ?_;refine sk 38 51 d ?_;refine sk 39 52 d ?_;refine sk 40 53 d ?_;refine tkz 41 54 d ?_;refine GT Ϧ ?_ _;have B:Ϣ w z:=g.drew.trans (f.mono g.size);go_wp2;go_ret;exact⟨JH u.o.symm,B⟩
     ·have t2:=Km (x:=m) (y:=1) false (BP e2);by_cases e3:1073741824<m
      ·have t3:=EH (x:=m) (y:=1073741824) true (DB e3);have u:ϡ (Av v=1):=N.o (λh=>by have:=(D.o.1 h).2.2.1;omega);go_wp2;refine aJ (S:=λp=>Δ p b (o+k * 2) (vS t H C)/\Δ p b (o+k * 2+1) (vI m)) Ϧ ⟨q,s⟩ (λd=>?_);refine tkz 0 13 d ?_;refine tkz 1 14 d ?_;refine tkz 2 15 d ?_;refine tkz 3 16 d ?_;refine tkz 4 17 d ?_;refine rD 5 λK A=>?_;go_simp;refine(I.o wr.drew F.o).mono ?_;rintro e z ⟨rfl,f⟩;go_wp2_with fail;refine A.out _ _ ⟨cLz f q,cLz f s⟩ (λd=>?_);clear A K
       try simp only[Act.put,sI,sZ,sSz]
       refine tkz 6 19 d ?_;refine tkz 7 20 d ?_;refine tkz 8 21 d ?_;refine tkz 9 22 d ?_;refine tkz 10 23 d ?_;refine tkz 11 24 d ?_;refine tkz 12 25 d ?_;refine tkz 13 26 d ?_;refine tkz 14 27 d ?_;refine tkz 15 28 d ?_;refine tkz 16 29 d ?_;refine tkz 17 30 d ?_;refine tkz 18 31 d ?_;refine tkz 19 32 d ?_;refine tkz 20 33 d ?_;refine tkz 21 34 d ?_;refine tkz 22 35 d ?_;refine tkz 23 36 d ?_;refine sk 24 37 d ?_;refine sk 25 38 d ?_;refine sk 26 39 d ?_;refine sk 27 40 d ?_;refine sk 28 41 d ?_;refine sk 29 42 d ?_;refine sk 30 43 d ?_;refine sk 31 44 d ?_;refine sk 32 45 d ?_;refine sk 33 46 d ?_;refine sk 34 47 d ?_;refine sk 35 48 d ?_;refine sk 36 49 d ?_;refine sk 37 50 d ?_;refine sk 38 51 d ?_;refine sk 39 52 d ?_;refine sk 40 53 d ?_;refine tkz 41 54 d ?_;refine GT Ϧ ?_ _;have B:Ϣ w z:=g.drew.trans (f.mono g.size);go_wp2;go_ret;exact⟨JH u.o.symm,B⟩
      ·have t3:=EH (x:=m) (y:=1073741824) false (BP e3);by_cases e4:k=0
       ·subst e4;simp only[bU,aE]at q s;have t4:=EH (x:=0) (y:=0) false Ϥ;have u:ϡ (Fx v 0):=D.o.2 ⟨rfl,ϣ,ϣ,λh=>absurd h ϣ⟩;go_wp2;refine aJ (S:=λp=>Δ p b o (vS t H C)/\Δ p b (o+1) (vI m)) Ϧ ⟨q,s⟩ (λd=>?_);refine tkz 0 13 d ?_;refine tkz 1 14 d ?_;refine tkz 2 15 d ?_;refine tkz 3 16 d ?_;refine tkz 4 17 d ?_;refine rD 5 λK A=>?_;go_simp;refine(I.o wr.drew F.o).mono ?_;rintro e z ⟨rfl,f⟩;go_wp2_with fail;refine A.out _ _ ⟨cLz f q,cLz f s⟩ (λd=>?_);clear A K
        try simp only[Act.put,sI,sZ,sSz]
        refine tkz 6 19 d ?_;refine tkz 7 20 d ?_;refine tkz 8 21 d ?_;refine tkz 9 22 d ?_;refine tkz 10 23 d ?_;refine tkz 11 24 d ?_;refine tkz 12 25 d ?_;refine tkz 13 26 d ?_;refine tkz 14 27 d ?_;refine tkz 15 28 d ?_;refine tkz 16 29 d ?_;refine tkz 17 30 d ?_;refine tkz 18 31 d ?_;refine tkz 19 32 d ?_;refine tkz 20 33 d ?_;refine tkz 21 34 d ?_;refine tkz 22 35 d ?_;refine tkz 23 36 d ?_;refine tkz 24 37 d ?_;refine tkz 25 38 d ?_;refine tkz 26 39 d ?_;refine sk 27 40 d ?_;refine sk 28 41 d ?_;refine sk 29 42 d ?_;refine sk 30 43 d ?_;refine sk 31 44 d ?_;refine sk 32 45 d ?_;refine sk 33 46 d ?_;refine sk 34 47 d ?_;refine sk 35 48 d ?_;refine sk 36 49 d ?_;refine sk 37 50 d ?_;refine sk 38 51 d ?_;refine sk 39 52 d ?_;refine tkz 40 53 d ?_;refine tkz 41 54 d ?_;refine GT Ϧ ?_ _;have B:Ϣ w z:=g.drew.trans (f.mono g.size);go_wp2;go_roundw;exact⟨0+1,ϣ,by go_num,B,λi M=>by rw[show i=0 by omega];exact u.o⟩;simp[intOf];omega
       ·obtain⟨j,rfl⟩:∃j,k=j+1:=⟨k - 1,ϣ⟩;have af:j<ϲ v:=by rw[J.o];omega
        obtain⟨b',o',L,Q,e',y1,y2,y3⟩:=hv j af
        cases e'
        have G:=cLz g y1;have T:ϡ (vl.rowAt wr.drew L (v.getD j ϰ).r):=Ac (Ac y2 g) dr;obtain⟨ah,ab,_,_⟩:=Ir hw j af;have O:ϡ (Fx v (j+1)↔1<=m/\m<=1073741824/\(AH (v.getD j ϰ).r r<0)):=by
         show Fx v (j+1)↔_;rw[D.o];simp
        obtain⟨pr,ag⟩:∃c,(v.getD j ϰ).r=c:=⟨_,rfl⟩;rw[ag]at G T O ah ab;clear y1 y2 y3 ag D e4;obtain⟨pl,aa⟩:∃l,ϲ pr=l:=⟨_,rfl⟩;rw[aa]at G;have V:ϡ (∀w,vl.rowAt w L pr->vl.rowAt w t r->CT 120 #[vS L pl Q,vS t H C] w (ψ w (vI (AH pr r)))):=by
         subst aa P;exact λw h h'=>Ql L t Q C pr r w h h' ab R
        have ao:(0:Int)<=((j:Int)+1):=ϣ;have ap:((j:Int)+1)<(n:Int):=ϣ;have aq:(0:Int)<((j:Int)+1):=ϣ;have ar:((j:Int))<(n:Int):=ϣ;have au:=nn0 j;have aw:IntKind.i64.wrap ((j:Int)+1 - 1)=(j:Int):=by rw[Cr];omega
        have ax:IntKind.i64.wrap (j:Int)=(j:Int):=by rw[Cr];omega
        obtain⟨W,ae⟩:∃c,AH pr r=c:=⟨_,rfl⟩;rw[ae]at V O;clear ae aa P ah ab;have t4:=EH (x:=(j:Int)+1) (y:=0) true (DB ϣ);by_cases e5:0<=W
        ·have t5:=Kn (x:=W) (y:=0) true (DB e5);have u:ϡ (Av v=1):=N.o (λh=>by have:=(O.o.1 h).2.2;omega);go_wp2
         go_region_held3 (λp=>Δ p b (o+(j+1) * 2) (vS t H C)/\Δ p b (o+(j+1) * 2+1) (vI m)/\Δ p b (o+j * 2) (vS L pl Q)) (first|exact⟨cLz E (cLz f q),cLz E (cLz f s),cLz E (cLz f G)⟩|exact⟨cLz f q,cLz f s,cLz f G⟩|exact⟨q,s,G⟩)
          (first
           |(go_at_call 119;refine(I.o wr.drew F.o).mono ?_;rintro e z ⟨rfl,f⟩)
           |(go_at_call 120;refine(V.o z (Ac T.o f) (Ac F.o f)).mono ?_;rintro e wz ⟨rfl,E⟩))
         have B:Ϣ w z:=g.drew.trans (f.mono g.size);have Z:=bT B E;go_wp2;go_ret;exact⟨JH u.o.symm,Z⟩
        ·have t5:=Kn (x:=W) (y:=0) false (BP e5);have u:ϡ (Fx v (j+1)):=O.o.2 ⟨ϣ,ϣ,ϣ⟩;go_wp2
         go_region_held3 (λp=>Δ p b (o+(j+1) * 2) (vS t H C)/\Δ p b (o+(j+1) * 2+1) (vI m)/\Δ p b (o+j * 2) (vS L pl Q)) (first|exact⟨cLz E (cLz f q),cLz E (cLz f s),cLz E (cLz f G)⟩|exact⟨cLz f q,cLz f s,cLz f G⟩|exact⟨q,s,G⟩)
          (first
           |(go_at_call 119;refine(I.o wr.drew F.o).mono ?_;rintro e z ⟨rfl,f⟩)
           |(go_at_call 120;refine(V.o z (Ac T.o f) (Ac F.o f)).mono ?_;rintro e wz ⟨rfl,E⟩))
         have B:Ϣ w z:=g.drew.trans (f.mono g.size);have Z:=bT B E;go_wp2;go_roundw;exact⟨j+1+1,ϣ,by go_num,Z,λi M=>by
          rcases RN i (j+1)with h|h
          ·exact HA.o i h
          ·rw[show i=j+1 by omega];exact u.o⟩
         simp[intOf];omega
    ·have u:ϡ (Av v=1):=N.o (λh=>X (D.o.1 h).1);have an:=Afm X;go_wp2;refine aJ (S:=λp=>Δ p b (o+k * 2) (vS t H C)/\Δ p b (o+k * 2+1) (vI m)) Ϧ ⟨q,s⟩ (λd=>?_);refine tkz 0 13 d ?_;refine tkz 1 14 d ?_;refine tkz 2 15 d ?_;refine tkz 3 16 d ?_;refine tkz 4 17 d ?_;refine rD 5 λK A=>?_;go_simp;refine(I.o wr.drew F.o).mono ?_;rintro e z ⟨rfl,f⟩;go_wp2_with fail;refine A.out _ _ ⟨cLz f q,cLz f s⟩ (λd=>?_);clear A K
     try simp only[Act.put,sI,sZ,sSz]
     refine tkz 6 19 d ?_;refine tkz 7 20 d ?_;refine sk 8 21 d ?_;refine sk 9 22 d ?_;refine sk 10 23 d ?_;refine sk 11 24 d ?_;refine sk 12 25 d ?_;refine sk 13 26 d ?_;refine tkz 14 27 d ?_;refine tkz 15 28 d ?_;refine sk 16 29 d ?_;refine sk 17 30 d ?_;refine sk 18 31 d ?_;refine sk 19 32 d ?_;refine sk 20 33 d ?_;refine sk 21 34 d ?_;refine tkz 22 35 d ?_;refine tkz 23 36 d ?_;refine sk 24 37 d ?_;refine sk 25 38 d ?_;refine sk 26 39 d ?_;refine sk 27 40 d ?_;refine sk 28 41 d ?_;refine sk 29 42 d ?_;refine sk 30 43 d ?_;refine sk 31 44 d ?_;refine sk 32 45 d ?_;refine sk 33 46 d ?_;refine sk 34 47 d ?_;refine sk 35 48 d ?_;refine sk 36 49 d ?_;refine sk 37 50 d ?_;refine sk 38 51 d ?_;refine sk 39 52 d ?_;refine sk 40 53 d ?_;refine tkz 41 54 d ?_;refine GT Ϧ ?_ _;have B:Ϣ w z:=g.drew.trans (f.mono g.size);go_wp2;go_ret;exact⟨JH u.o.symm,B⟩
   ·have HO:ϡ (EG v):=⟨by rw[J.o];omega,λi M=>HA.o i (by rw[J.o]at M;omega)⟩;go_wp2;go_ret;exact⟨JH (Ou HO.o).symm,g⟩
end ch
namespace cd
open vl bf bt jn
def IF(f:Nat->Int)(e:Int)(k:Nat):Bool:=(List.range k).any λi=>f i==e
def Aav(f:Nat->Int)(e:Int)(k:Nat):IF f e (k+1)=(IF f e k||(f k==e)):=by
 unfold IF;rw[range_succ,any_append];simp
def Pt(f:Nat->Int)(e:Int)(k:Nat):IF f e k=true↔ ∃i,i<k/\f i=e:=by
 unfold IF;simp[bP]
theorem Aaw(a:List Int)(v:List ch.Cnt):Ej a v=if IF (λi=>pl.Ds a (v.getD i ϰ).r) 2 (ϲ v)=true then 2 else if IF (λi=>pl.Ds a (v.getD i ϰ).r) 5 (ϲ v)=true then 5 else 0:=by
 have c:OJ a v= !(IF (λi=>pl.Ds a (v.getD i ϰ).r) 2 (ϲ v)):=by
  rw[PJ];unfold OJ;rw[pl.AA,bA,<-Bool.not_eq_true,Pt]
  constructor
  ·rintro h ⟨i,b,e⟩;have:=Fd (h i b);unfold pl.Ds at e;rw[AC (λh=>h this)]at e;split at e<;>cases e
  ·intro h i b;refine DB (Classical.byContradiction λg=>h ⟨i,b,?_⟩);show pl.Ds _ _=2;unfold pl.Ds;rw[AE g]
 unfold Ej;rw[c]
 cases hm:IF (λi=>pl.Ds a (v.getD i ϰ).r) 2 (ϲ v) with
 |true=>rfl
 |false=>
  rw[hm]at c;unfold OJ at c;rw[show(!false)=true from rfl,pl.AA]at c;have d:ZC a v= !(IF (λi=>pl.Ds a (v.getD i ϰ).r) 5 (ϲ v)):=by
   rw[PJ];unfold ZC;rw[pl.AA,bA,<-Bool.not_eq_true,Pt]
   constructor
   ·rintro d ⟨i,b,e⟩;have e:pl.Ds a (v.getD i ϰ).r=5:=e;unfold pl.Ds at e;rw[AC (λf=>f (Fd (c i b))),AC (by rw[d i b];decide)]at e
    cases e
   ·intro d i b
    cases ht:pl.BQ (v.getD i ϰ).r a with
    |true=>rfl
    |false=>
     refine absurd ⟨i,b,?_⟩ d;show pl.Ds _ _=5;unfold pl.Ds;rw[AC (λf=>f (Fd (c i b))),AE ht]
  rw[d]
  cases IF (λi=>pl.Ds a (v.getD i ϰ).r) 5 (ϲ v)<;>rfl
theorem U6(p:pl.Pln)(x:pl.PA)(a:Ϡ)(cap:Nat)(j:List gr.GX)(b:List gr.Grp)(w:ϟ)(i:pl.wfPlan p)(f:pl.planAt w p x)(m:gr.gsAt w a j b)(n:∀g∈b,gr.wfG g)(l:ϲ b<=ύ):
 χ 62 #[pl.Ai p x,vS a (ϲ b) cap] w (ψ w (vI (gr.CP p b))):=by
 by_cases h:pl.Ag p≠0\/p.grouped=false\/4096<ϲ b
 ·exact gr.Nl p x a cap b w i f l h
 ·have c:pl.Ag p=0:=Classical.byContradiction λe=>h (.inl e);have d:p.grouped=true:=by
   cases e:p.grouped with
   |true=>rfl
   |false=>exact absurd (.inr (.inl e)) h
  have k:ϲ b<=4096:=by
   rcases RN 4096 (ϲ b) with e|e
   ·exact absurd (.inr (.inr e)) h
   ·exact e
  have:=gr.NI p x a cap j b w i f m n k c d;rw[show gr.CP p b=(if pl.allB (ϲ b) (gr.Gb p b)=false then 1 else 0) by
   unfold gr.CP;rw[AC (by simpa using c),AC (by simp[d]),AC ϣ]]
  exact this
theorem U7(p:pl.Pln)(x:pl.PA)(e:Egg)(y:GGX)(w:ϟ)(hw:pl.wfPlan p)(hp:pl.planAt w p x)(h:eggAt w e y)(B:wfEg e)(hE:∀z∈Ab e.j.L++Ab e.j.R,wfE z/\z.key.size<=140737488355328/\(ϲ z.row)<=2000000)(av:ϲ (Ab e.j.L)<=4611686018427387904)(aw:ϲ (Ab e.j.R)<=4611686018427387904):
 χ 30 #[pl.Ai p x,egV e y] w (ψ w (vI (BS p e))):=by
 have E:=hIz (λ(a:ϟ) (m:Ϣ w a)=>TJ p x e.j y.y a hw (pl.Ae hp m) (h.j.below m) hE av aw);have D:=hIz (λ(a:ϟ) (m:Ϣ w a)=>U6 p x y.ga y.gc y.xs e.gs a hw (pl.Ae hp m) (h.g.below m) B.g B.gl);have KV:=hIz (λ(a:ϟ) (m:Ϣ w a)=>ch.Qd y.va y.vc e.v a (ch.Bp h.v m) B.v B.n);have v:ϡ (AV p e.j=0->∀a,Ϣ w a->CT 64 #[pl.Ai p x] a λo w'=>(∃A az,o= .returned (vS A (ϲ (pl.Cc p)) az)/\pl.Au w' A (pl.Cc p))/\Ϣ a w'):=λh0 a m=>pl.ZN p x a hw (pl.Ae hp m) (Ga h0);have C:ϡ (AV p e.j=0->∀a k F rc A cp,k<ϲ e.v->vl.rowAt a F (e.v.getD k ϰ).r->pl.Au a A (pl.Cc p)->CT 65 #[vS A (ϲ (pl.Cc p)) cp,vS F (ϲ (e.v.getD k ϰ).r) rc] a (ψ a (vI (pl.Ds (pl.Cc p) (e.v.getD k ϰ).r)))):=λh0 a k F rc A cp hk hr hi=>pl.Hl F A rc cp _ _ a (ch.Ir B.v k hk).2.1 (TZ (Ga h0)) hr hi;have G:ϡ (Ej (pl.Cc p) e.v=if IF (λi=>pl.Ds (pl.Cc p) (e.v.getD i ϰ).r) 2 (ϲ e.v)=true then 2 else if IF (λi=>pl.Ds (pl.Cc p) (e.v.getD i ϰ).r) 5 (ϲ e.v)=true then 5 else 0):=Aaw _ _;have HS:ϡ (∀c k,IF (λi=>pl.Ds (pl.Cc p) (e.v.getD i ϰ).r) c (k+1)=(IF (λi=>pl.Ds (pl.Cc p) (e.v.getD i ϰ).r) c k||(pl.Ds (pl.Cc p) (e.v.getD k ϰ).r==c))):=λc k=>Aav _ c k;have HZ:ϡ (∀c,IF (λi=>pl.Ds (pl.Cc p) (e.v.getD i ϰ).r) c 0=false):=λc=>rfl;have HT:ϡ (∀k,k<ϲ e.v->pl.Ds (pl.Cc p) (e.v.getD k ϰ).r=2->IF (λi=>pl.Ds (pl.Cc p) (e.v.getD i ϰ).r) 2 (ϲ e.v)=true):=λk hk h2=>(Pt _ _ _).2 ⟨k,hk,h2⟩;have HV:ϡ (ch.viewAt w y.va e.v):=h.v;have a3:ϲ e.v<=ύ:=B.n;obtain⟨R,hR⟩:=nM (BS p e);have d:=hV0 hR;rw[hR];clear hR hw hp h B hE av aw;unfold BS at d;have u:ϡ (Hk p e.gs=if p.grouped=true then gr.CP p e.gs else if 0<ϲ e.gs then 1 else 0):=rfl;obtain⟨E5,h9⟩:=nM (Hk p e.gs);rw[h9]at d u;clear h9
 obtain⟨j,q1⟩:∃f:Int->Nat->Bool,∀c k,IF (λi=>pl.Ds (pl.Cc p) (e.v.getD i ϰ).r) c k=f c k:=⟨_,λ_ _=>rfl⟩;obtain⟨FE,q2⟩:∃f:Nat->Int,∀k,pl.Ds (pl.Cc p) (e.v.getD k ϰ).r=f k:=⟨_,λ_=>rfl⟩;simp only[q1]at G HS HZ HT;simp only[q2]at C HS HT;obtain⟨E1,h1⟩:=nM (AV p e.j);obtain⟨E2,h2⟩:=nM (Ej (pl.Cc p) e.v);obtain⟨Z,h3⟩:=nM (gr.CP p e.gs);obtain⟨E4,h4⟩:=nM (ch.Av e.v);rw[h1]at E v C d;rw[h2]at G d;rw[h3]at D u;rw[h4]at KV d;obtain⟨cs,h5⟩:=nM (pl.Cc p);simp only[h5]at v C;obtain⟨cn,h6⟩:=nM (ϲ cs);simp only[h6]at v C;obtain⟨n,h7⟩:=nM (ϲ e.v);have HN:=hV0 h7;obtain⟨gd,hg⟩:=nM p.grouped;have HG:=hV0 hg;clear h1 h2 h3 h4 h5 h6 q1 q2;simp only[h7]at KV C G HT a3;obtain⟨gn,h8⟩:=nM (ϲ e.gs);simp only[h8]at D u;have aj:=hV0 h8;clear h8 h7;unfold pl.Ai at E D v⊢;rw[hg]at E D v u⊢;clear hg;rw[AU]at E;unfold egV;go_enter func30,ntmps30;unfold egC;go_wp2_with fail;generalize hV:(World.alloc (World.alloc w _) _)=V;have af:Ϣ w V:=by rw[<-hV];exact Ϯ.alloc ϥ _
 have q:ϡ (boxP V w p x):=by
  subst hV;rw[<-HG.o];exact Af (BF ..) Ϯ
 have l:ϡ (SB V (w.heap.size+1) (egC e y)):=by
  subst hV;have:=SB.new (ϊ w #[vI p.kind,vI p.mode,vI p.low,vI p.high,vI p.size,vI p.limit,vS x.l (ϲ p.left) x.lc,vS x.r (ϲ p.right) x.rc,vS x.lk (ϲ p.lkeys) x.lkc,vS x.rk (ϲ p.rkeys) x.rkc,.bool gd,vS x.g (ϲ p.group) x.gc,vS x.a (ϲ p.aggs) x.ac] 32) (egC e y) 42;rw[D0]at this;exact this
 clear hV;refine(E.o _ af).mono ?_;rintro e1 a ⟨rfl,aa⟩;have g:Ϣ w a:=bT af aa;replace q:ϡ (boxP a w p x):=Af q.o aa;replace l:ϡ (SB a (w.heap.size+1) (egC e y)):=l.o.below aa;clear aa af E;by_cases k1:E1=0
 rotate_left
 ·have a5:(E1 !=0)=true:=by simpa using k1
  have s:ϡ (E1=R):=by show _=_;rw[<-d.o,AE k1]
  go_wp2;go_ret;exact⟨vl.Ad s.o,g⟩
 subst k1;rw[AC Ϥ]at d;obtain⟨L,M,P,Q,S,T,U,W,X,Y,r,N,O⟩:=q.o;rw[HG.o]at r;obtain⟨u0,u1,u2,u3,u4,u5,u6,u7,u8,u9,u10⟩:=Ib l.o;rw[aj.o]at u9
 cases gd
 case' false=>
  by_cases hn:0<gn
  case pos=>
   have a2:(0:Int)<(gn:Int):=ϣ;have G1:ϡ (E5=1):=by show _=_;rw[u.o];simp[hn]
   have s:ϡ (1=R):=by show _=_;rw[<-d.o,G1.o];simp
   go_wp2;go_ret;exact⟨vl.Ad s.o,g⟩
  have a2:¬(0:Int)<(gn:Int):=ϣ;have G1:ϡ (E5=0):=by show _=_;rw[u.o];simp[hn]
  rw[G1.o,AC ϥ]at d;obtain⟨WW,rfl⟩:∃z,z=a:=⟨_,rfl⟩
 case' true=>
  have G1:ϡ (E5=Z):=by show _=_;rw[u.o];simp
  rw[G1.o]at d;go_wp2_with fail;refine(D.o _ g).mono ?_;rintro e2 WW ⟨rfl,ab⟩;replace g:Ϣ w WW:=bT g ab;replace q:ϡ (boxP WW w p x):=Af q.o ab;replace l:ϡ (SB WW (w.heap.size+1) (egC e y)):=l.o.below ab;clear L M P Q S T U W X Y r N O u0 u1 u2 u3 u4 u5 u6 u7 u8 u9 u10 ab;by_cases k2:Z=0
  case neg=>
   have a6:(Z !=0)=true:=by simpa using k2
   have s:ϡ (Z=R):=by show _=_;rw[<-d.o,AE k2]
   go_wp2;go_ret;exact⟨vl.Ad s.o,g⟩
  subst k2;rw[AC Ϥ]at d;obtain⟨L,M,P,Q,S,T,U,W,X,Y,r,N,O⟩:=q.o;rw[HG.o]at r;obtain⟨u0,u1,u2,u3,u4,u5,u6,u7,u8,u9,u10⟩:=Ib l.o;rw[aj.o]at u9
 all_goals
  rw[HN.o]at u10;go_wp2_with fail;refine(KV.o _ g).mono ?_;rintro e3 w3 ⟨rfl,ac⟩;replace g:Ϣ w w3:=bT g ac;replace q:ϡ (boxP w3 w p x):=Af q.o ac;replace l:ϡ (SB w3 (w.heap.size+1) (egC e y)):=l.o.below ac;clear L M P Q S T U W X Y r N O u0 u1 u2 u3 u4 u5 u6 u7 u8 u9 u10 ac;by_cases k3:E4=0
  rotate_left
  ·have a7:(E4 !=0)=true:=by simpa using k3
   have s:ϡ (E4=R):=by show _=_;rw[<-d.o,AE k3]
   go_wp2;go_ret;exact⟨vl.Ad s.o,g⟩
  subst k3;rw[AC Ϥ]at d;obtain⟨L,M,P,Q,S,T,U,W,X,Y,r,N,O⟩:=q.o;rw[HG.o]at r;obtain⟨u0,u1,u2,u3,u4,u5,u6,u7,u8,u9,u10⟩:=Ib l.o;go_wp2_with fail;refine(v.o ϫ _ g).mono ?_;rintro e4 w4 ⟨⟨oa,oc,rfl,ar⟩,I⟩;replace g:Ϣ w w4:=bT g I;replace q:ϡ (boxP w4 w p x):=Af q.o I;replace l:ϡ (SB w4 (w.heap.size+1) (egC e y)):=l.o.below I;clear L M P Q S T U W X Y r N O u0 u1 u2 u3 u4 u5 u6 u7 u8 u9 u10 I;have ay:=hV0 ar;have ai:=hV0 g;have am:ϡ ((if j 2 n=true then 2 else if j 5 n=true then 5 else 0)=R):=by show _=_;rw[<-G.o];exact d.o
  clear ar d G g D KV v;go_wp2_with fail
  go_loopw [9,10] (λt i wr=> ∃k:Nat,k<=n/\i=vI k/\t= .bool (j 5 k)/\j 2 k=false/\Ϣ w4 wr) (λ_ i _=>n - (intOf i).toNat)
  case atStart=>exact⟨0,At _,rfl,by rw[HZ.o],HZ.o 2,bR⟩
  case round=>
   obtain⟨k,hk,rfl,rfl,aq,K⟩:=hrel;have ak:=hV0 aq;clear aq;have J:=ai.o.trans (K.mono ai.o.size);have I:=K.mono nR;have ax:=l.o.below K;have u10:=ax.cell 10 _ rfl;rw[HN.o]at u10;have lu:=bLt _ _ u10;by_cases ag:k<n
   ·obtain⟨b,o,F,a4,ee,x1,x2,x3⟩:=HV.o k (by rw[HN.o];exact ag);rw[ee]at u10;have q1:=cLz J x1;have i1:=nn0 k;have i2:(k:Int)<(n:Int):=ϣ;have ae:ϡ (CT 65 _ wr _):=C.o ϫ wr k F a4 oa oc ag (vl.Ac x2 J) (pl.Al ay.o K);have H2:ϡ (j 2 (k+1)=(j 2 k||(FE k==2))):=HS.o 2 k;have H5:ϡ (j 5 (k+1)=(j 5 k||(FE k==5))):=HS.o 5 k;have ah:ϡ (FE k=2->j 2 n=true):=HT.o k ag;obtain⟨fe,ao⟩:=nM (FE k);obtain⟨rl,au⟩:=nM (ϲ (e.v.getD k ϰ).r);rw[ao]at ae H2 H5 ah;rw[au]at ae q1;clear ao au x1 x2 x3 ee;obtain⟨m5,ap⟩:=nM (j 5 k);rw[ap]at H5⊢;clear ap;go_wp2_with fail;refine ae.o.mono ?_;rintro e5 w5 ⟨rfl,an⟩;by_cases f2:fe=2
    ·have H:ϡ (2=R):=by show _=_;rw[<-am.o,AE (ah.o f2)]
     subst f2;go_wp2;go_ret;exact⟨vl.Ad H.o,bT J an⟩
    have a0:(fe==2)=false:=by simpa using f2
    have HM:ϡ (j 2 (k+1)=false):=by show _=_;rw[H2.o,ak.o,a0];rfl
    clear f2
    cases m5
    all_goals
     go_wp2;go_roundw;exact⟨k+1,ϣ,by go_num,by rw[H5.o];first|rfl|simp,HM.o,bT K an⟩;simp[intOf];omega
   ·have a1:k=n:=ϣ;subst a1;have al:ϡ ((if j 5 k=true then 5 else 0)=R):=by show _=_;rw[<-am.o,ak.o];rfl
    cases m:j 5 k with
    |true=>
     have H:ϡ (5=R):=by show _=_;rw[<-al.o,m];rfl
     go_wp2;go_ret;exact⟨vl.Ad H.o,J⟩
    |false=>
     have H:ϡ (0=R):=by show _=_;rw[<-al.o,m];rfl
     go_wp2;go_ret;exact⟨vl.Ad H.o,J⟩
end cd
