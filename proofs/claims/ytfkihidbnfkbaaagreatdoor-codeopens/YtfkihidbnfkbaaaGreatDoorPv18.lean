import Derived.Test.YtfkihidbnfkbaaaGreatDoorPv10
import Derived.Test.YtfkihidbnfkbaaaGreatDoorPv13
set_option linter.all false
set_option maxHeartbeats 1000000
set_option maxRecDepth 100000
open Go.ChangeShapes Go.WideShapes Go.ChangeAt Go.RowKit
namespace Go.Proofs.YtfkihidbnfkbaaaGreatDoor
open Go.Proofs.Tryz
namespace bt
open vl pl
def C9(n:Nat):List Cel:=List.replicate n ⟨0,0,⟨#[]⟩⟩
end bt
namespace bt
open vl pl
theorem AaX:(Tryz.prog.info? 119).map (λi=>(i.zero,i.size,i.bytes))=some (some (.agg #[ω,ω,ϊ]),3,32):=ϟ
theorem W8(n:Nat)(w:Ϙ)(e:n<=400):
 (Instr.makeSlice 80 (vI (n:Int)) (vI (n:Int))).run Tryz.prog w= .ok (vS (τ w) n n) (ξ w (madeCells #[ω,ω,ϊ] (n * 3)) 119):=by
 have a:=AaX
 cases hi:Tryz.prog.info? 119 with
 |none=>rw[hi]at a;cases a
 |some i=>
  rw[hi]at a;simp only[Option.map_some,Option.some.injEq,Prod.mk.injEq]at a;obtain⟨d,b,c⟩:=a;have:=run_makeSlice (P:=Tryz.prog) (w:=w) 80 119 i _ underlying80 hi d .i64 .i64 n n Ϝ (Int.le_refl _) (by rw[b];simp;omega) (by rw[c];omega) Ϝ;rw[b,Int.toNat_natCast]at this;exact this
theorem W9(n:Nat)(w:Ϙ)(k:1<=n)(l:n<=4):vl.rowAt (ξ w (madeCells #[ω,ω,ϊ] (n * 3)) 119) (τ w) (C9 n):=by
 have b:madeCells #[ω,ω,ϊ] (1 * 3)=#[vI 0,vI 0,.string ⟨#[]⟩]:=ϟ;have c:madeCells #[ω,ω,ϊ] (2 * 3)=#[vI 0,vI 0,.string ⟨#[]⟩,vI 0,vI 0,.string ⟨#[]⟩]:=ϟ;have d:madeCells #[ω,ω,ϊ] (3 * 3)=#[vI 0,vI 0,.string ⟨#[]⟩,vI 0,vI 0,.string ⟨#[]⟩,vI 0,vI 0,.string ⟨#[]⟩]:=ϟ;have f:madeCells #[ω,ω,ϊ] (4 * 3)=#[vI 0,vI 0,.string ⟨#[]⟩,vI 0,vI 0,.string ⟨#[]⟩,vI 0,vI 0,.string ⟨#[]⟩,vI 0,vI 0,.string ⟨#[]⟩]:=ϟ;have j:n=1\/n=2\/n=3\/n=4:=Ϝ;intro i g;have a:i<n:=by simpa[C9]using g
 refine⟨_,_,rfl,?_⟩;have e:(C9 n).getD i default=⟨0,0,⟨#[]⟩⟩:=by simp[C9,gDe,a]
 rw[e];have h:i=0\/i=1\/i=2\/i=3:=Ϝ;rcases j with rfl|rfl|rfl|rfl<;>rcases h with rfl|rfl|rfl|rfl<;>first|(exact absurd a ϝ)|((first|rw[b]|rw[c]|rw[d]|rw[f]);clear b c d f;refine⟨?_,?_,?_⟩<;>go_simp)
theorem U3(p:Pln)(x:PA)(side:Int)(w:Ϙ)(s:1<=(AF p side).length)(t:(AF p side).length<=4):
 η 365 #[Aq p x,vI side] w λe A=>(∃d,e= .returned (vS (τ d) (AF p side).length (AF p side).length)/\w.heap.size<=d/\vl.rowAt A (τ d) (C9 (AF p side).length))/\ϛ w A:=by
 have c:=hIz (λ(b:Ϙ)=>Kr p x side b);have q:Ϛ (∀b,vl.rowAt (ξ b (madeCells #[ω,ω,ϊ] ((AF p side).length * 3)) 119) (τ b) (C9 (AF p side).length)):=λb=>W9 _ b s t;have r:Ϛ (∀b,(Instr.makeSlice 80 (vI ((AF p side).length:Int)) (vI ((AF p side).length:Int))).run Tryz.prog b= .ok (vS (τ b) (AF p side).length (AF p side).length) (ξ b (madeCells #[ω,ω,ϊ] ((AF p side).length * 3)) 119)):=λb=>W8 _ b Ϝ;obtain⟨n,o⟩:∃n,(AF p side).length=n:=⟨_,rfl⟩;obtain⟨H,v⟩:=nM (cA x side);obtain⟨I,y⟩:=nM (cC x side);rw[o]at q r⊢;rw[o,v,y]at c;clear o v y s t;obtain⟨N,T,S,L,ab,P,left,right,E,F,K,C,B⟩:=p;obtain⟨l,O,rr,rc,Q,R,rk,aa,g,J,a,G⟩:=x;unfold Aq at c⊢;dsimp only at c⊢;obtain⟨W,i⟩:∃n,left.length=n:=⟨_,rfl⟩;obtain⟨X,j⟩:∃n,right.length=n:=⟨_,rfl⟩;obtain⟨Y,k⟩:∃n,E.length=n:=⟨_,rfl⟩;obtain⟨Z,m⟩:∃n,F.length=n:=⟨_,rfl⟩;obtain⟨U,f⟩:∃n,C.length=n:=⟨_,rfl⟩;obtain⟨V,h⟩:∃n,B.length=n:=⟨_,rfl⟩;rw[i,j,k,m,f,h]at c;rw[i,j,k,m,f,h];clear i j k m f h;go_enter func365,ntmps365;go_wp2_with fail;refine(c.o _).mono ?_;rintro e b ⟨rfl,D⟩;have u:=ϧ.trans (D.mono Ϟ);have M:=r.o b;have z:=u.size;go_wp2;go_ret;exact⟨⟨_,rfl,z,q.o b⟩,u.alloc z _⟩
end bt
namespace bt
open vl pl
theorem WA{p:Pln}(h:An p=0):p.left.length<=4/\p.right.length<=4:=by
 have a:=(BI h).2.2.1;exact⟨a.1.1.2,a.1.2.1.2⟩
end bt
end Go.Proofs.YtfkihidbnfkbaaaGreatDoor
