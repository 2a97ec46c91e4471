import Derived.Test.YtfkihidbnfkbaaaGreatDoorPv1
set_option linter.all false
namespace Go.Proofs.YtfkihidbnfkbaaaGreatDoor
open ChangeShapes WideShapes ChangeAt RowKit
variable {W w w' : ϟ} {p0 p1 p2 p3 p4 p5 p6 p7 p8 p9 : Addr} {c0 c1 c10 c11 c12 c2 c3 c4 c5 c6 c7 c8 c9 : Value} {b : Nat}
def nn0(k:Nat):(0:Int)<=(k:Int):=Int.natCast_nonneg k
def lk3(h:Ϣ w w')(h0:w.cell? p0=some c0)(h1:w.cell? p1=some c1)(a:w.cell? p2=some c2):w'.cell? p0=some c0/\w'.cell? p1=some c1/\w'.cell? p2=some c2:=⟨cLz h h0,cLz h h1,cLz h a⟩
def lk4(h:Ϣ w w')(h0:w.cell? p0=some c0)(h1:w.cell? p1=some c1)(a:w.cell? p2=some c2)(c:w.cell? p3=some c3):w'.cell? p0=some c0/\w'.cell? p1=some c1/\w'.cell? p2=some c2/\w'.cell? p3=some c3:=⟨cLz h h0,cLz h h1,cLz h a,cLz h c⟩
def lk5(h:Ϣ w w')(h0:w.cell? p0=some c0)(h1:w.cell? p1=some c1)(a:w.cell? p2=some c2)(c:w.cell? p3=some c3)(d:w.cell? p4=some c4):w'.cell? p0=some c0/\w'.cell? p1=some c1/\w'.cell? p2=some c2/\w'.cell? p3=some c3/\w'.cell? p4=some c4:=⟨cLz h h0,cLz h h1,cLz h a,cLz h c,cLz h d⟩
def lk6(h:Ϣ w w')(h0:w.cell? p0=some c0)(h1:w.cell? p1=some c1)(a:w.cell? p2=some c2)(c:w.cell? p3=some c3)(d:w.cell? p4=some c4)(e:w.cell? p5=some c5):w'.cell? p0=some c0/\w'.cell? p1=some c1/\w'.cell? p2=some c2/\w'.cell? p3=some c3/\w'.cell? p4=some c4/\w'.cell? p5=some c5:=⟨cLz h h0,cLz h h1,cLz h a,cLz h c,cLz h d,cLz h e⟩
def lk7(h:Ϣ w w')(h0:w.cell? p0=some c0)(h1:w.cell? p1=some c1)(a:w.cell? p2=some c2)(c:w.cell? p3=some c3)(d:w.cell? p4=some c4)(e:w.cell? p5=some c5)(f:w.cell? p6=some c6):w'.cell? p0=some c0/\w'.cell? p1=some c1/\w'.cell? p2=some c2/\w'.cell? p3=some c3/\w'.cell? p4=some c4/\w'.cell? p5=some c5/\w'.cell? p6=some c6:=⟨cLz h h0,cLz h h1,cLz h a,cLz h c,cLz h d,cLz h e,cLz h f⟩
def lk8(h:Ϣ w w')(h0:w.cell? p0=some c0)(h1:w.cell? p1=some c1)(a:w.cell? p2=some c2)(c:w.cell? p3=some c3)(d:w.cell? p4=some c4)(e:w.cell? p5=some c5)(f:w.cell? p6=some c6)(g:w.cell? p7=some c7):w'.cell? p0=some c0/\w'.cell? p1=some c1/\w'.cell? p2=some c2/\w'.cell? p3=some c3/\w'.cell? p4=some c4/\w'.cell? p5=some c5/\w'.cell? p6=some c6/\w'.cell? p7=some c7:=⟨cLz h h0,cLz h h1,cLz h a,cLz h c,cLz h d,cLz h e,cLz h f,cLz h g⟩
def AgZ(h:Ϣ w w')(h0:w.cell? p0=some c0)(h1:w.cell? p1=some c1)(a:w.cell? p2=some c2)(c:w.cell? p3=some c3)(d:w.cell? p4=some c4)(e:w.cell? p5=some c5)(f:w.cell? p6=some c6)(g:w.cell? p7=some c7)(i:w.cell? p8=some c8)(j:w.cell? p9=some c9):w'.cell? p0=some c0/\w'.cell? p1=some c1/\w'.cell? p2=some c2/\w'.cell? p3=some c3/\w'.cell? p4=some c4/\w'.cell? p5=some c5/\w'.cell? p6=some c6/\w'.cell? p7=some c7/\w'.cell? p8=some c8/\w'.cell? p9=some c9:=⟨cLz h h0,cLz h h1,cLz h a,cLz h c,cLz h d,cLz h e,cLz h f,cLz h g,cLz h i,cLz h j⟩
theorem Acx(h:Ϣ w w'){a c d:Addr}(h0:w.cell? p0=some c0)(h1:w.cell? p1=some c1)(i:w.cell? p2=some c2)(j:w.cell? p3=some c3)(k:w.cell? p4=some c4)(l:w.cell? p5=some c5)(m:w.cell? p6=some c6)(n:w.cell? p7=some c7)(o:w.cell? p8=some c8)(p:w.cell? p9=some c9)(e:w.cell? a=some c10)(f:w.cell? c=some c11)(g:w.cell? d=some c12):w'.cell? p0=some c0/\w'.cell? p1=some c1/\w'.cell? p2=some c2/\w'.cell? p3=some c3/\w'.cell? p4=some c4/\w'.cell? p5=some c5/\w'.cell? p6=some c6/\w'.cell? p7=some c7/\w'.cell? p8=some c8/\w'.cell? p9=some c9/\w'.cell? a=some c10/\w'.cell? c=some c11/\w'.cell? d=some c12:=⟨cLz h h0,cLz h h1,cLz h i,cLz h j,cLz h k,cLz h l,cLz h m,cLz h n,cLz h o,cLz h p,cLz h e,cLz h f,cLz h g⟩
def Aha{V:ϟ}{T:TypeId}(h:w.alloc (.cells #[c0,c1,c2,c3,c4,c5,c6,c7,c8,c9,c10,c11,c12] T)=V):Ϝ V w c0 c1 c2 c3 c4 c5 c6 c7 c8 c9 c10 c11 c12:=by
 subst h;refine⟨?_,?_,?_,?_,?_,?_,?_,?_,?_,?_,?_,?_,?_⟩<;>go_simp
def rg9(h:W.rangeAt b 0 [c0,c1,c2,c3,c4,c5,c6,c7,c8]):ϛ W b c0 c1 c2 c3 c4 c5 c6 c7 c8:=by
 have f:∀i v,[c0,c1,c2,c3,c4,c5,c6,c7,c8][i]? =some v->Δ W b i v:=λi v a=>by
  have:=h i v a;rwa[Fr]at this
 exact⟨f 0 _ rfl,f 1 _ rfl,f 2 _ rfl,f 3 _ rfl,f 4 _ rfl,f 5 _ rfl,f 6 _ rfl,f 7 _ rfl,f 8 _ rfl⟩
def TU(h:W.rangeAt b 0 [c0,c1,c2,c3,c4,c5,c6,c7,c8,c9,c10]):Δ W b 0 c0/\Δ W b 1 c1/\Δ W b 2 c2/\Δ W b 3 c3/\Δ W b 4 c4/\Δ W b 5 c5/\Δ W b 6 c6/\Δ W b 7 c7/\Δ W b 8 c8/\Δ W b 9 c9/\Δ W b 10 c10:=by
 have f:∀i v,[c0,c1,c2,c3,c4,c5,c6,c7,c8,c9,c10][i]? =some v->Δ W b i v:=λi v a=>by
  have:=h i v a;rwa[Fr]at this
 exact⟨f 0 _ rfl,f 1 _ rfl,f 2 _ rfl,f 3 _ rfl,f 4 _ rfl,f 5 _ rfl,f 6 _ rfl,f 7 _ rfl,f 8 _ rfl,f 9 _ rfl,f 10 _ rfl⟩
