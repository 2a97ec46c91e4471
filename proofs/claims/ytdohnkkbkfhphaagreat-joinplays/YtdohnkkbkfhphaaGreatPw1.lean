import Derived.Test.YtdohnkkbkfhphaaGreatRows
import Derived.ProofKit
import Derived.OpenShut
import Derived.WalkSpells
import Derived.Deep.RegionHeld3
import Derived.WalkLawsBesides
import Derived.Shelf.Small.Strs
import Derived.Deep.DrawnRows
import Derived.RangeFuncNested
import Derived.Shelf.SlLaysF0
import Derived.Shelf.SlIter.Nil
import Derived.Shelf.SortM.Plain
import Derived.Shelf.SortM.SortNone
set_option linter.all false
set_option maxHeartbeats 2000000
set_option maxRecDepth 100000
open Go.ChangeShapes Go.WideShapes Go.ChangeAt Go.RowKit Go.Shelf Go.Maps Go.Sort List
namespace Go.Proofs.YtdohnkkbkfhphaaGreat
variable {w : World} {a : Addr} {v : Value} {fuel i n : Nat} {P : Program} {md : Region.Mode} {ops : Array Oper} {Q : Exit -> Act -> World -> Prop} {S : World -> Prop} {listed : Array Bool} {b : Act} {oi : Oper}
abbrev vI(n:Int):Value:=.int .i64 n
abbrev vS(a:Option Addr)(n c:Nat):Value:=.slice a n c
abbrev ce(w:World)(b o:Nat)(v:Value):Prop:=w.cell? ⟨b,o,none⟩=some v
abbrev CT:=Calls Tryz.prog
abbrev Ϟ(w v:World):Prop:=Below w.heap.size w v
theorem cLz{c:World}(d:Ϟ w c)(h:w.cell? a=some v):c.cell? a=some v:=cell_later d h
instance:Coe World Nat:=⟨λw=>w.heap.size⟩
instance:Coe Nat Addr:=⟨λb=>⟨b,0,none⟩⟩
theorem nM{α:Type}(a:α):∃z,a=z:=⟨a,rfl⟩
def ϝ(p:Prop):Prop:=p
theorem ϝ.o{p:Prop}(h:ϝ p):p:=h
theorem hV0{p:Prop}(h:p):ϝ p:=h
theorem bT{a b c:World}(h:Below a.heap.size a b)(k:Below b.heap.size b c):Below a.heap.size a c:=h.trans (k.mono h.size)
theorem rD{P:Program}{md:Region.Mode}{ops:Array Oper}{Q:Exit->Act->World->Prop}{S:World->Prop}{fuel:Nat}{listed:Array Bool}{a:Act}{w:World}{o:Oper}(i:Nat)(h:∀c:Act->World->Prop,Shut (∀a w,S w->(S w->wpAnyH P md ops Q S fuel (listed.setIfInBounds i true) a w)->c a w)->if Region.wanted o (yielded ops a.tmps)=true then Oper.wp P o a w c Q else c (a.put o.dst undef) w)(e:Region.ready md ops listed=[i]:=by kernel_rfl)(d:ops[i]? =some o:=by exact rfl):wpAnyH P md ops Q S (fuel+1) listed a w:=wpAnyH_ready e (by simp) (AllReadyH.cons d h AllReadyH.nil)
structure Mmz{α:Sort _}(a:α) where
instance{α:Sort _}{a:α}:CoeOut (Mmz a) α:=⟨λ_=>a⟩
instance{p:Prop}:CoeSort (Mmz p) Prop:=⟨λ_=>p⟩
instance{p:Type}:CoeSort (Mmz p) Type:=⟨λ_=>p⟩
def Δ(w:World)(b o:Nat)(v:Value):Mmz (w.cell? ⟨b,o,none⟩=some v:Prop):=⟨⟩
def Ξ(w:World)(b o:Nat):Mmz (w.frozen? ⟨b,o,none⟩=false:Prop):=⟨⟩
def ν(l:Int)(a:Option Addr)(b c:Nat)(d:Option Addr)(e f:Nat):Mmz (#[.int .i64 l,.slice a b c,.slice d e f]:Array Value):=⟨⟩
def ζ(k:ByteArray)(t s:Int)(a:Option Addr)(b c:Nat)(m:Bool):Mmz (#[.string k,.int .i64 t,.int .i64 s,.slice a b c,.bool m]:Array Value):=⟨⟩
def θ(w:World)(v:Value):Mmz (λe w'=>e= .returned v/\Below w.heap.size w w':Ending->World->Prop):=⟨⟩
def η(n:Nat)(l:Array Value)(w:World)(Q:Ending->World->Prop):Mmz (Calls Tryz.prog n l w Q:Prop):=⟨⟩
def μ(b:Nat):Mmz (.pointer (some ⟨b,0,none⟩):Value):=⟨⟩
def ξ(w:World)(l:Array Value)(t:TypeId):Mmz (w.alloc (.cells l t):World):=⟨⟩
def τ(b:Nat):Mmz (some ⟨b,0,none⟩:Option Addr):=⟨⟩
def φ(w:World)(b o:Nat)(v:Value):Mmz (w.setCell ⟨b,o,none⟩ v:World):=⟨⟩
def χ:Mmz (9223372036854775807:Nat):=⟨⟩
def ψ:Mmz (.slice none 0 0:Value):=⟨⟩
def ω:Mmz (.int .i64 0:Value):=⟨⟩
def ϊ:Mmz (.string ⟨#[]⟩:Value):=⟨⟩
def ϋ:Mmz (.bool false:Value):=⟨⟩
def ό(w:World)(b:Nat)(o:Nat)(v0 v1 v2 v3 v4:Value):Mmz (w.cell? ⟨b,o,none⟩=some v0/\w.cell? ⟨b,o+1,none⟩=some v1/\w.cell? ⟨b,o+1+1,none⟩=some v2/\w.cell? ⟨b,o+1+1+1,none⟩=some v3/\w.cell? ⟨b,o+1+1+1+1,none⟩=some v4:Prop):=⟨⟩
def ύ(w:World)(b:Nat)(o:Nat)(v0 v1 v2 v3 v4:Value)(R:Prop):Mmz (w.cell? ⟨b,o,none⟩=some v0/\w.cell? ⟨b,o+1,none⟩=some v1/\w.cell? ⟨b,o+1+1,none⟩=some v2/\w.cell? ⟨b,o+1+1+1,none⟩=some v3/\w.cell? ⟨b,o+1+1+1+1,none⟩=some v4/\R:Prop):=⟨⟩
def ώ(w:World)(b:Nat)(v0 v1 v2 v3 v4 v5 v6 v7 v8 v9 v10 v11 v12:Value):Mmz (w.cell? ⟨b,0,none⟩=some v0/\w.cell? ⟨b,1,none⟩=some v1/\w.cell? ⟨b,2,none⟩=some v2/\w.cell? ⟨b,3,none⟩=some v3/\w.cell? ⟨b,4,none⟩=some v4/\w.cell? ⟨b,5,none⟩=some v5/\w.cell? ⟨b,6,none⟩=some v6/\w.cell? ⟨b,7,none⟩=some v7/\w.cell? ⟨b,8,none⟩=some v8/\w.cell? ⟨b,9,none⟩=some v9/\w.cell? ⟨b,10,none⟩=some v10/\w.cell? ⟨b,11,none⟩=some v11/\w.cell? ⟨b,12,none⟩=some v12:Prop):=⟨⟩
def Ϗ(w:World)(b:Nat)(v0 v1 v2 v3 v4:Value):Mmz (w.cell? ⟨b,0,none⟩=some v0/\w.cell? ⟨b,1,none⟩=some v1/\w.cell? ⟨b,2,none⟩=some v2/\w.cell? ⟨b,3,none⟩=some v3/\w.cell? ⟨b,4,none⟩=some v4:Prop):=⟨⟩
def ϐ(w:World)(b:Nat)(v0 v1 v2 v3:Value):Mmz (w.cell? ⟨b,0,none⟩=some v0/\w.cell? ⟨b,1,none⟩=some v1/\w.cell? ⟨b,2,none⟩=some v2/\w.cell? ⟨b,3,none⟩=some v3:Prop):=⟨⟩
def ϑ(w:World)(b:Nat)(o:Nat)(v0 v1 v2:Value):Mmz (w.cell? ⟨b,o,none⟩=some v0/\w.cell? ⟨b,o+1,none⟩=some v1/\w.cell? ⟨b,o+1+1,none⟩=some v2:Prop):=⟨⟩
def ϒ(w:World)(b:Nat)(v0 v1 v2 v3 v4 v5 v6 v7 v8:Value):Mmz (w.cell? ⟨b,0,none⟩=some v0/\w.cell? ⟨b,1,none⟩=some v1/\w.cell? ⟨b,2,none⟩=some v2/\w.cell? ⟨b,3,none⟩=some v3/\w.cell? ⟨b,4,none⟩=some v4/\w.cell? ⟨b,5,none⟩=some v5/\w.cell? ⟨b,6,none⟩=some v6/\w.cell? ⟨b,7,none⟩=some v7/\w.cell? ⟨b,8,none⟩=some v8:Prop):=⟨⟩
def ϕ(w:World)(b:Nat)(v0 v1 v2:Value):Mmz (w.cell? ⟨b,0,none⟩=some v0/\w.cell? ⟨b,1,none⟩=some v1/\w.cell? ⟨b,2,none⟩=some v2:Prop):=⟨⟩
def ϖ(w:World)(b:Nat)(v0 v1 v2:Value)(R:Prop):Mmz (w.cell? ⟨b,0,none⟩=some v0/\w.cell? ⟨b,1,none⟩=some v1/\w.cell? ⟨b,2,none⟩=some v2/\R:Prop):=⟨⟩
def ϗ(w:World)(b:Nat)(v0 v1 v2 v3 v4:Value)(R:Prop):Mmz (w.cell? ⟨b,0,none⟩=some v0/\w.cell? ⟨b,1,none⟩=some v1/\w.cell? ⟨b,2,none⟩=some v2/\w.cell? ⟨b,3,none⟩=some v3/\w.cell? ⟨b,4,none⟩=some v4/\R:Prop):=⟨⟩
def Ϙ(w:World)(b:Nat)(o:Nat)(v0 v1 v2 v3:Value):Mmz (w.cell? ⟨b,o,none⟩=some v0/\w.cell? ⟨b,o+1,none⟩=some v1/\w.cell? ⟨b,o+1+1,none⟩=some v2/\w.cell? ⟨b,o+1+1+1,none⟩=some v3:Prop):=⟨⟩
def ϙ(w:World)(b:Nat)(o:Nat)(v0 v1 v2 v3:Value)(R:Prop):Mmz (w.cell? ⟨b,o,none⟩=some v0/\w.cell? ⟨b,o+1,none⟩=some v1/\w.cell? ⟨b,o+1+1,none⟩=some v2/\w.cell? ⟨b,o+1+1+1,none⟩=some v3/\R:Prop):=⟨⟩
def Ϛ(w:World)(b:Nat)(o:Nat)(v0 v1 v2:Value)(R:Prop):Mmz (w.cell? ⟨b,o,none⟩=some v0/\w.cell? ⟨b,o+1,none⟩=some v1/\w.cell? ⟨b,o+1+1,none⟩=some v2/\R:Prop):=⟨⟩
def ϛ:Mmz (World:Type):=⟨⟩
def Ϝ:Mmz (Option Addr:Type):=⟨⟩
theorem ϟ{p:Prop}(h:p:=by omega):p:=h
theorem Ϡ{p:Prop}(h:p:=by decide):p:=h
theorem ϡ{p:Prop}(h:p:=by simp):p:=h
theorem Ϣ{p:Prop}(h:p:=by kernel_rfl):p:=h
theorem ϣ{p:Prop}(h:p:=by go_simp):p:=h
theorem Ϥ{p:Prop}(h:p:=by(simp;omega)):p:=h
theorem ϥ{p:Prop}(h:p:=by(dsimp only;omega)):p:=h
theorem Ϧ{p:Prop}(h:p:=by(simp<;>omega)):p:=h
theorem ϧ{p:Prop}(h:p:=by trivial):p:=h
theorem Ϩ{p:Prop}(h:p:=by simp[Value.oneCell']):p:=h
theorem ϩ{p:Prop}(h:p:=by(unfold maxLen;omega)):p:=h
theorem bR:Below n w w:=Below.refl _ _
theorem nR:n<=n:=Nat.le_refl _
theorem Ϫ{w:World}{o:Obj}:Below w.heap.size w (w.alloc o):=bR.alloc nR _
theorem sI{α:Type}(l:List α)(i:Nat)(a:α):l.toArray.setIfInBounds i a=(l.set i a).toArray:=setIfInBounds_toArray l i a
theorem sZ{α:Type}(x:α)(xs:List α)(a:α):(x::xs).set 0 a=a::xs:=rfl
theorem sSz{α:Type}(x:α)(xs:List α)(n:Nat)(a:α):(x::xs).set (n+1) a=x::xs.set n a:=rfl
theorem hIz{p:Prop}(h:p):ϝ p:=h
theorem gDe{α:Type}{l:List α}{a:α}:l.getD i a=l[i]?.getD a:=getD_eq_getElem?_getD
theorem gEe{α:Type}{l:List α}(h:i<l.length):l[i]? =some l[i]:=getElem?_eq_getElem h
theorem bLt(w:World)(a:Addr){u:Value}(h:w.cell? a=some u):a.block<w.heap.size:=World.block_lt_of_cell? w a h
theorem lAp{α:Type}{xs c:List α}:(xs++c).length=xs.length+c.length:=length_append
theorem cOb{c:World}(h:c.heap[a.block]? =w.heap[a.block]?):c.cell? a=w.cell? a:=World.cell?_of_block h
theorem lMp{α β:Type}{xs:List α}(f:α->β):(List.map f xs).length=xs.length:=length_map f
theorem sk{a:Act}(i:Nat)(d:Nat)(j:S w)(h:wpAnyH P md ops Q S fuel (listed.setIfInBounds i true) b w)
    (l:ops[i]? =some oi:=by exact rfl) (e:(Region.noSelect ops&&(Region.free md ops listed i&&(Region.ready md ops listed).contains i))=true:=by kernel_rfl) (k:oi.dst=some d:=by exact rfl) (m:Region.wanted oi (yielded ops a.tmps)=false:=by exact rfl) (ha:a.put (some d) undef=b:=by(simp only[Act.put,sI,sZ,sSz];exact rfl))
    (f:∀c a w,Q (.panic c) (a.put oi.dst undef) w->Q (.panic c) a w:=by exact λ_ _ _ h=>h):wpAnyH P md ops Q S (fuel+1) listed a w:=by
  rw[Bool.and_eq_true,Bool.and_eq_true]at e;exact wpAnyH_take l e.1 e.2.1 e.2.2 f (Or.inr ⟨m,rfl⟩) j (by rw[k,ha];exact h)
theorem tkz{a:Act}(i:Nat)(d:Nat)(j:S w)(h:wpAnyH P md ops Q S fuel (listed.setIfInBounds i true) b w)
    (m:ops[i]? =some oi:=by exact rfl) (e:(Region.noSelect ops&&(Region.free md ops listed i&&(Region.ready md ops listed).contains i))=true:=by kernel_rfl) (l:oi.dst=some d:=by exact rfl) (p:Region.wanted oi (yielded ops a.tmps)=true:=by exact rfl) (hy:∀w,S w->(execOp a.eval oi).run P w= .ok (.value v) w:=by(intro q k;(try dsimp only at k);first|(go_simp;done)|(go_simp;with_reducible rfl))) (ha:a.put (some d) v=b:=by(simp only[Act.put,sI,sZ,sSz];exact rfl))
    (f:∀c a w,Q (.panic c) (a.put oi.dst v) w->Q (.panic c) a w:=by exact λ_ _ _ h=>h):wpAnyH P md ops Q S (fuel+1) listed a w:=by
  rw[Bool.and_eq_true,Bool.and_eq_true]at e;exact wpAnyH_take m e.1 e.2.1 e.2.2 f (Or.inl ⟨p,hy⟩) j (by rw[l,ha];exact h)
end Go.Proofs.YtdohnkkbkfhphaaGreat
namespace Go.Proofs
def Tryz.lays106_ren:Go.Shelf.Ren:=⟨fun|106=>165|213=>205|265=>218|n=>n,fun|9=>9|3=>3|n=>n,fun|n=>n⟩
theorem Tryz.lays106:Go.Proofs.Lays.n106 Tryz.prog Tryz.lays106_ren:={
 mixed:=by kernel_rfl
 f106:=Tryz.func165.trans (congrArg some (by kernel_rfl))
 f213:=Tryz.func205.trans (congrArg some (by kernel_rfl))
 f265:=Tryz.func218.trans (congrArg some (by kernel_rfl))
 t3:=Tryz.underlying3
 a3:=Tryz.isAgg3
 z3:=Tryz.sizeOf3
 v3:=Tryz.zeroValue3
 t9:=Tryz.underlying9
 a9:=Tryz.isAgg9
 z9:=Tryz.sizeOf9
 v9:=Tryz.zeroValue9}
end Go.Proofs
namespace Go.Proofs.YtdohnkkbkfhphaaGreat.vl
open Go.Proofs.Tryz
theorem Jw(a b:ByteArray)(w:World):
 Calls Tryz.prog 165 #[.string a,.string b] w λe c=>e= .returned (.int .i64 (Lib.compareBytes a.data.toList b.data.toList))/\c=w:=
 Any.strings_Compare Tryz.lays106 a b w
theorem Af{k:IntKind}{a b:Int}(h:a=b):Ending.returned (.int k a)= .returned (.int k b):=by rw[h]
def Dl(a b:Int):Int:=if a<b then -1 else if b<a then 1 else 0
theorem Jy(a b:Int)(w:World):
 Calls Tryz.prog 166 #[.int .i64 a,.int .i64 b] w λe c=>e= .returned (.int .i64 (Dl a b))/\c=w:=by
 go_enter func166,ntmps166;go_wp2
 all_goals
  go_ret;exact⟨Af (by unfold Dl;omega),rfl⟩
theorem Ls(a b:Int)(w:World):
 Calls Tryz.prog 105 #[.int .i64 a,.int .i64 b] w λe c=>e= .returned (.int .i64 (Dl a b))/\c=w:=by
 go_enter func105,ntmps105;go_wp2
 all_goals
  go_ret;exact⟨Af (by unfold Dl;omega),rfl⟩
def Bd:List Int->Int
 |[]=>0
 |x::r=>if x=0 then Bd r else x
theorem Ha(c:List Int)(k:Nat)(h:∀i,i<k->c[i]?.getD 0=0):Bd c=Bd (c.drop k):=by
 induction c generalizing k with
 |nil=>simp
 |cons x r ih=>
  cases k with
  |zero=>rfl
  |succ k=>
   have d:x=0:=by simpa using h 0 (by omega)
   subst d;simp only[Bd,if_true,drop_succ_cons];exact ih k (λi e=>by simpa using h (i+1) (by omega))
theorem Na(c:List Int)(k:Nat)(h:∀i,i<k->c[i]?.getD 0=0)(d:k<c.length)(e:c[k]?.getD 0≠0):Bd c=c[k]?.getD 0:=by
 rw[Ha c k h,drop_eq_getElem_cons d,Bd];simp only[gEe d,Option.getD_some]at e⊢;rw[if_neg e]
theorem Xv(b:Nat)(c:List Int)(w:World)(E:c.length<=100)
 (q:∀i,i<c.length->w.cell? ⟨b,i,none⟩=some (.int .i64 (c[i]?.getD 0))):
 Calls Tryz.prog 208 #[.slice (some ⟨b,0,none⟩) c.length c.length] w λe A=>e= .returned (.int .i64 (Bd c))/\A=w:=by
 go_enter func208,ntmps208;go_wp2
 go_loop [7] (λi=> ∃k:Nat,k<=c.length/\i= .int .i64 k/\∀i,i<k->c[i]?.getD 0=0) (λi=>c.length - (intOf i).toNat)
 case atStart=>exact⟨0,Nat.zero_le _,rfl,λi l=>absurd l (Nat.not_lt_zero i)⟩
 case round=>
  obtain⟨k,D,rfl,p⟩:=hrel;have d:=hV0 p;clear p;by_cases s:k<c.length
  ·have u:=q k s;obtain⟨z,m⟩:=nM (c[k]?.getD 0);rw[m]at u;have f:=hV0 m;clear q m;by_cases j:(z==0)=true
   ·have r:z=0:=by simpa using j
    have t:ϝ (z=0):=r;clear r;go_wp2
    go_round
    case rel=>exact⟨k+1,by omega,by go_num,λi l=>by
     rcases Nat.lt_succ_iff_lt_or_eq.1 l with h|h
     ·exact d.o i h
     ·rw[h,f.o];exact t.o⟩
    case measure=>simp[intOf];omega
   ·have C:(z==0)=false:=by simpa using j
    have x:ϝ (Bd c=z):=by
     show Bd c=z;rw[Na c k d.o s (by rw[f.o];simpa using j)];exact f.o
    go_wp2;go_ret;exact⟨Af (by rw[x.o]),rfl⟩
  ·have y:ϝ (Bd c=0):=by
    show Bd c=0;rw[Ha c k d.o,drop_of_length_le (by omega)];rfl
   go_wp2;go_ret;exact⟨Af (by rw[y.o]),rfl⟩
theorem AcM(b:Nat)(x y z:Int)(w:World)(h0:w.cell? ⟨b,0,none⟩=some (.int .i64 x))(h1:w.cell? ⟨b,1,none⟩=some (.int .i64 y))(c:w.cell? ⟨b,2,none⟩=some (.int .i64 z)):
 Calls Tryz.prog 208 #[.slice (some ⟨b,0,none⟩) 3 3] w λe f=>e= .returned (.int .i64 (Bd [x,y,z]))/\f=w:=
 Xv b [x,y,z] w (by simp) (λi d=>by
  match i,d with
  |0,_=>exact h0
  |1,_=>exact h1
  |2,_=>exact c)
def Qs(k1 n1:Int)(s1:ByteArray)(k2 n2:Int)(s2:ByteArray):Int:=
 Bd [Dl k1 k2,Dl n1 n2,Lib.compareBytes s1.data.toList s2.data.toList]
attribute [local go_sem ↓] Go.wp_at_zero Go.wp_at_succ
theorem LK(d f:Int)(j:ByteArray)(k2 h:Int)(k:ByteArray)(w:World):
 Calls Tryz.prog 176 #[.agg #[.int .i64 d,.int .i64 f,.string j],.agg #[.int .i64 k2,.int .i64 h,.string k]] w
  λe c=>e= .returned (.int .i64 (Qs d f j k2 h k))/\Ϟ w c:=by
 go_enter func176,ntmps176;go_wp2
 go_region_held3 (λc=>c.cell? ⟨w.heap.size,0,none⟩=some (.int .i64 d)/\c.cell? ⟨w.heap.size,1,none⟩=some (.int .i64 f)/\c.cell? ⟨w.heap.size,2,none⟩=some (.string j)/\c.cell? ⟨w.heap.size+1,0,none⟩=some (.int .i64 k2)/\c.cell? ⟨w.heap.size+1,1,none⟩=some (.int .i64 h)/\c.cell? ⟨w.heap.size+1,2,none⟩=some (.string k)) (go_keep)
  (first
   |(go_at_call 166;refine(Jy _ _ _).mono ?_;rintro e c ⟨rfl,rfl⟩)
   |(go_at_call 165;refine(Jw _ _ _).mono ?_;rintro e c ⟨rfl,rfl⟩)
   |(go_at_call 208;refine(AcM _ (Dl d k2) (Dl f h) (Lib.compareBytes j.data.toList k.data.toList) _ ?_ ?_ ?_).mono ?_;(go_simp);(go_simp);(go_simp);rintro e c ⟨rfl,rfl⟩))
 all_goals
  go_wp2;go_ret;refine⟨rfl,?_⟩
  repeat (first|exact bR|apply Below.drew|(refine Below.alloc ?_ (by simp<;>omega) _))
def chk(k n:Int)(s:ByteArray):Int:=
 if k<0\/3<k then 4
 else if (k≠2/\n≠0/\¬(k=1/\n=1))\/(k≠3/\s.size≠0)then 1
 else if 64<s.size then 2 else 0
theorem ID(s:ByteArray):s.toList=[]↔s.size=0:=by
 rw[Lib.toList_data];exact⟨λh=>by show s.data.size=0;rw[<-Array.length_toList,h];rfl,λh=>eq_nil_of_length_eq_zero (by rw[Array.length_toList];exact h)⟩
theorem Ce(k n:Int)(s:ByteArray)(w:World)(c:s.size<=maxLen):
 Calls Tryz.prog 156 #[.agg #[.int .i64 k,.int .i64 n,.string s]] w λe d=>e= .returned (.int .i64 (chk k n s))/\Ϟ w d:=by
 unfold maxLen at c;go_enter func156,ntmps156;go_wp2
 all_goals
  go_ret;refine⟨Af ?_,bR.alloc nR _⟩
  go_light
  try simp only[beq_iff_eq,beq_eq_false_iff_ne,bne_iff_ne,bne_eq_false_iff_eq,Bool.not_eq_true',Bool.not_eq_false',isEmpty_iff,isEmpty_eq_false_iff,ne_eq,ID]at *
  unfold chk;omega
theorem F7(k n:Int)(s:ByteArray)(w:World)(h:s.size<=maxLen):
 Calls Tryz.prog 141 #[.agg #[.int .i64 k,.int .i64 n,.string s]] w λe j=>e= .returned (.int .i64 (chk k n s))/\Ϟ w j:=by
 unfold maxLen at h;by_cases c:k<0
 ·go_enter func141,ntmps141;go_wp2
  all_goals
   go_ret;refine⟨Af ?_,bR.alloc nR _⟩
   go_light
   try simp only[beq_iff_eq,beq_eq_false_iff_ne,bne_iff_ne,bne_eq_false_iff_eq,Bool.not_eq_true',Bool.not_eq_false',isEmpty_iff,isEmpty_eq_false_iff,ne_eq,ID]at *
   unfold chk;omega
 ·by_cases d:3<k
  ·go_enter func141,ntmps141;go_wp2
   all_goals
    go_ret;refine⟨Af ?_,bR.alloc nR _⟩
    go_light
    try simp only[beq_iff_eq,beq_eq_false_iff_ne,bne_iff_ne,bne_eq_false_iff_eq,Bool.not_eq_true',Bool.not_eq_false',isEmpty_iff,isEmpty_eq_false_iff,ne_eq,ID]at *
    unfold chk;omega
  ·have f:k=0\/k=1\/k=2\/k=3:=by omega
   clear c d;rcases f with rfl|rfl|rfl|rfl
   all_goals
    go_enter func141,ntmps141;go_wp2
    all_goals
     go_ret;refine⟨Af ?_,bR.alloc nR _⟩
     go_light
     try simp only[beq_iff_eq,beq_eq_false_iff_ne,bne_iff_ne,bne_eq_false_iff_eq,Bool.not_eq_true',Bool.not_eq_false',isEmpty_iff,isEmpty_eq_false_iff,ne_eq,ID]at *
     unfold chk;omega
theorem Kb:∀(a b:List UInt8),Lib.compareBytes a b=if Op.bytesLess a b=true then -1 else if (a==b)=true then 0 else 1
 |[],[]=>by simp[Lib.compareBytes,Op.bytesLess]
 |_::_,[]=>by simp[Lib.compareBytes,Op.bytesLess]
 |[],_::_=>by simp[Lib.compareBytes,Op.bytesLess]
 |a::x,b::y=>by
  rw[Lib.compareBytes,Kb x y,Op.bytesLess];by_cases c:a<b
  ·simp[c]
  ·by_cases d:b<a
   ·have e:¬a=b:=λh=>by subst h;exact absurd d c
    simp[c,d,e]
   ·have e:a=b:=UInt8.le_antisymm (UInt8.not_lt.1 d) (UInt8.not_lt.1 c);subst e;simp[c]
structure Cel where
 k:Int
 n:Int
 s:ByteArray
deriving DecidableEq
instance:Inhabited Cel:=⟨⟨0,0,⟨#[]⟩⟩⟩
def Cel.val(c:Cel):Value:=.agg #[.int .i64 c.k,.int .i64 c.n,.string c.s]
def rowAt(w:World)(a:Option Addr)(r:List Cel):Prop:=
 ∀i,i<r.length->∃b off,a=some ⟨b,off,none⟩/\w.cell? ⟨b,off+i * 3,none⟩=some (.int .i64 (r.getD i default).k)/\w.cell? ⟨b,off+i * 3+1,none⟩=some (.int .i64 (r.getD i default).n)/\w.cell? ⟨b,off+i * 3+1+1,none⟩=some (.string (r.getD i default).s)
theorem Ab{a b:Bool}(h:a=b):Ending.returned (.bool a)= .returned (.bool b):=by rw[h]
theorem Qt{c d:List Cel}{k:Nat}(h1:k<c.length)(e:k<d.length)(h:c.take k=d.take k)(f:c.getD k default=d.getD k default):c.take (k+1)=d.take (k+1):=by
 rw[take_succ_eq_append_getElem h1,take_succ_eq_append_getElem e,h];simp only[gDe,gEe h1,gEe e,Option.getD_some]at f;rw[f]
theorem RU(E F:Option Addr)(c1 c2:Nat)(d f:List Cel)(w:World)(h1:rowAt w E d)(G:rowAt w F f)(l1:d.length<=9223372036854775807)(l2:f.length<=9223372036854775807):
 Calls Tryz.prog 22 #[.slice E d.length c1,.slice F f.length c2] w λe w'=>e= .returned (.bool (decide (d=f)))/\Ϟ w w':=by
 by_cases I:d.length=f.length
 ·obtain⟨p,s⟩:∃p,d.length=p:=⟨_,rfl⟩;have A:f.length=p:=by omega
  rw[s]at l1;have u:=hV0 s;have x:=hV0 A;rw[s,A];clear I l2 s A;go_enter func22,ntmps22;go_wp2
  go_loopw [5] (λi wr=> ∃k:Nat,k<=p/\i= .int .i64 k/\Ϟ w wr/\d.take k=f.take k) (λi _=>p - (intOf i).toNat)
  case atStart=>exact⟨0,Nat.zero_le _,rfl,bR,rfl⟩
  case round=>
   obtain⟨k,hk,rfl,j,H⟩:=hrel;have D:=hV0 H;clear H;by_cases t:k<p
   ·obtain⟨b1,o1,l,X,Y,Z⟩:=h1 k (by rw[u.o];exact t);obtain⟨b2,o2,e2,y1,y2,y3⟩:=G k (by rw[x.o];exact t);subst l e2;have M:=cLz j X;have N:=cLz j Y;have O:=cLz j Z;have J:=cLz j y1;have K:=cLz j y2;have L:=cLz j y3;clear X Y Z y1 y2 y3 h1 G;obtain⟨⟨ka,na,R⟩,y⟩:∃c,d.getD k default=c:=⟨_,rfl⟩;obtain⟨⟨kb,nb,T⟩,z⟩:∃c,f.getD k default=c:=⟨_,rfl⟩;rw[y]at M N O;rw[z]at J K L;have q:=hV0 y;have r:=hV0 z;clear y z;dsimp only at M N O J K L;have i1:(0:Int)<=(k:Int):=by omega
    have i2:(k:Int)<(p:Int):=by omega
    by_cases U:ka=kb
    ·by_cases V:na=nb
     ·by_cases C:R.toList=T.toList
      ·have aa:R=T:=ByteArray.ext (Array.ext' (by rwa[Lib.toList_data,Lib.toList_data]at C));clear C;subst U V aa;go_wp2
       go_quiet (fail)
       go_wp2;go_roundw
       case rel=>exact⟨k+1,by omega,by go_num,below_drewN j _,Qt (by rw[u.o];exact t) (by rw[x.o];exact t) D.o (by rw[q.o,r.o])⟩
       case measure=>simp[intOf];omega
      ·have m:ϝ (¬d=f):=λh=>by
        have l:=q.o;rw[h,r.o]at l
        cases l
        exact C rfl
       go_wp2
       go_quiet (fail)
       go_wp2;go_ret;exact⟨Ab (by rw[decide_eq_false m.o]),below_drewN j _⟩
     ·have m:ϝ (¬d=f):=λh=>by
       have l:=q.o;rw[h,r.o]at l
       cases l
       exact V rfl
      go_wp2
      go_quiet (fail)
      go_wp2;go_ret;exact⟨Ab (by rw[decide_eq_false m.o]),below_drewN j _⟩
    ·have m:ϝ (¬d=f):=λh=>by
      have l:=q.o;rw[h,r.o]at l
      cases l
      exact U rfl
     go_wp2
     go_quiet (fail)
     go_wp2;go_ret;exact⟨Ab (by rw[decide_eq_false m.o]),below_drewN j _⟩
   ·have m:ϝ (d=f):=by
     show d=f;have h:=D.o;rwa[take_of_length_le (by rw[u.o];omega),take_of_length_le (by rw[x.o];omega)]at h
    go_wp2;go_ret;exact⟨Ab (by rw[decide_eq_true m.o]),j⟩
 ·have m:ϝ (¬d=f):=λh=>I (by rw[h]);have ab:((d.length:Int)==(f.length:Int))=false:=by simp;omega
  go_enter func22,ntmps22;go_wp2;go_ret;exact⟨Ab (by rw[decide_eq_false m.o]),bR⟩
end Go.Proofs.YtdohnkkbkfhphaaGreat.vl
namespace Go.Proofs.YtdohnkkbkfhphaaGreat.bf
variable {W W' : World} {B B' : Nat}
theorem RV{m c:Nat}{P:Program}{f:FuncId}{args:Array Value}{R:Ending->World->Prop}(h:CallsIn Fence.wide m P f args W R):CallsIn Fence.wide c P f args W R:=callsIn_wide.2 (callsIn_wide.1 h)
def Z0(P:Program)(gf:Nat)(lb:Array Value)(xs:List (Array Value))(Kp:World->World->Prop)(w:World):Prop:=
 ∀(l:Nat) (J:Nat->World->Prop) (Jx:Unit->World->Prop) (W:World),Ϟ w W->OwnFrom W.heap.size J->OwnFrom W.heap.size Jx->
  (∀k x W1,xs[k]? =some x->J k W1->YieldAt Fence.wide 0 P l x W1 λe W'=>KeepsFrom W.heap.size W1 W'/\((e= .returned (.bool true)/\J (k+1) W'/\Kp W1 W')\/(e= .returned (.bool false)/\Jx () W')))->
  J 0 W->CallsIn Fence.wide 0 P gf (#[.func (.yield l) #[] #[]]++lb) W λe W'=>(∃v,e= .returned v)/\(J xs.length W'\/Jx () W')
def leftAs(B:Nat)(Kp:World->World->Prop)(I:World->Prop)(Ix:Code->World->Prop)(W:World):Exit->Act->World->Prop
 | .normal,_,W'=>KeepsFrom B W W'/\Kp W W'/\I W'
 | .ret,_,W'=>KeepsFrom B W W'/\Ix .ret W'
 | .exit id,_,W'=>KeepsFrom B W W'/\Ix (.exit id) W'
 | .goto t,_,W'=>KeepsFrom B W W'/\Ix (.goto t) W'
 | .panic _,_,_=>False
 | .outgrown,_,_=>False
theorem Hb(h:KeepsFrom B W W')(c:B<=B'):KeepsFrom B' W W':=⟨h.size,λk o d=>h.same k o (Nat.le_trans c d)⟩
theorem GF{l:Nat}(W:World)(o:Obj)(d:l<B):KeepsFrom B W (W.putObj l o):=⟨by simp,λk e c h _=>(World.putObj_heap_other (by omega)).trans h⟩
theorem Z1{β:Type}{I:β->World->Prop}(h:OwnFrom B I)(d:B<=B'):OwnFrom B' I:=λs W W' k j f c=>h s W W' k j f (λr e=>⟨Nat.le_trans d (c r e).1,(c r e).2⟩)
theorem stays{k:Nat}{o:Obj}{row:Option Nat}(c:W.grownBy W' row)(d:∀r,row=some r->B<=r)(f:k<B)(h:W.heap[k]? =some o):W'.heap[k]? =some o:=
 (c.block k (Array.getElem?_eq_some_iff.1 h).1 (λe=>by have:=d k e.symm;omega)).trans h
section
variable {P : Program} {g : Operand} {ps : Array Tmp} {assign body : Code} {Q : Exit -> Act -> World -> Prop} {a : Act} {w : World} {gf : Nat} {lb : Array Value} {xs : List (Array Value)} {Kp : World -> World -> Prop} {w0 : World}
theorem D6(hg:a.eval g= .func (.func gf) #[] lb)(eg:∀args w,(callFunc gf args).run P w= .ok (.enter gf args) w)(ax:Z0 P gf lb xs Kp w0)(av:Ϟ w0 w)(a0:∀x∈xs,x.size=ps.size)
 (af:∀{A B C:World},Kp A B->Kp B C->Kp A C) (ae:∀(W:World) (l:Nat) (o o':Obj),w.heap.size<=l->W.heap[l]? =some o->o.isCells=false->Kp W (W.putObj l o'))
 (I:Nat->World->Prop) (Ix:Code->World->Prop) (G:OwnFrom w.heap.size I) (T:OwnFrom w.heap.size Ix) (h0:I 0 w) (Ax:Nat->Act->World->Prop) (ag:∀k q,OwnFrom w.heap.size (λ(_:Unit) W=>Ax k q W))
 (ah:∀(l k:Nat) (x:Array Value) (W:World) (K:Act->World->Prop),xs[k]? =some x->I k W->(∀q W',KeepsFrom w.heap.size W W'->Kp W W'->I k W'->Ax k q W'->K q W')->
  assign.wpIn (Fence.wide.inRound l) 0 P (Exit.then K (λ_ _ _=>False)) {tmps:=(ps.zip x).foldl (λt (p,v)=>t.setIfInBounds p v) a.tmps,defers:=[]} W)
 (ai:∀(l k:Nat) (x:Array Value) (q:Act) (W:World),xs[k]? =some x->w.heap.size<=l->(∃r,W.heap[l]? =some (.loop r))->I k W->Ax k q W->body.wpIn (Fence.wide.inRound l) 0 P (leftAs w.heap.size Kp (I (k+1)) Ix W) q W)
 (aj:∀(D:Nat) (W:World),w.heap.size<=D->I xs.length W->W.heap[D]? =some (.deferred (some []))->Q .normal {a with defers:={target:=.collected D,args:=#[]}::a.defers} W)
 (al:∀(D:Nat) (c:Code) (W:World),w.heap.size<=D->Ix c W->W.heap[D]? =some (.deferred (some []))->c.wpIn Fence.wide 0 P Q {a with defers:={target:=.collected D,args:=#[]}::a.defers} W):
 (Code.rangeFunc g ps assign body).wpIn Fence.wide 0 P Q a w:=by
 refine wpIn_rangeFunc λfn a2=>?_;obtain⟨N,hN⟩:∃N,w.heap.size=N:=⟨_,rfl⟩
 -- the loop's record, in each of its states
 obtain⟨d,m⟩:∃d:LoopState->Option Code->Loop,d=λs p=>{state:=s,pending:=p,fn:=fn,tmps:=a.tmps,params:=ps,assign:=assign,body:=body,defers:=w.heap.size}:=⟨_,rfl⟩;have am:∀s p,(d s p).params=ps:=λs p=>by rw[m]
 obtain⟨V,U⟩:∃V,(w.alloc (.deferred (some []))).alloc (.loop (d .ready none))=V:=⟨_,rfl⟩;have ad:V.heap.size=N+2:=by rw[<-U];simp[hN]
 have aq:V.heap[N+1]? =some (.loop (d .ready none)):=by
  have h:=World.alloc_heap_new (w.alloc (.deferred (some []))) (.loop (d .ready none));rw[World.size_alloc,hN,U]at h;exact h
 have ap:V.heap[N]? =some (.deferred (some [])):=by
  rw[<-U,<-hN];exact(Below.heap_alloc _ _ _ (by simp)).trans (World.alloc_heap_new w _)
 have ar:Ϟ w V:=by rw[<-U];exact((Below.refl _ _).alloc (Nat.le_refl _) _).alloc (by simp) _
 have ao:I 0 V:=by rw[<-U];exact G.alloc _ (G.alloc _ h0)
 rw[hN]at G T ag ae ai ah aj al;refine⟨N+1,[{target:=.collected N,args:=#[]}],V,{target:=.fn (.func gf) lb,args:=#[.func (.yield (N+1)) #[] #[]]},V,gf,#[.func (.yield (N+1)) #[] #[]]++lb,V,?_,?_,λ_ _=>trivial,?_,λh=>by simp[Fence.wide]at h,?_⟩
 ·have h:=run_enterLoop_outer (P:=P) (w:=w) fn a.tmps ps assign body;rw[<-U,<-hN,m];exact h
 ·simp only[resolve,hg];simp[go_sem]
 ·simp[invoke,go_sem,eg]
 ·refine RV ((ax (N+1)
   (λk W=>I k W/\W.heap[N+1]? =some (.loop (d .ready none))/\W.heap[N]? =some (.deferred (some [])))
   (λ_ W=> ∃c,Ix c W/\W.heap[N+1]? =some (.loop (d .done (some c)))/\W.heap[N]? =some (.deferred (some [])))
   V (bT av ar) ?_ ?_ ?_ ⟨ao,aq,ap⟩).mono ?_)
  ·rintro k W W' ab ⟨y,f,z⟩ H hr;have J:∀r,ab=some r->N+2<=r:=λr e=>by have:=(hr r e).1;omega
   exact⟨G k W W' ab y H (λr e=>⟨by have:=J r e;omega,(hr r e).2⟩),stays H J (by omega) f,stays H J (by omega) z⟩
  ·rintro _ W W' ab ⟨c,y,f,z⟩ H hr;have J:∀r,ab=some r->N+2<=r:=λr e=>by have:=(hr r e).1;omega
   exact⟨c,T c W W' ab y H (λr e=>⟨by have:=J r e;omega,(hr r e).2⟩),stays H J (by omega) f,stays H J (by omega) z⟩
  ·-- a round
   rintro k x W hx ⟨y,f,z⟩;have a4:N+1<W.heap.size:=(Array.getElem?_eq_some_iff.1 f).1;have hy:=run_yield (P:=P) (args:=x) f (by rw[am];exact a0 x (mem_of_getElem? hx));refine⟨_,_,_,_,hy,roundIn_of_wpIn trivial ?_⟩;have e1:(d .ready none).tmps=a.tmps:=by rw[m]
   have e2:(d .ready none).assign=assign:=by rw[m]
   have e3:(d .ready none).body=body:=by rw[m]
   rw[am,e1,e2,e3];refine ah (N+1) k x W _ hx y (λq W2 kf ay aw au=>?_);have aa:=kf.same _ _ (by omega) f rfl;have an:=kf.same _ _ (by omega) z rfl;have a1:(d .ready none).state= .ready:=by rw[m]
   refine⟨_,run_beginRound aa a1,?_⟩;have hb:({d .ready none with state:=.busy}:Loop)=d .busy none:=by rw[m]
   rw[hb];obtain⟨X,E⟩:∃X,W2.putObj (N+1) (.loop (d .busy none))=X:=⟨_,rfl⟩;have az:N+1<W2.heap.size:=(Array.getElem?_eq_some_iff.1 aa).1;have x1:X.heap[N+1]? =some (.loop (d .busy none)):=by rw[<-E];exact World.putObj_heap_same az
   have x2:X.heap[N]? =some (.deferred (some [])):=by rw[<-E];exact(World.putObj_heap_other (by omega)).trans an
   have x3:I k X:=by rw[<-E];exact G.putObj _ aw (by omega) aa rfl
   have x4:Ax k q X:=by rw[<-E];exact(ag k q).putObj (s:=()) _ au (by omega) aa rfl
   have x6:KeepsFrom (N+2) W X:=(Hb kf (by omega)).trans (by rw[<-E];exact GF _ _ (by omega));have x5:Kp W X:=af ay (by rw[<-E];exact ae _ _ _ _ (by omega) aa rfl);rw[E];clear E
   -- behind the round
   have ac:∀(j:Option Code) (Y:World),KeepsFrom N X Y->
    (Instr.endRound (N+1) j).run P Y= .ok (.bool j.isNone) (Y.putObj (N+1) (.loop (d (if j.isNone then .ready else .done) j)))/\Y.heap[N+1]? =some (.loop (d .busy none))/\
    (Y.putObj (N+1) (.loop (d (if j.isNone then .ready else .done) j))).heap[N+1]? =some (.loop (d (if j.isNone then .ready else .done) j))/\
    (Y.putObj (N+1) (.loop (d (if j.isNone then .ready else .done) j))).heap[N]? =some (.deferred (some [])):=λj Y hk=>by
    have y1:=hk.same _ _ (by omega) x1 rfl;have y2:=hk.same _ _ (by omega) x2 rfl;have ak:=run_endRound (P:=P) j y1;have e:({d .busy none with state:=if j.isNone then .ready else .done,pending:=j}:Loop)=d (if j.isNone then .ready else .done) j:=by rw[m]
    rw[e]at ak;exact⟨ak,y1,World.putObj_heap_same (Array.getElem?_eq_some_iff.1 y1).1,(World.putObj_heap_other (by omega)).trans y2⟩
   refine wpIn_mono (ai (N+1) k x q X hx (by omega) ⟨_,x1⟩ x3 x4) ?_;rintro e a3 Y Z
   cases e with
   |normal=>
    obtain⟨u,p2,L⟩:=Z;obtain⟨M,F,O,R⟩:=ac none Y u;exact⟨_,_,M,by rw[ad];exact(x6.trans (Hb u (by omega))).trans (GF _ _ (by omega)),.inl ⟨rfl,⟨G.putObj _ L (by omega) F rfl,O,R⟩,af (af x5 p2) (ae _ _ _ _ (by omega) F rfl)⟩⟩
   |ret=>
    obtain⟨u,L⟩:=Z;obtain⟨M,F,O,R⟩:=ac (some .ret) Y u;exact⟨_,_,M,by rw[ad];exact(x6.trans (Hb u (by omega))).trans (GF _ _ (by omega)),.inr ⟨rfl,.ret,T.putObj _ L (by omega) F rfl,O,R⟩⟩
   |exit id=>
    obtain⟨u,L⟩:=Z;obtain⟨M,F,O,R⟩:=ac (some (.exit id)) Y u;exact⟨_,_,M,by rw[ad];exact(x6.trans (Hb u (by omega))).trans (GF _ _ (by omega)),.inr ⟨rfl,.exit id,T.putObj _ L (by omega) F rfl,O,R⟩⟩
   |goto t=>
    obtain⟨u,L⟩:=Z;obtain⟨M,F,O,R⟩:=ac (some (.goto t)) Y u;exact⟨_,_,M,by rw[ad];exact(x6.trans (Hb u (by omega))).trans (GF _ _ (by omega)),.inr ⟨rfl,.goto t,T.putObj _ L (by omega) F rfl,O,R⟩⟩
   |panic ch=>exact Z.elim
   |outgrown=>exact Z.elim
  ·-- behind the iterator
   rintro e W ⟨⟨v,rfl⟩,(⟨y,f,z⟩|⟨c,y,f,z⟩)⟩
   ·refine⟨none,_,?_,aj N _ (by omega) (G.putObj (.loop (d .exhausted none)) y (by omega) f rfl) ((World.putObj_heap_other (by omega)).trans z)⟩;have h:=run_endLoop (P:=P) f (by rw[m];simp);rw[m]at h⊢;exact h
   ·refine⟨some c,_,?_,al N c _ (by omega) (T.putObj (.loop (d .exhausted (some c))) y (by omega) f rfl) ((World.putObj_heap_other (by omega)).trans z)⟩;have h:=run_endLoop (P:=P) f (by rw[m];simp);rw[m]at h⊢;exact h
end
end Go.Proofs.YtdohnkkbkfhphaaGreat.bf
namespace Go.Proofs.YtdohnkkbkfhphaaGreat.bf
attribute [local go_sem] Oper.semAt_some
variable {Pr : Nat -> Obj -> Prop} {W W' : World} {b o : Nat} {v : Value}
def KeepO(Pr:Nat->Obj->Prop)(W W':World):Prop:=∀b o,W.heap[b]? =some o->o.isCells=true->Pr b o->W'.heap[b]? =some o
theorem KeepO.refl(Pr:Nat->Obj->Prop)(W:World):KeepO Pr W W:=λ_ _ h _ _=>h
theorem KeepO.trans{A B C:World}(h:KeepO Pr A B)(k:KeepO Pr B C):KeepO Pr A C:=λb o e c d=>k b o (h b o e c d) c d
def names(Pr:Nat->Obj->Prop)(W:World)(b:Nat):Prop:=∀o,W.heap[b]? =some o->Pr b o
theorem Z2(c:W.cell? ⟨b,o,none⟩=some v):∃x,W.heap[b]? =some x/\x.isCells=true:=by
 unfold World.cell? at c
 cases ho:W.heap[b]? with
 |none=>simp[ho]at c
 |some x=>exact⟨x,rfl,by cases x<;>simp_all [Obj.isCells]⟩
theorem KeepO.block(h:KeepO Pr W W')(e:names Pr W b)(f:W.cell? ⟨b,o,none⟩=some v):W'.heap[b]? =W.heap[b]? :=by
 obtain⟨x,c,d⟩:=Z2 f;rw[h b x c d (e x c),c]
theorem KeepO.cell(h:KeepO Pr W W')(d:names Pr W b)(c:W.cell? ⟨b,o,none⟩=some v):W'.cell? ⟨b,o,none⟩=some v:=
 (World.cell?_of_block (w:=W) (a:=⟨b,o,none⟩) (h.block d c)).trans c
theorem KeepO.grown{V:World}{row:Option Nat}(h:KeepO Pr V W)(m:W.grownBy W' row)(p:∀r,row=some r->∃o:Obj,W.heap[r]? =some o/\o.isCells=false):KeepO Pr V W':=λb o k d l=>by
 have c:=h b o k d l;refine(m.block b (Array.getElem?_eq_some_iff.1 c).1 (λe=>?_)).trans c;obtain⟨q,f,j⟩:=p b e.symm;rw[c]at f;cases f;rw[d]at j;cases j
theorem KeepO.put(W:World)(l:Nat)(o j:Obj)(h:W.heap[l]? =some o)(f:o.isCells=false):KeepO Pr W (W.putObj l j):=λb x c d _=>by
 by_cases e:b=l
 ·subst e;rw[h]at c;cases c;rw[f]at d;cases d
 ·exact(World.putObj_heap_other e).trans c
theorem KeepO.alloc(W:World)(o:Obj):KeepO Pr W (W.alloc o):=λb x c _ _=>(Below.heap_alloc W o b (Array.getElem?_eq_some_iff.1 c).1).trans c
theorem Gf{n:Nat}(h:Below n W W')(d:b<n)(c:names Pr W b):names Pr W' b:=λx e=>c x (by rw[<-h.block b d];exact e)
abbrev Hdr:=Option Addr×Nat×Nat
def hdV(h:Hdr):Value:=.slice h.1 h.2.1 h.2.2
def F8(w:World)(a:Option Addr)(l:List Hdr):Prop:=
 ∀i,i<l.length->∃b off,a=some ⟨b,off,none⟩/\w.cell? ⟨b,off+i,none⟩=some (hdV (l.getD i (none,0,0)))
theorem Nb(BX:Nat)(lim:Int)(m:Hdr)(f:Option Addr)(rc:Nat)(rs:List Hdr)(Pr:Nat->Obj->Prop)(w:World)(hl:rs.length<=9223372036854775807)
 (h1:w.cell? ⟨BX,1,none⟩=some (hdV m)) (D:w.cell? ⟨BX,2,none⟩=some (.slice f rs.length rc)) (t:F8 w f rs) (F:names Pr w BX) (G:∀x,0<rs.length->f=some x->names Pr w x.block):
 Z0 Tryz.prog 180 #[.pointer (some ⟨BX,0,none⟩)] ((m::rs).map λh=>#[hdV h]) (KeepO Pr) w:=by
 intro l J Jx W c hJ ak q p;obtain⟨O,R,T⟩:=m;have M:=cell_later c h1;have N:=cell_later c D;have K:F8 W f rs:=λi hi=>by obtain⟨b,o,e,x⟩:=t i hi;exact⟨b,o,e,cell_later c x⟩
 unfold hdV at M;dsimp only at M;have X:=hV0 q;have V:=hV0 K;have C:ϝ (names Pr W BX/\∀x,0<rs.length->f=some x->names Pr W x.block):=⟨Gf c (World.block_lt_of_cell? _ _ h1) F,λx p L=>by
  obtain⟨b,o,e,y⟩:=t 0 p;rw[L]at e;cases e;exact Gf c (World.block_lt_of_cell? _ _ y) (G _ p L)⟩
 have A:ϝ ((((((O,R,T):Hdr)::rs).map λh=>#[hdV h])).length=rs.length+1):=by show _=_;simp
 have ag:=q 0 #[.slice O R T] W (by simp[hdV]) p;clear q t K F G h1 D c;obtain⟨n,s⟩:∃n,rs.length=n:=⟨_,rfl⟩;have j:=hV0 s;rw[s]at N hl A;clear s;rw[A.o];refine callsIn_of_wp Tryz.func180 rfl trivial ?_ rfl;simp only[Tryz.ntmps180,size_toArray,length_cons,length_nil,Nat.reduceAdd,Nat.reduceSub,Array.replicate_succ,Array.replicate_zero,push_toArray,append_toArray,nil_append,cons_append];obtain⟨fn,am,assign,body,hy,hR⟩:=ag
 gi_wp2
 refine⟨rfl,hR.mono ?_⟩;rintro e W1 ⟨_,(⟨rfl,Y,H⟩|⟨rfl,aa⟩)⟩
 ·have c2:=H.cell C.o.1 N
  gi_wp2
  gi_loopw [13] (λi wr=> ∃k:Nat,k<=n/\i= .int .i64 k/\J (k+1) wr/\KeepO Pr W wr) (λi _=>n - (intOf i).toNat)
  case atStart=>exact⟨0,Nat.zero_le _,rfl,Y,H⟩
  case round=>
   obtain⟨k,hk,rfl,E,I⟩:=hrel;by_cases r:k<n
   ·obtain⟨b,o,e,U⟩:=V.o k (by rw[j.o];exact r);subst e;have u:=I.cell (C.o.2 _ (by rw[j.o];omega) rfl) U;obtain⟨⟨z1,z2,z3⟩,d⟩:∃z,rs.getD k (none,0,0)=z:=⟨_,rfl⟩;have af:=X.o (k+1) #[.slice z1 z2 z3] wr (by
     rw[map_cons,getElem?_cons_succ,getElem?_map,getElem?_eq_getElem (by rw[j.o];exact r)];rw[getD_eq_getElem?_getD,getElem?_eq_getElem (by rw[j.o];exact r)]at d;simp at d;simp[d,hdV]) E
    rw[d]at u;unfold hdV at u;dsimp only at u;clear d U;obtain⟨aj,an,ah,ai,al,ac⟩:=af;have i1:(0:Int)<=(k:Int):=by omega
    have i2:(k:Int)<(n:Int):=by omega
    gi_wp2
    refine⟨rfl,ac.mono ?_⟩;rintro e W2 ⟨_,(⟨rfl,Z,ad⟩|⟨rfl,ab⟩)⟩
    ·gi_wp2
     go_roundw
     case rel=>exact⟨k+1,by omega,by go_num,Z,I.trans ad⟩
     case measure=>simp[intOf];omega
    ·gi_wp2
     refine bodyPost_ret (results_none rfl _ _ _) rfl ?_;exact⟨⟨_,rfl⟩,.inr ab⟩
   ·have ae:k=n:=by omega
    subst ae
    gi_wp2
    go_end0
    exact⟨⟨_,rfl⟩,.inl E⟩
 ·gi_wp2
  refine bodyPost_ret (results_none rfl _ _ _) rfl ?_;exact⟨⟨_,rfl⟩,.inr aa⟩
end Go.Proofs.YtdohnkkbkfhphaaGreat.bf
namespace Go.Proofs.YtdohnkkbkfhphaaGreat.tm
open Go.Proofs.Tryz
variable {a b : Int}
def Bc(t:Int):Bool:=decide (-1099511627776<=t/\t<=1099511627776)
theorem Dv(t:Int):Bc t=true↔(-1099511627776<=t/\t<=1099511627776):=by simp[Bc]
theorem Ie(t:Int):Bc t=false↔ ¬(-1099511627776<=t/\t<=1099511627776):=by
 unfold Bc;exact decide_eq_false_iff_not
theorem Dj(t:Int)(w:World):
 Calls Tryz.prog 88 #[.int .i64 t] w λe h=>e= .returned (.bool (Bc t))/\h=w:=by
 by_cases d: -1099511627776<=t
 ·by_cases f:t<=1099511627776
  ·have c:Bc t=true:=(Dv t).2 ⟨d,f⟩;rw[c];go_enter func88,ntmps88;go_wp2;go_ret;exact⟨rfl,rfl⟩
  ·have c:Bc t=false:=(Ie t).2 (by omega);rw[c];go_enter func88,ntmps88;go_wp2;go_ret;exact⟨rfl,rfl⟩
 ·have c:Bc t=false:=(Ie t).2 (by omega);rw[c];go_enter func88,ntmps88;go_wp2;go_ret;exact⟨rfl,rfl⟩
theorem B7(t:Int)(w:World):
 Calls Tryz.prog 66 #[.int .i64 t] w λe h=>e= .returned (.bool (Bc t))/\h=w:=by
 by_cases d: -1099511627776<=t
 ·by_cases f:t<=1099511627776
  ·have c:Bc t=true:=(Dv t).2 ⟨d,f⟩;rw[c];go_enter func66,ntmps66;go_wp2;go_ret;exact⟨rfl,rfl⟩
  ·have c:Bc t=false:=(Ie t).2 (by omega);rw[c];go_enter func66,ntmps66;go_wp2;go_ret;exact⟨rfl,rfl⟩
 ·have c:Bc t=false:=(Ie t).2 (by omega);rw[c];go_enter func66,ntmps66;go_wp2;go_ret;exact⟨rfl,rfl⟩
theorem Z3(c:List Int)(k:Nat)(h:k<c.length):(c.take (k+1)).all Bc=((c.take k).all Bc&&Bc (c[k]?.getD 0)):=by
 rw[take_succ_eq_append_getElem h,all_append,getElem?_eq_getElem h];simp only[all_cons,all_nil,Bool.and_true,Option.getD_some]
theorem AcN(c:List Int)(k:Nat)(h:k<c.length)(d:Bc (c[k]?.getD 0)=false):c.all Bc=false:=by
 rw[all_eq_false];exact⟨c[k],getElem_mem h,by simpa[getElem?_eq_getElem h]using d⟩
theorem Ui(b:Nat)(c:List Int)(w:World)(A:c.length<=100)
 (s:∀i,i<c.length->w.cell? ⟨b,i,none⟩=some (.int .i64 (c[i]?.getD 0))):
 Calls Tryz.prog 159 #[.slice (some ⟨b,0,none⟩) c.length c.length] w λe m=>e= .returned (.bool (c.all Bc))/\m=w:=by
 go_enter func159,ntmps159;go_wp2
 go_loop [7] (λi=> ∃k:Nat,k<=c.length/\i= .int .i64 k/\(c.take k).all Bc=true) (λi=>c.length - (intOf i).toNat)
 case atStart=>exact⟨0,Nat.zero_le _,rfl,rfl⟩
 case round=>
  obtain⟨k,y,rfl,r⟩:=hrel;have p:=hV0 r;clear r;by_cases d:k<c.length
  ·have u:=s k d;obtain⟨z,l⟩:=nM (c[k]?.getD 0);rw[l]at u;have q:=hV0 l;clear s l;by_cases t:Bc z=true
   ·go_wp2_with (go_at_call 88;refine(Dj _ _).mono ?_;rintro e m ⟨rfl,f⟩;subst f)
    go_round
    case rel=>exact⟨k+1,by omega,by go_num,by rw[Z3 c k d,p.o,q.o,t];rfl⟩
    case measure=>simp[intOf];omega
   ·have x:Bc z=false:=by simpa using t
    have j:ϝ (c.all Bc=false):=AcN c k d (by rw[q.o];exact x);go_wp2_with (go_at_call 88;refine(Dj _ _).mono ?_;rintro e m ⟨rfl,f⟩;subst f);go_ret;exact⟨by rw[j.o];rfl,rfl⟩
  ·have j:ϝ (c.all Bc=true):=by
    show c.all Bc=true;have h:=p.o;rwa[take_of_length_le (by omega)]at h
   go_wp2;go_ret;exact⟨by rw[j.o];rfl,rfl⟩
def RY(a b:Int):Bool:=Bc a&&Bc b
theorem VO(b:Nat)(x y:Int)(w:World)
 (h0:w.cell? ⟨b,0,none⟩=some (.int .i64 x)) (h1:w.cell? ⟨b,1,none⟩=some (.int .i64 y)):
 Calls Tryz.prog 159 #[.slice (some ⟨b,0,none⟩) 2 2] w λe c=>e= .returned (.bool (RY x y))/\c=w:=by
 have h:=Ui b [x,y] w (by simp) (λi f=>by
  match i,f with
  |0,_=>exact h0
  |1,_=>exact h1)
 refine h.mono λe c ⟨d,j⟩=>⟨?_,j⟩;rw[d];simp[RY]
def D9(l r lo hi:Int):Bool:=decide (lo<=r - l/\r - l<=hi)
def start(t s:Int):Int:=t - t % s
theorem Z4(t s:Int)(ht:t<0)(c:0<s):t.tmod s= -((-t) % s):=by
 have:=Int.neg_tmod (-t) s;rw[Int.neg_neg]at this;rw[this,Int.tmod_eq_emod_of_nonneg (by omega)]
theorem VP(t s:Int)(c:0<s):(-t % s=0/\t % s=0)\/(0< -t % s/\t % s=s - -t % s):=by
 have q:=Int.emod_nonneg t (show s≠0 by omega);have r:=Int.emod_lt_of_pos t c;have u:=Int.emod_nonneg (-t) (show s≠0 by omega);have x:=Int.emod_lt_of_pos (-t) c;have j:=Int.mul_ediv_add_emod t s;have l:=Int.mul_ediv_add_emod (-t) s;have d:s * (t/s+ -t/s)= -(t % s+ -t % s):=by rw[Int.mul_add];omega
 obtain⟨k,e⟩:∃k,t/s+ -t/s=k:=⟨_,rfl⟩;rw[e]at d;have m:k<=0:=by
  rcases Int.lt_or_le 0 k with h|h
  ·have:=Int.mul_pos c h;omega
  ·exact h
 have p: -2<k:=by
  rcases Int.lt_or_le (-2) k with h|h
  ·exact h
  ·have:=Int.mul_le_mul_of_nonneg_left h (Int.le_of_lt c);omega
 have f:k=0\/k= -1:=by omega
 rcases f with rfl|rfl<;>omega
theorem tup3{c d e f:Int}(h1:a=d)(h:b=e)(j:c=f):
 Ending.returned (.tuple #[.int .i64 a,.int .i64 b,.int .i64 c])= .returned (.tuple #[.int .i64 d,.int .i64 e,.int .i64 f]):=by rw[h1,h,j]
theorem RZ(t s:Int)(c:0<s):start t s<=t/\t<start t s+s:=by
 unfold start;have:=Int.emod_nonneg t (show s≠0 by omega);have:=Int.emod_lt_of_pos t c;omega
theorem Nc(t s:Int)(w:World)(h:Bc t=true)(h1:1<=s)(r:s<=1099511627776):
 Calls Tryz.prog 160 #[.int .i64 t,.int .i64 s] w λe d=>e= .returned (.tuple #[.int .i64 (start t s),.int .i64 (start t s+s),.int .i64 0])/\d=w:=by
 have l:=(Dv t).1 h;obtain⟨m,p⟩:=l;have x:¬s<1:=by omega
 have y:¬1099511627776<s:=by omega
 have A:(s==0)=false:=by simp;omega
 by_cases z:0<=t
 ·have j:=Int.emod_nonneg t (show s≠0 by omega);have k:=Int.emod_lt_of_pos t (show 0<s by omega);go_enter func160,ntmps160;go_wp2_with (go_at_call 88;refine(Dj _ _).mono ?_;rintro e d ⟨rfl,c⟩;subst c)
  go_ret3
  exact⟨rfl,rfl⟩
 ·have q:=Z4 t s (by omega) (by omega);have j:=Int.emod_nonneg (-t) (show s≠0 by omega);have k:=Int.emod_lt_of_pos (-t) (show 0<s by omega);have f:ϝ ((-t % s=0/\t % s=0)\/(0< -t % s/\t % s=s - -t % s)):=VP t s (by omega);go_enter func160,ntmps160;go_wp2_with (go_at_call 88;refine(Dj _ _).mono ?_;rintro e d ⟨rfl,c⟩;subst c)
  all_goals
   have u:=f.o
   go_ret3
   exact⟨tup3 (by unfold start;omega) (by unfold start;omega) rfl,rfl⟩
theorem Af{k:IntKind}(h:a=b):Ending.returned (.int k a)= .returned (.int k b):=by rw[h]
theorem Nf(m s:Int)(w:World)(h:RY m s=true):
 Calls Tryz.prog 147 #[.int .i64 m,.int .i64 s] w λe d=>e= .returned (.int .i64 (if m=1099511627776 then 1099511627776 else m - s))/\d=w:=by
 simp only[RY,Bool.and_eq_true,Dv]at h;obtain⟨⟨f,j⟩,k,l⟩:=h;by_cases c:m=1099511627776
 ·subst c;go_enter func147,ntmps147;go_wp2;go_ret;exact⟨Af (by omega),rfl⟩
 ·have p:(m==1099511627776)=false:=by simpa using c
  go_enter func147,ntmps147;go_wp2;go_ret;exact⟨Af (by omega),rfl⟩
theorem I3(t s:Int)(w:World)(q: -1099511627776<=t)(r:t<=1099511627776)(h1:1<=s)(x:s<=1099511627776):
 Calls Tryz.prog 148 #[.int .i64 t,.int .i64 s] w λe p=>e= .returned (.int .i64 (start t s))/\p=w:=by
 have z:(s==0)=false:=by simp;omega
 by_cases d:0<=t
 ·have j:=Int.emod_nonneg t (show s≠0 by omega);have k:=Int.emod_lt_of_pos t (show 0<s by omega);have c:ϝ (s * (t/s)+t % s=t):=Int.mul_ediv_add_emod t s;have l:0<=t/s:=Int.ediv_nonneg d (by omega);have m:t/s<=t:=Int.ediv_le_self s d;have h:t/s * s=t - t % s:=by have:=c.o;rw[Int.mul_comm];omega
  go_enter func148,ntmps148;go_wp2;go_ret;exact⟨Af (by unfold start;omega),rfl⟩
 ·have u:t.tdiv s= -(-t/s):=by
   have:=Int.neg_tdiv (-t) s;rw[Int.neg_neg]at this;rw[this,Int.tdiv_eq_ediv_of_nonneg (by omega)]
  have j:=Int.emod_nonneg (-t) (show s≠0 by omega);have k:=Int.emod_lt_of_pos (-t) (show 0<s by omega);have c:ϝ (s * (-t/s)+ -t % s= -t):=Int.mul_ediv_add_emod (-t) s;have l:0<= -t/s:=Int.ediv_nonneg (by omega) (by omega);have m: -t/s<= -t:=Int.ediv_le_self s (by omega);have h: -(-t/s) * s=t+ -t % s:=by have:=c.o;rw[Int.mul_comm,Int.mul_neg];omega
  have f:ϝ ((-t % s=0/\t % s=0)\/(0< -t % s/\t % s=s - -t % s)):=VP t s (by omega);go_enter func148,ntmps148;go_wp2
  all_goals
   have y:=f.o;go_ret;exact⟨Af (by unfold start;omega),rfl⟩
end Go.Proofs.YtdohnkkbkfhphaaGreat.tm
namespace Go.Proofs
def Tryz.sortE_ren:Go.Shelf.Ren:=⟨fun|6=>115|15=>163|14=>162|28=>203|29=>204|20=>195|21=>196|22=>197|23=>198|24=>199|25=>200|26=>201|27=>202|46=>213|47=>214|48=>215|49=>216|50=>217|57=>223|n=>n,fun|22=>26|24=>63|25=>104|3=>3|39=>211|0=>0|53=>251|55=>253|4=>4|46=>244|45=>243|50=>248|5=>5|9=>9|66=>259|70=>193|76=>269|77=>270|n=>n,fun|n=>n⟩
theorem Tryz.sortE:Go.Proofs.SlLaysF0.n6 Tryz.prog Tryz.sortE_ren:={
 mixed:=by kernel_rfl
 f6:=⟨Tryz.f115.name,by decide,Tryz.func115.trans (congrArg some (by kernel_rfl))⟩
 f14:=⟨Tryz.f162.name,by decide,Tryz.func162.trans (congrArg some (by kernel_rfl))⟩
 f15:=Tryz.func163.trans (congrArg some (by kernel_rfl))
 f20:=⟨Tryz.f195.name,by decide,Tryz.func195.trans (congrArg some (by kernel_rfl))⟩
 f21:=⟨Tryz.f196.name,by decide,Tryz.func196.trans (congrArg some (by kernel_rfl))⟩
 f22:=⟨Tryz.f197.name,by decide,Tryz.func197.trans (congrArg some (by kernel_rfl))⟩
 f23:=⟨Tryz.f198.name,by decide,Tryz.func198.trans (congrArg some (by kernel_rfl))⟩
 f24:=⟨Tryz.f199.name,by decide,Tryz.func199.trans (congrArg some (by kernel_rfl))⟩
 f25:=⟨Tryz.f200.name,by decide,Tryz.func200.trans (congrArg some (by kernel_rfl))⟩
 f26:=⟨Tryz.f201.name,by decide,Tryz.func201.trans (congrArg some (by kernel_rfl))⟩
 f27:=⟨Tryz.f202.name,by decide,Tryz.func202.trans (congrArg some (by kernel_rfl))⟩
 f28:=Tryz.func203.trans (congrArg some (by kernel_rfl))
 f29:=Tryz.func204.trans (congrArg some (by kernel_rfl))
 f46:=⟨Tryz.f213.name,by decide,Tryz.func213.trans (congrArg some (by kernel_rfl))⟩
 f47:=Tryz.func214.trans (congrArg some (by kernel_rfl))
 f48:=Tryz.func215.trans (congrArg some (by kernel_rfl))
 f49:=⟨Tryz.f216.name,by decide,Tryz.func216.trans (congrArg some (by kernel_rfl))⟩
 f50:=⟨Tryz.f217.name,by decide,Tryz.func217.trans (congrArg some (by kernel_rfl))⟩
 f57:=⟨Tryz.f223.name,by decide,Tryz.func223.trans (congrArg some (by kernel_rfl))⟩
 t0:=Tryz.underlying0
 a0:=Tryz.isAgg0
 z0:=Tryz.sizeOf0
 v0:=Tryz.zeroValue0
 t3:=Tryz.underlying3
 a3:=Tryz.isAgg3
 z3:=Tryz.sizeOf3
 v3:=Tryz.zeroValue3
 t4:=Tryz.underlying4
 a4:=Tryz.isAgg4
 z4:=Tryz.sizeOf4
 v4:=Tryz.zeroValue4
 t5:=Tryz.underlying5
 a5:=Tryz.isAgg5
 z5:=Tryz.sizeOf5
 v5:=Tryz.zeroValue5
 t9:=Tryz.underlying9
 a9:=Tryz.isAgg9
 z9:=Tryz.sizeOf9
 v9:=Tryz.zeroValue9
 t22:=Tryz.underlying26
 a22:=Tryz.isAgg26
 z22:=Tryz.sizeOf26
 v22:=Tryz.zeroValue26
 t25:=Tryz.underlying104
 a25:=Tryz.isAgg104
 z25:=Tryz.sizeOf104
 v25:=Tryz.zeroValue104
 t39:=Tryz.underlying211
 a39:=Tryz.isAgg211
 z39:=Tryz.sizeOf211
 v39:=Tryz.zeroValue211
 t45:=Tryz.underlying243
 a45:=Tryz.isAgg243
 z45:=Tryz.sizeOf243
 v45:=Tryz.zeroValue243
 t46:=Tryz.underlying244
 a46:=Tryz.isAgg244
 z46:=Tryz.sizeOf244
 v46:=Tryz.zeroValue244
 t50:=Tryz.underlying248
 a50:=Tryz.isAgg248
 z50:=Tryz.sizeOf248
 v50:=Tryz.zeroValue248
 t53:=Tryz.underlying251
 a53:=Tryz.isAgg251
 z53:=Tryz.sizeOf251
 v53:=Tryz.zeroValue251
 t55:=Tryz.underlying253
 a55:=Tryz.isAgg253
 z55:=Tryz.sizeOf253
 v55:=Tryz.zeroValue253
 t66:=Tryz.underlying259
 a66:=Tryz.isAgg259
 z66:=Tryz.sizeOf259
 v66:=Tryz.zeroValue259
 t70:=Tryz.underlying193
 a70:=Tryz.isAgg193
 z70:=Tryz.sizeOf193
 v70:=Tryz.zeroValue193
 t76:=Tryz.underlying269
 a76:=Tryz.isAgg269
 z76:=Tryz.sizeOf269
 v76:=Tryz.zeroValue269
 t77:=Tryz.underlying270
 a77:=Tryz.isAgg270
 z77:=Tryz.sizeOf270
 v77:=Tryz.zeroValue270}
end Go.Proofs
namespace Go.Proofs
def Tryz.keys178_ren:Go.Shelf.Ren:=⟨fun|7=>178|10=>211|n=>n,fun|23=>115|26=>9|3=>3|28=>222|0=>0|27=>221|33=>256|4=>4|n=>n,fun|n=>n⟩
theorem Tryz.keys178:Go.Proofs.SlLaysZ.n7 Tryz.prog Tryz.keys178_ren:={
 mixed:=by kernel_rfl
 f7:=⟨Tryz.f178.name,by decide,Tryz.func178.trans (congrArg some (by kernel_rfl))⟩
 f10:=⟨Tryz.f211.name,by decide,Tryz.func211.trans (congrArg some (by kernel_rfl))⟩
 t0:=Tryz.underlying0
 a0:=Tryz.isAgg0
 z0:=Tryz.sizeOf0
 v0:=Tryz.zeroValue0
 t4:=Tryz.underlying4
 a4:=Tryz.isAgg4
 z4:=Tryz.sizeOf4
 v4:=Tryz.zeroValue4
 t23:=Tryz.underlying115
 a23:=Tryz.isAgg115
 z23:=Tryz.sizeOf115
 v23:=Tryz.zeroValue115
 t26:=Tryz.underlying9
 a26:=Tryz.isAgg9
 z26:=Tryz.sizeOf9
 v26:=Tryz.zeroValue9
 t27:=Tryz.underlying221
 a27:=Tryz.isAgg221
 z27:=Tryz.sizeOf221
 v27:=Tryz.zeroValue221
 t28:=Tryz.underlying222
 a28:=Tryz.isAgg222
 z28:=Tryz.sizeOf222
 v28:=Tryz.zeroValue222
 t33:=Tryz.underlying256
 a33:=Tryz.isAgg256
 z33:=Tryz.sizeOf256
 v33:=Tryz.zeroValue256}
def Tryz.sorted177_ren:Go.Shelf.Ren:=⟨fun|6=>177|8=>209|9=>210|11=>219|13=>163|12=>220|23=>203|24=>204|14=>224|15=>225|16=>226|17=>227|18=>228|19=>229|20=>230|21=>231|22=>232|25=>233|26=>214|27=>215|28=>234|29=>235|30=>236|31=>237|n=>n,fun|26=>9|28=>222|24=>118|0=>0|3=>3|37=>211|48=>251|50=>253|4=>4|40=>244|39=>243|45=>248|5=>5|9=>9|51=>259|55=>193|57=>269|58=>270|33=>256|n=>n,fun|n=>n⟩
theorem Tryz.sorted177:Go.Proofs.SlLaysZ.n6 Tryz.prog Tryz.sorted177_ren:={
 mixed:=by kernel_rfl
 f6:=⟨Tryz.f177.name,by decide,Tryz.func177.trans (congrArg some (by kernel_rfl))⟩
 f8:=⟨Tryz.f209.name,by decide,Tryz.func209.trans (congrArg some (by kernel_rfl))⟩
 f11:=⟨Tryz.f219.name,by decide,Tryz.func219.trans (congrArg some (by kernel_rfl))⟩
 t0:=Tryz.underlying0
 a0:=Tryz.isAgg0
 z0:=Tryz.sizeOf0
 v0:=Tryz.zeroValue0
 t24:=Tryz.underlying118
 a24:=Tryz.isAgg118
 z24:=Tryz.sizeOf118
 v24:=Tryz.zeroValue118
 t26:=Tryz.underlying9
 a26:=Tryz.isAgg9
 z26:=Tryz.sizeOf9
 v26:=Tryz.zeroValue9
 t28:=Tryz.underlying222
 a28:=Tryz.isAgg222
 z28:=Tryz.sizeOf222
 v28:=Tryz.zeroValue222
 i26:=by kernel_rfl}
def Tryz.sort210_ren:Go.Shelf.Ren:=⟨fun|6=>210|8=>163|9=>220|19=>203|20=>204|21=>224|22=>225|23=>226|24=>227|25=>228|26=>229|27=>230|28=>231|29=>232|36=>233|31=>214|32=>215|37=>234|38=>235|39=>236|41=>237|n=>n,fun|27=>118|29=>9|3=>3|32=>211|26=>118|0=>0|44=>251|46=>253|4=>4|36=>244|35=>243|41=>248|5=>5|9=>9|53=>259|57=>193|63=>269|64=>270|n=>n,fun|n=>n⟩
theorem Tryz.sort210:Go.Proofs.SlLaysM.n6 Tryz.prog Tryz.sort210_ren:={
 mixed:=by kernel_rfl
 f6:=⟨Tryz.f210.name,by decide,Tryz.func210.trans (congrArg some (by kernel_rfl))⟩
 f8:=Tryz.func163.trans (congrArg some (by kernel_rfl))
 f9:=⟨Tryz.f220.name,by decide,Tryz.func220.trans (congrArg some (by kernel_rfl))⟩
 f19:=Tryz.func203.trans (congrArg some (by kernel_rfl))
 f20:=Tryz.func204.trans (congrArg some (by kernel_rfl))
 f21:=⟨Tryz.f224.name,by decide,Tryz.func224.trans (congrArg some (by kernel_rfl))⟩
 f22:=⟨Tryz.f225.name,by decide,Tryz.func225.trans (congrArg some (by kernel_rfl))⟩
 f23:=⟨Tryz.f226.name,by decide,Tryz.func226.trans (congrArg some (by kernel_rfl))⟩
 f24:=⟨Tryz.f227.name,by decide,Tryz.func227.trans (congrArg some (by kernel_rfl))⟩
 f25:=⟨Tryz.f228.name,by decide,Tryz.func228.trans (congrArg some (by kernel_rfl))⟩
 f26:=⟨Tryz.f229.name,by decide,Tryz.func229.trans (congrArg some (by kernel_rfl))⟩
 f27:=⟨Tryz.f230.name,by decide,Tryz.func230.trans (congrArg some (by kernel_rfl))⟩
 f28:=⟨Tryz.f231.name,by decide,Tryz.func231.trans (congrArg some (by kernel_rfl))⟩
 f29:=⟨Tryz.f232.name,by decide,Tryz.func232.trans (congrArg some (by kernel_rfl))⟩
 f31:=Tryz.func214.trans (congrArg some (by kernel_rfl))
 f32:=Tryz.func215.trans (congrArg some (by kernel_rfl))
 f36:=⟨Tryz.f233.name,by decide,Tryz.func233.trans (congrArg some (by kernel_rfl))⟩
 f37:=⟨Tryz.f234.name,by decide,Tryz.func234.trans (congrArg some (by kernel_rfl))⟩
 f38:=⟨Tryz.f235.name,by decide,Tryz.func235.trans (congrArg some (by kernel_rfl))⟩
 f39:=⟨Tryz.f236.name,by decide,Tryz.func236.trans (congrArg some (by kernel_rfl))⟩
 f41:=⟨Tryz.f237.name,by decide,Tryz.func237.trans (congrArg some (by kernel_rfl))⟩
 t0:=Tryz.underlying0
 a0:=Tryz.isAgg0
 z0:=Tryz.sizeOf0
 v0:=Tryz.zeroValue0
 t3:=Tryz.underlying3
 a3:=Tryz.isAgg3
 z3:=Tryz.sizeOf3
 v3:=Tryz.zeroValue3
 t4:=Tryz.underlying4
 a4:=Tryz.isAgg4
 z4:=Tryz.sizeOf4
 v4:=Tryz.zeroValue4
 t5:=Tryz.underlying5
 a5:=Tryz.isAgg5
 z5:=Tryz.sizeOf5
 v5:=Tryz.zeroValue5
 t9:=Tryz.underlying9
 a9:=Tryz.isAgg9
 z9:=Tryz.sizeOf9
 v9:=Tryz.zeroValue9
 t26:=Tryz.underlying118
 a26:=Tryz.isAgg118
 z26:=Tryz.sizeOf118
 v26:=Tryz.zeroValue118
 t27:=Tryz.underlying118
 a27:=Tryz.isAgg118
 z27:=Tryz.sizeOf118
 v27:=Tryz.zeroValue118
 t29:=Tryz.underlying9
 a29:=Tryz.isAgg9
 z29:=Tryz.sizeOf9
 v29:=Tryz.zeroValue9
 t32:=Tryz.underlying211
 a32:=Tryz.isAgg211
 z32:=Tryz.sizeOf211
 v32:=Tryz.zeroValue211
 t35:=Tryz.underlying243
 a35:=Tryz.isAgg243
 z35:=Tryz.sizeOf243
 v35:=Tryz.zeroValue243
 t36:=Tryz.underlying244
 a36:=Tryz.isAgg244
 z36:=Tryz.sizeOf244
 v36:=Tryz.zeroValue244
 t41:=Tryz.underlying248
 a41:=Tryz.isAgg248
 z41:=Tryz.sizeOf248
 v41:=Tryz.zeroValue248
 t44:=Tryz.underlying251
 a44:=Tryz.isAgg251
 z44:=Tryz.sizeOf251
 v44:=Tryz.zeroValue251
 t46:=Tryz.underlying253
 a46:=Tryz.isAgg253
 z46:=Tryz.sizeOf253
 v46:=Tryz.zeroValue253
 t53:=Tryz.underlying259
 a53:=Tryz.isAgg259
 z53:=Tryz.sizeOf259
 v53:=Tryz.zeroValue259
 t57:=Tryz.underlying193
 a57:=Tryz.isAgg193
 z57:=Tryz.sizeOf193
 v57:=Tryz.zeroValue193
 t63:=Tryz.underlying269
 a63:=Tryz.isAgg269
 z63:=Tryz.sizeOf269
 v63:=Tryz.zeroValue269
 t64:=Tryz.underlying270
 a64:=Tryz.isAgg270
 z64:=Tryz.sizeOf270
 v64:=Tryz.zeroValue270}
theorem Tryz.sorts177(m:Nat):AnyZ.SortsIn Tryz.prog Tryz.sorted177_ren Fence.wide m:=
 ⟨λd j c k W e f h=>callsIn_wide.2 (AnyM.slices_Sort_string Tryz.sort210 d j c k W e f h),
  λp c W=>callsIn_wide.2 (AnyM.slices_Sort_string_none Tryz.sort210 p c W)⟩
theorem Tryz.maps_Keys_178(c:Option Nat)(W:World):CallsIn Fence.wide 5 Tryz.prog 178 #[.map c] W λe d=>e= .returned (.func (.func 211) #[] #[.pointer (some ⟨W.heap.size,0,none⟩)])/\d=W.alloc (.cells #[.map c] 115):=
 AnyZ.keys_in Tryz.keys178 Fence.wide 5 trivial rfl c W
theorem Tryz.slices_Sorted_keys_177_178{H:Type}(b h:Nat)(c:DataW H)(R:Value->Option (DataW H×List MemPlace))(w:World)(f:w.ownsMap Tryz.prog 9 R b h c)(t:Maps.size c<=maxLen)(s:Maps.size c * 16<=140737488355328):
 CallsIn Fence.wide 5 Tryz.prog 177 #[.func (.func 211) #[] #[.pointer (some ⟨w.heap.size,0,none⟩)]] (w.alloc (.cells #[.map (some b)] 115)) λe j=> ∃(v:Value) (d:List (List UInt8)),e= .returned v/\d.Perm (strKeys c)/\
  j.ownsRow (w.alloc (.cells #[.map (some b)] 115)).heap.size 9 1 v d.length ((d.mergeSort (λx y=>decide (x<=y))).map encStr)/\(v= .slice none 0 0↔d=[])/\Below (w.alloc (.cells #[.map (some b)] 115)).heap.size (w.alloc (.cells #[.map (some b)] 115)) j:=by
 have r:=f.lt;have z:SeqGives Fence.wide 2 Tryz.prog 211 #[.pointer (some ⟨w.heap.size,0,none⟩)] encStr (λd=>d.Perm (strKeys c)) (Maps.size c) (w.alloc (.cells #[.map (some b)] 115)):=
  AnyZ.keys_gives (ρ:=Tryz.keys178_ren) {Tryz.keys178 with} Fence.wide _ trivial rfl (by omega) w.heap.size b h c _ (by simp) (by simp) (by
   obtain⟨m,l,q,k,u,p⟩:=f;exact⟨m,l,(Below.heap_alloc _ _ b r).trans q,k,u,p⟩)
 exact AnyZ.sorted_in Tryz.sorted177 Fence.wide 5 trivial trivial trivial trivial rfl (by omega) (Tryz.sorts177 _) (enters_of Tryz.func210 (by kernel_rfl) rfl) 211 #[.pointer (some ⟨w.heap.size,0,none⟩)] trivial (enters_of Tryz.func211 (by kernel_rfl) rfl) _ _ t s _ z
end Go.Proofs
