import Derived.Test.YtdohnkkbkfhphaaGreatPw21
set_option linter.all false
set_option maxHeartbeats 2000000
set_option maxRecDepth 100000
open Go.ChangeShapes Go.WideShapes Go.ChangeAt Go.RowKit List
open Inhabited renaming default->ϰ
namespace Go.Proofs.YtdohnkkbkfhphaaGreat
open Go.Proofs.Tryz
namespace bt
open vl pl
theorem Ad1:(Tryz.prog.info? 103).map (λi=>(i.zero,i.size,i.bytes))=some (some (.agg #[ω,ω,ϊ]),3,32):=Ϣ
theorem SA(n:Nat)(w:ϛ)(g:n<=400):
 (Instr.makeSlice 41 (vI (n:Int)) (vI (n:Int))).run Tryz.prog w= .ok (vS (τ w) n n) (ξ w (madeCells #[ω,ω,ϊ] (n * 3)) 103):=by
 have c:=Ad1
 cases hi:Tryz.prog.info? 103 with
 |none=>rw[hi]at c;cases c
 |some i=>
  rw[hi]at c;simp only[Option.map_some,Option.some.injEq,Prod.mk.injEq]at c;obtain⟨f,d,e⟩:=c;have:=run_makeSlice (P:=Tryz.prog) (w:=w) 41 103 i _ underlying41 hi f .i64 .i64 n n ϟ (Int.le_refl _) (by rw[d];simp;omega) (by rw[e];omega) ϟ;rw[d,Int.toNat_natCast]at this;exact this
theorem Aau(n:Nat)(w:ϛ)(h1:1<=n)(q:n<=4):vl.rowAt (ξ w (madeCells #[ω,ω,ϊ] (n * 3)) 103) (τ w) (AE n):=by
 have d:madeCells #[ω,ω,ϊ] (1 * 3)=#[vI 0,vI 0,.string ⟨#[]⟩]:=Ϣ;have f:madeCells #[ω,ω,ϊ] (2 * 3)=#[vI 0,vI 0,.string ⟨#[]⟩,vI 0,vI 0,.string ⟨#[]⟩]:=Ϣ;have g:madeCells #[ω,ω,ϊ] (3 * 3)=#[vI 0,vI 0,.string ⟨#[]⟩,vI 0,vI 0,.string ⟨#[]⟩,vI 0,vI 0,.string ⟨#[]⟩]:=Ϣ;have h:madeCells #[ω,ω,ϊ] (4 * 3)=#[vI 0,vI 0,.string ⟨#[]⟩,vI 0,vI 0,.string ⟨#[]⟩,vI 0,vI 0,.string ⟨#[]⟩,vI 0,vI 0,.string ⟨#[]⟩]:=Ϣ;have m:n=1\/n=2\/n=3\/n=4:=ϟ;intro i j;have c:i<n:=by simpa[AE]using j
 refine⟨_,_,rfl,?_⟩;have e:(AE n).getD i ϰ=⟨0,0,⟨#[]⟩⟩:=by simp[AE,gDe,c]
 rw[e];have l:i=0\/i=1\/i=2\/i=3:=ϟ;rcases m with rfl|rfl|rfl|rfl<;>rcases l with rfl|rfl|rfl|rfl<;>first|(exact absurd c Ϡ)|((first|rw[d]|rw[f]|rw[g]|rw[h]);clear d f g h;refine⟨?_,?_,?_⟩<;>go_simp)
theorem Yq(p:Pln)(x:PA)(side:Int)(w:ϛ)(h1:1<=(As p side).length)(B:(As p side).length<=4):
 η 275 #[Ak p x,vI side] w λe w'=>(∃d,e= .returned (vS (τ d) (As p side).length (As p side).length)/\w.heap.size<=d/\vl.rowAt w' (τ d) (AE (As p side).length))/\Ϟ w w':=by
 have c:=hIz (λ(w1:ϛ)=>LP p x side w1);have z:ϝ (∀w1,vl.rowAt (ξ w1 (madeCells #[ω,ω,ϊ] ((As p side).length * 3)) 103) (τ w1) (AE (As p side).length)):=λw1=>Aau _ w1 h1 B;have A:ϝ (∀w1,(Instr.makeSlice 41 (vI ((As p side).length:Int)) (vI ((As p side).length:Int))).run Tryz.prog w1= .ok (vS (τ w1) (As p side).length (As p side).length) (ξ w1 (madeCells #[ω,ω,ϊ] ((As p side).length * 3)) 103)):=λw1=>SA _ w1 ϟ;obtain⟨n,u⟩:∃n,(As p side).length=n:=⟨_,rfl⟩;obtain⟨N,D⟩:=nM (cA x side);obtain⟨O,F⟩:=nM (cC x side);rw[u]at z A⊢;rw[u,D,F]at c;clear u D F h1 B;obtain⟨U,aa,Z,S,af,W,left,right,K,L,R,I,H⟩:=p;obtain⟨l,V,rr,rc,X,Y,rk,ae,g,P,a,M⟩:=x;unfold Ak at c⊢;dsimp only at c⊢;obtain⟨n6,i⟩:∃n,left.length=n:=⟨_,rfl⟩;obtain⟨n7,j⟩:∃n,right.length=n:=⟨_,rfl⟩;obtain⟨n8,m⟩:∃n,K.length=n:=⟨_,rfl⟩;obtain⟨n9,q⟩:∃n,L.length=n:=⟨_,rfl⟩;obtain⟨ab,f⟩:∃n,I.length=n:=⟨_,rfl⟩;obtain⟨ad,h⟩:∃n,H.length=n:=⟨_,rfl⟩;rw[i,j,m,q,f,h]at c;rw[i,j,m,q,f,h];clear i j m q f h;go_enter func275,ntmps275;go_wp2_with fail;refine(c.o _).mono ?_;rintro e w1 ⟨rfl,J⟩;have C:=Ϫ.trans (J.mono ϡ);have T:=A.o w1;have G:=C.size;go_wp2;go_ret;exact⟨⟨_,rfl,G,z.o w1⟩,C.alloc G _⟩
end bt
namespace jn
open vl bf
def leP(a b:Ent):Bool:= !decide (ltP b a)
def AP(l:List Ent):List Ent:=l.mergeSort leP
theorem A9(l:List Ent):(AP l).Perm l:=mergeSort_perm l leP
theorem Yr(a b c:Ent)(h1:leP a b=true)(d:leP b c=true):leP a c=true:=by
 unfold leP at *;simp only[Bool.not_eq_true',decide_eq_false_iff_not]at *;intro h;rcases ltP_tri a b with k|k|k
 ·rcases ltP_tri b c with j|j|j
  ·exact CL _ (Co (Co k j) h)
  ·exact CL _ (Co (Nv k j) h)
  ·exact d j
 ·exact d (Nv h k)
 ·exact h1 k
theorem Ys(a b:Ent):(leP a b||leP b a)=true:=by
 unfold leP;by_cases h:ltP b a
 ·have:¬ltP a b:=λk=>CL _ (Co k h);simp[h,this]
 ·simp[h]
theorem Iw(l:List Ent):Md (AP l):=λi j f d e=>by
 have g:=pairwise_mergeSort (le:=leP) Yr Ys l;have c:i<(AP l).length:=ϟ;have:=pairwise_iff_getElem.1 g i j c d f;rw[getD_at d,getD_at c]at e;unfold leP at this;simp only[Bool.not_eq_true',decide_eq_false_iff_not]at this;exact this e
theorem Ec{l c:List Ent}(e:c.Perm l)(f:Md c)(d:(l.map Az).Nodup):c=AP l:=by
 have g:(c.map Az).Nodup:=(Fw e).2 d;have h:((AP l).map Az).Nodup:=(Fw (A9 l)).2 d;exact QX (e.trans (A9 l).symm) (JC f g) (JC (Iw l) h)
def AJ(side:Int)(own other:List Cel):List Cel:=if side=2 then other++own else own++other
def keepsJ(mode side:Int):Bool:=if mode=2 then side==1 else if mode=3 then side==2 else mode==4
def AN(p:pl.Pln)(side:Int)(row:List Cel):List Cel:=AJ side row (bt.AE (pl.As p (3 - side)).length)
def Cx(b:Buf)(key:ByteArray)(fr tO:Int):List Ent:=AP ((Aa b).filter λy=>decide (y.key=key)&&decide (fr<=y.time)&&decide (y.time<=tO))
def metE(qs:List Int)(y:Ent):Ent:=if y.seq∈qs then {y with met:=true}else y
def Cb(qs:List Int)(b:Buf):Buf:=⟨b.lim,b.mem.map (metE qs),b.runs.map (·.map (metE qs))⟩
def Av(s:Jn)(side:Int)(b:Buf):Jn:=if side=2 then⟨s.L,b,s.lm,s.rm,s.seq⟩else⟨b,s.R,s.lm,s.rm,s.seq⟩
def DX(p:pl.Pln)(v:Ev):Int:=if p.kind=1 then(if v.side=1 then v.time+p.low else v.time - p.high)else v.time - v.time % p.size
def toJ(p:pl.Pln)(v:Ev):Int:=if p.kind=1 then(if v.side=1 then v.time+p.high else v.time - p.low)else v.time - v.time % p.size+p.size - 1
def partners(p:pl.Pln)(s:Jn)(v:Ev):List Ent:=if pl.hasB p v.side v.row=true then Cx (bufOf s (3 - v.side)) (pl.Ap p v.side v.row) (DX p v) (toJ p v)else []
def Ck(p:pl.Pln)(s:Jn)(v:Ev):List ch.Chg:=
 (partners p s v).flatMap (λe=>if keepsJ p.mode (3 - v.side)=true/\e.met=false then [⟨3,AN p (3 - v.side) e.row⟩,⟨4,AJ v.side v.row e.row⟩]else [⟨1,AJ v.side v.row e.row⟩])
 ++if (partners p s v).isEmpty=true/\keepsJ p.mode v.side=true then [⟨1,AN p v.side v.row⟩]else []
def CQ(p:pl.Pln)(s:Jn)(v:Ev):Jn:=Av s (3 - v.side) (Cb ((partners p s v).map (·.seq)) (bufOf s (3 - v.side)))
def Cc(p:pl.Pln)(s:Jn)(v:Ev):List Ent:=if pl.hasB p v.side v.row=true then Cx s.R (pl.Ap p v.side v.row) (-1099511627776) v.time else []
def Gk(p:pl.Pln)(s:Jn)(v:Ev):List ch.Chg:=match (Cc p s v).getLast? with
 |some e=>[⟨1,AJ v.side v.row e.row⟩]
 |none=>if keepsJ p.mode 1=true then [⟨1,AN p v.side v.row⟩]else []
def Wl(s:Jn)(key:ByteArray)(e:Ent):Option Ent:=((Cx s.R key (-1099511627776) 1099511627776).filter λy=>decide (y.time<=e.time)).getLast?
def Cq(p:pl.Pln)(s:Jn)(v:Ev):List Ent:=(if pl.hasB p v.side v.row=true then Cx s.L (pl.Ap p v.side v.row) v.time 1099511627776 else []).filter λe=>match Wl s (pl.Ap p v.side v.row) e with
 |some o=>decide (o.time<=v.time)
 |none=>true
def DU(p:pl.Pln)(s:Jn)(v:Ev):List ch.Chg:=(Cq p s v).flatMap λe=>match Wl s (pl.Ap p v.side v.row) e with
 |some o=>[⟨3,AJ 1 e.row o.row⟩,⟨4,AJ v.side v.row e.row⟩]
 |none=>if keepsJ p.mode 1=true then [⟨3,AN p 1 e.row⟩,⟨4,AJ v.side v.row e.row⟩]else [⟨1,AJ v.side v.row e.row⟩]
def DN(b:Buf)(y:Ent):Buf:=FA b (AP (b.mem++[y]))
def Er(p:pl.Pln)(s:Jn)(v:Ev)(met:Bool):Jn:=
 let t:=if pl.hasB p v.side v.row=true/\BI p s v.side<v.time then Av s v.side (DN (bufOf s v.side) ⟨pl.Ap p v.side v.row,v.time,s.seq,v.row,met⟩)else s
 ⟨t.L,t.R,t.lm,t.rm,t.seq+1⟩
def dropJ(p:pl.Pln)(s:Jn):Jn:=⟨Bt (Cm (BI p s 1)) s.L,Bt (Cm (BI p s 2)) s.R,s.lm,s.rm,s.seq⟩
def lastOf(s:Jn)(key:ByteArray)(low:Int):Int:=match ((AP (Aa s.R)).filter λy=>decide (y.key=key)&&decide (y.time<=low)).getLast? with
 |some y=>y.seq
 |none=>0
def Mf(s:Jn):Int:=min s.lm s.rm
def NO(s:Jn):Jn:=⟨s.L,Bt (λy=>decide (Mf s<y.time)||decide (lastOf s y.key (Mf s)=y.seq)) s.R,s.lm,s.rm,s.seq⟩
def Bu(p:pl.Pln)(s:Jn):Jn:=if p.kind=3 then NO (dropJ p s)else dropJ p s
def CB(p:pl.Pln)(s:Jn)(v:Ev):Jn×List ch.Chg:=
 if p.kind=3 then
  if v.side=1 then(Er p s v (!(Cc p s v).isEmpty),Gk p s v)
  else(Er p (Av s 1 (Cb ((Cq p s v).map (·.seq)) s.L)) v false,DU p s v)
 else(Er p (CQ p s v) v (!(partners p s v).isEmpty),Ck p s v)
noncomputable def stepJ(p:pl.Pln)(s:Jn)(v:Ev):Int×Jn×List ch.Chg:=
 if B6 p s≠0 then(B6 p s,j0,[])else if AB p s v≠0 then(AB p s v,j0,[])
 else if v.kind=2 then(0,Bu p (BS s v.side v.time),[])else(0,CB p s v)
noncomputable def C6(p:pl.Pln):Jn->List Ev->Nat->Jn×List ch.Chg×List Int
 |s,[],_=>(s,[],[])
 |s,v::l,i=>if (stepJ p s v).1≠0 then let r:=C6 p s l (i+1);(r.1,r.2.1,(i:Int)::r.2.2)
  else let r:=C6 p (stepJ p s v).2.1 l (i+1);(r.1,(stepJ p s v).2.2++r.2.1,r.2.2)
end jn
namespace jn
open vl pl bt
attribute [local go_sem] Oper.semAt_some
variable {w w' w1 w2 : ϛ} {b base : Nat} {s : Jn} {rv sv t v v' : Value} {E : List Own1} {row srow : List Cel} {k : Int} {o : Obj} {ops : Array Oper} {rest : List Oper} {a : Act} {Q : Exit -> Act -> World -> Prop} {p : pl.Pln} {x : pl.PA} {y : JX}
def Mg:Value->Option Addr
 | .slice a _ _=>a
 |_=>none
def Oz:Value->Nat
 | .slice _ _ c=>c
 |_=>0
theorem J6{e:TypeId}{s:Nat}{n:Nat}{f:List Value}(h:w.ownsRow base e s v n f):v=vS (Mg v) n (Oz v):=by
 rcases h.2 with⟨c,d⟩|⟨g,i,j,c,_⟩
 ·rw[c,d];rfl
 ·rw[c];rfl
theorem Kv{c:List Own1}(h:∀[DecidableEq Own1] (a:Own1),E.count a=c.count a):E.Perm c:=by
 haveI:DecidableEq Own1:=λa b=>Classical.propDecidable (a=b)
 exact perm_iff_count.2 (λa=>h a)
theorem Aav{F:List Own1}(h:Est w base (E++F)):Est w base F:=
 ⟨h.low,λy c=>h.own y (mem_append.2 (.inr c)),(pairwise_append.1 h.two).2.1⟩
theorem Jp(w:ϛ)(a b c d:Value)(t:TypeId):∀j u,[a,b,c,d][j]? =some u->(w.alloc (.cells #[a,b,c,d] t)).cell? ((⟨w,0,none⟩:Addr).add j)=some u:=λj u e=>by
 rw[ch.addr_add]
 match j,e with
 |0,e=>simp at e;subst e;go_simp
 |1,e=>simp at e;subst e;go_simp
 |2,e=>simp at e;subst e;go_simp
 |3,e=>simp at e;subst e;go_simp
 |k+4,e=>simp at e
def C7(rv:Value)(row:List Cel):Own1:=⟨rv,103,3,row.length,celCells row⟩
structure CO where
 k:Int
 rv:Value
 row:List Cel
instance:Inhabited CO:=⟨⟨0,ψ,[]⟩⟩
def CO.chg(x:CO):ch.Chg:=⟨x.k,x.row⟩
def CO.pair(x:CO):Int×Value:=(x.k,x.rv)
def CG(w:World)(base:Nat)(v:Value)(L:List CO):Prop:=Est w base ((⟨v,55,2,L.length,ch.Ba (L.map CO.pair)⟩:Own1)::L.map λx=>C7 x.rv x.row)
theorem CG.start(h:base<=w.heap.size):CG w base (vS none 0 0) []:=
 ⟨h,λy c=>by
  rcases mem_cons.1 c with rfl|c
  ·exact World.ownsRow_nil _ _ _ _
  ·exact absurd c not_mem_nil,pairwise_cons.2 ⟨λy c=>absurd c not_mem_nil,List.Pairwise.nil⟩⟩
theorem CG.below{L:List CO}(h:CG w base v L)(c:Ϟ w w'):CG w' base v L:=Gx h c
theorem CG.own{L:List CO}(h:CG w base v L):w.ownsRow base 55 2 v L.length (ch.Ba (L.map CO.pair)):=Est.own h _ (mem_cons_self ..)
theorem CG.add{L:List CO}(h:CG w base v L)(n:Ϟ w w1)(d:A4 w1 w rv row)(c:(w1.alloc o).grownBy w2 v.ownBlock)(q:w2.ownsRow base 55 2 v' (L.length+1) (ch.Ba (L.map CO.pair++[(k,rv)])))(m:∀g,v'.ownBlock=some g->v.ownBlock=some g\/w1.heap.size+1<=g):CG w2 base v' (L++[⟨k,rv,row⟩]):=by
 have i:Est w1 base (C7 rv row::(⟨v,55,2,L.length,ch.Ba (L.map CO.pair)⟩:Own1)::L.map λx=>C7 x.rv x.row):=PX (x:=C7 rv row) h n (World.ownsRow.mono d (Est.low h)) (λg c=>(ch.AM d c).1);have j:=Gx (Gw i (List.Perm.swap _ _ _)) (bR.alloc nR o);have e:(L++[(⟨k,rv,row⟩:CO)]).length=L.length+1:=ϡ;have f:(L++[(⟨k,rv,row⟩:CO)]).map CO.pair=L.map CO.pair++[(k,rv)]:=by rw[map_append];rfl
 have l:=Rj (x':=(⟨v',55,2,(L++[(⟨k,rv,row⟩:CO)]).length,ch.Ba ((L++[(⟨k,rv,row⟩:CO)]).map CO.pair)⟩:Own1)) j c (by rw[e,f];exact q) (λg c=>by
  rcases m g c with h|h
  ·exact .inl h
  ·right;simp;exact h)
 refine Gw l (Kv (λa=>?_));simp only[map_append,map_cons,map_nil,count_append,count_cons,count_nil];omega
theorem CG.add2{L:List CO}{k2:Int}{E:List Own1}(h:Est w base ((⟨v,55,2,L.length,ch.Ba (L.map CO.pair)⟩:Own1)::C7 rv row::C7 sv srow::L.map λx=>C7 x.rv x.row))(l:Ϟ w w1)(c:(w1.alloc o).grownBy w2 v.ownBlock)(m:w2.ownsRow base 55 2 v' (L.length+2) (ch.Ba (L.map CO.pair++[(k,rv),(k2,sv)])))(j:∀g,v'.ownBlock=some g->v.ownBlock=some g\/w1.heap.size+1<=g):CG w2 base v' (L++[⟨k,rv,row⟩,⟨k2,sv,srow⟩]):=by
 have f:=Gx (Gx h l) (bR.alloc nR o);have d:(L++[(⟨k,rv,row⟩:CO),⟨k2,sv,srow⟩]).length=L.length+2:=ϡ;have e:(L++[(⟨k,rv,row⟩:CO),⟨k2,sv,srow⟩]).map CO.pair=L.map CO.pair++[(k,rv),(k2,sv)]:=by rw[map_append];rfl
 have i:=Rj (x':=(⟨v',55,2,(L++[(⟨k,rv,row⟩:CO),⟨k2,sv,srow⟩]).length,ch.Ba ((L++[(⟨k,rv,row⟩:CO),⟨k2,sv,srow⟩]).map CO.pair)⟩:Own1)) f c (by rw[d,e];exact m) (λg c=>by
  rcases j g c with h|h
  ·exact .inl h
  ·right;simp;exact h)
 refine Gw i (Kv (λa=>?_));simp only[map_append,map_cons,map_nil,count_append,count_cons,count_nil];omega
theorem CG.two{L:List CO}(h:CG w base v L)(j:Ϟ w w1)(e:A4 w1 w rv row)(l:Ϟ w1 w2)(f:A4 w2 w1 sv srow):Est w2 base ((⟨v,55,2,L.length,ch.Ba (L.map CO.pair)⟩:Own1)::C7 rv row::C7 sv srow::L.map λx=>C7 x.rv x.row):=by
 have d:=PX (x:=C7 rv row) h j (World.ownsRow.mono e (Est.low h)) (λg c=>(ch.AM e c).1);have i:=PX (x:=C7 sv srow) d l (World.ownsRow.mono f d.low) (λg c=>(ch.AM f c).1);refine Gw i (Kv (λa=>?_));simp only[count_cons];omega
theorem CG.two2{L:List CO}(h:CG w base v L)(c:Ϟ w w1)(e:A4 w1 w sv srow)(d:Ϟ w1 w2)(f:A4 w2 w1 rv row):Est w2 base ((⟨v,55,2,L.length,ch.Ba (L.map CO.pair)⟩:Own1)::C7 rv row::C7 sv srow::L.map λx=>C7 x.rv x.row):=by
 refine Gw (h.two c e d f) (Kv (λa=>?_));simp only[count_cons];omega
theorem CG.left{L:List CO}(h:Est w base ((⟨v,55,2,L.length,ch.Ba (L.map CO.pair)⟩:Own1)::C7 rv row::C7 sv srow::L.map λx=>C7 x.rv x.row)):CG w base v L:=by
 have c:Est w base ([C7 rv row,C7 sv srow]++((⟨v,55,2,L.length,ch.Ba (L.map CO.pair)⟩:Own1)::L.map λx=>C7 x.rv x.row)):=by
  refine Gw h (Kv (λa=>?_));simp only[count_append,count_cons,count_nil];omega
 exact Aav c
theorem QF{o:Oper}(B:o.guard=none)(s x:Operand)
 (F:o.op= .call {callee:=.builtin .append,args:=#[s,x],argTypes:=#[44,44]})
 (base:Nat) (v:Value) (l:List (Int×Value)) (i:Int) (d:Value) (j:Int) (e:Value) (w1:ϛ) (c:Nat) (O:l.length=c) (D:w1.ownsRow base 55 2 v c (ch.Ba l)) (N:c<=1000000000) (M:base<=w1.heap.size) (P:d.oneCell'=true) (R:e.oneCell'=true)
 (G:a.eval s=v) (H:a.eval x=vS (τ w1) 2 2)
 (h:∀g f w2,w2.ownsRow base 55 2 (vS (τ g) (c+2) f) (c+2) (ch.Ba (l++[(i,d),(j,e)]))->(w1.alloc (.cells #[vI i,d,vI j,e] 55)).grownBy w2 v.ownBlock->(v.ownBlock=some g\/g=w1.heap.size+1)->g<w2.heap.size->wpList Tryz.prog ops Q rest (a.put o.dst (vS (τ g) (c+2) f)) w2):
 wpList Tryz.prog ops Q (o::rest) a (ξ w1 #[vI i,d,vI j,e] 55):=by
 obtain⟨L,C,I,J,K⟩:=info_parts ch.S0;refine wpList_append_lies _ B s x 44 F base 55 L (.agg #[ω,ψ]) 2 32 underlying44 C I J K rfl Ϡ v c (ch.Ba l) G
  (D.alloc _) ⟨w1,0,none⟩ 2 2 [vI i,d,vI j,e] H rfl (Jp _ _ _ _ _ _) (by intro u m;simp at m;rcases m with rfl|rfl|rfl|rfl<;>first|rfl|assumption) Ϡ ϩ ϟ Ϥ (w1.heap.size+1) ϡ ?_
 intro g f w2 n q z A;refine h g f w2 ?_ q z A;rw[ch.Lz];exact n
theorem P9(L:List CO)(i:Nat)(h:i<L.length):(L.map CO.pair).getD i (0,.bool false)=((L.getD i ϰ).k,(L.getD i ϰ).rv)/\(L.map CO.chg).getD i ϰ=⟨(L.getD i ϰ).k,(L.getD i ϰ).row⟩:=by
 simp[gDe,h,CO.pair,CO.chg]
theorem CG.chgs{L:List CO}(h:CG w base v L):v=vS (Mg v) L.length (Oz v)/\ch.BZ w (Mg v) (L.map CO.chg):=by
 have j:=h.own;refine⟨J6 j,λi C=>?_⟩;have d:i<L.length:=by simpa using C
 rcases j.2 with⟨m,F⟩|⟨g,c,D,m,_⟩
 ·omega
 ·have z:=World.ownsRow.cells j (g:=g) (by rw[m];rfl);obtain⟨q,u⟩:=ch.S2 (L.map CO.pair) i (by simpa using d);obtain⟨A,f⟩:=P9 L i d;rw[A]at q u;have n:=z _ _ q;have e:=z _ _ u;rw[ch.Ch,Nat.zero_add]at n e;have l:A4 w base (L.getD i ϰ).rv (L.getD i ϰ).row:=Est.own h (C7 (L.getD i ϰ).rv (L.getD i ϰ).row) (mem_cons_of_mem _ (mem_map.2 ⟨L.getD i ϰ,by rw[gDe,gEe d];exact getElem_mem d,rfl⟩));have B:=J6 l;rw[B]at l e;refine⟨g,0,Mg (L.getD i ϰ).rv,Oz (L.getD i ϰ).rv,by rw[m];rfl,?_,?_,?_⟩
  ·rw[f,Nat.zero_add];exact n
  ·rw[f,Nat.zero_add];exact e
  ·rw[f];exact vl.E6 l
theorem Gl{o:Oper}(z:o.guard=none)(s x:Operand)
 (C:o.op= .call {callee:=.builtin .append,args:=#[s,x],argTypes:=#[44,44]})
 (base:Nat) (v:Value) (l:List (Int×Value)) (n:Int) (ad:Ϝ) (e cap:Nat) (w1:ϛ) (c:Nat) (M:l.length=c) (B:w1.ownsRow base 55 2 v c (ch.Ba l)) (L:c<=1000000000) (K:base<=w1.heap.size)
 (D:a.eval s=v) (F:a.eval x=vS (τ w1) 1 1)
 (h:∀g d w2,w2.ownsRow base 55 2 (vS (τ g) (c+1) d) (c+1) (ch.Ba (l++[(n,vS ad e cap)]))->(w1.alloc (.cells #[vI n,vS ad e cap] 55)).grownBy w2 v.ownBlock->(v.ownBlock=some g\/g=w1.heap.size+1)->g<w2.heap.size->wpList Tryz.prog ops Q rest (a.put o.dst (vS (τ g) (c+1) d)) w2):
 wpList Tryz.prog ops Q (o::rest) a (ξ w1 #[vI n,vS ad e cap] 55):=by
 obtain⟨J,A,G,H,I⟩:=info_parts ch.S0;refine wpList_append_lies _ z s x 44 C base 55 J (.agg #[ω,ψ]) 2 32 underlying44 A G H I rfl Ϡ v c (ch.Ba l) D
  (B.alloc _) ⟨w1,0,none⟩ 1 1 [vI n,vS ad e cap] F rfl (cell_two_new _ _ _ _) (by intro u f;simp at f;rcases f with rfl|rfl<;>rfl) Ϡ ϩ ϟ Ϥ (w1.heap.size+1) ϡ ?_
 intro g d w2 i j m q;exact h g d w2 (by rw[ch.NI];exact i) j m q
theorem IM(h:boxC w b p x s y t)(e:w'.heap[b]? =w.heap[b]?):boxC w' b p x s y t:=by
 have c:∀{i:Nat} {v:Value},Δ w b i v->Δ w' b i v:=λ{i v} g=>(cOb (w:=w) (a:=⟨b,i,none⟩) e).trans g;refine⟨?_,?_,c h.told,λj d=>?_⟩
 ·obtain⟨l,m,A,B,C,D,F,G,H,I,n,q,z⟩:=h.plan;exact⟨c l,c m,c A,c B,c C,c D,c F,c G,c H,c I,c n,c q,c z⟩
 ·obtain⟨u0,u1,u2,u3,u4,u5,u6,u7,u8⟩:=h.join;exact⟨c u0,c u1,c u2,c u3,c u4,c u5,c u6,c u7,c u8⟩
 ·obtain⟨u,f⟩:=Option.isSome_iff_exists.1 (h.room j d).1;exact⟨by rw[c f];rfl,(World.frozen?_of_block (w:=w) (a:=⟨b,0+j,none⟩) e).trans (h.room j d).2⟩
theorem PC(h:boxC w b p x s y t)(c:Value):boxC (φ w b 22 c) b p x s y c:=by
 refine⟨?_,?_,World.cell?_setCell_same _ _ c h.told,λj d=>?_⟩
 ·obtain⟨g,i,q,z,A,B,C,D,F,G,l,m,n⟩:=h.plan;exact⟨cell_far g Ϡ,cell_far i Ϡ,cell_far q Ϡ,cell_far z Ϡ,cell_far A Ϡ,cell_far B Ϡ,cell_far C Ϡ,cell_far D Ϡ,cell_far F Ϡ,cell_far G Ϡ,cell_far l Ϡ,cell_far m Ϡ,cell_far n Ϡ⟩
 ·obtain⟨u0,u1,u2,u3,u4,u5,u6,u7,u8⟩:=h.join;exact⟨cell_far u0 Ϡ,cell_far u1 Ϡ,cell_far u2 Ϡ,cell_far u3 Ϡ,cell_far u4 Ϡ,cell_far u5 Ϡ,cell_far u6 Ϡ,cell_far u7 Ϡ,cell_far u8 Ϡ⟩
 ·exact⟨by
   obtain⟨u,e⟩:=Option.isSome_iff_exists.1 (h.room j d).1;obtain⟨H,f⟩:=cell?_setCell_some (p:=⟨b,22,none⟩) (x:=c) e;rw[f];rfl,by rw[World.frozen?_setCell];exact(h.room j d).2⟩
def SD(w w':World)(b:Nat)(t:Value):Prop:=Below 0 w w'/\(∀g,g<w.heap.size->g≠b->t.ownBlock≠some g->w'.heap[g]? =w.heap[g]?)/\∀T,bf.An w b T->bf.An w' b T
theorem QG{T:TypeId}{L:List CO}(h:CG w base v L)(i:bf.An w b T)(h1:T≠55)(l:T≠103)(k:Nat)(u:Value):CG (φ w b k u) base v L:=by
 have e:Est w base ((⟨v,55,2,L.length,ch.Ba (L.map CO.pair)⟩:Own1)::L.map λx=>C7 x.rv x.row):=h;refine Est.mk (by have:=Est.low e;simpa[World.setCell]using this) (λz d=>?_) (Est.two e);have f:=Est.own e z d;refine bf.A2 f (λg j=>heap_setCell_other _ _ _ _ ?_);rcases mem_cons.1 d with rfl|d
 ·exact bf.tyAt_apart (bf.A6 f j) i h1.symm
 ·obtain⟨c,_,rfl⟩:=mem_map.1 d;exact bf.tyAt_apart (bf.A6 f j) i l.symm
theorem UH(b:Nat)(p:pl.Pln)(x:pl.PA)(s:Jn)(y:JX)(t:Value)(T:TypeId)(f:Ϝ)(j i:Nat)(row:List Cel)(L:List CO)(base:Nat)(d w:ϛ)(h:boxC w b p x s y t)(D:bf.An w b T)(h1:T≠55)(N:T≠103)(u:CG d base t L)(n:Ϟ d w)(F:A4 w d (vS f j i) row)(V:L.length<=1000000):
 η 271 #[μ b,vS f j i] w λe w'=>e= .returned (.tuple #[])/\∃G,boxC w' b p x s y G/\CG w' base G (L++[⟨1,vS f j i,row⟩])/\SD w w' b t:=by
 have ht:=h.told;have z:=u.below n;have B:=z.own;have H:=hV0 h;have I:ϝ (CG d base t L/\Ϟ d w/\A4 w d (vS f j i) row/\bf.An w b T):=⟨u,n,F,D⟩;have X:base<=w.heap.size:=Est.low z;have S:=h.lt;have Y:t.ownBlock≠some b:=λe=>bf.tyAt_apart (bf.A6 B e) D h1.symm rfl;obtain⟨C,A⟩:=nM L.length;have J:ϝ ((L.map CO.pair).length=C):=by show _=_;rw[lMp,A]
 rw[A]at B V;clear u n F h z;go_enter func271,ntmps271;go_wp2_with (at_builtin;refine Gl rfl (.tmp 8) (.tmp 11) rfl base t (L.map CO.pair) 1 f j i w C J.o B ϟ X rfl rfl ?_;intro g K w2 hx c P ab;have q:w2.heap[b]? =w.heap[b]? :=(c.block b Ϥ (λe=>Y e.symm)).trans (Below.heap_alloc _ _ _ S);have l:ϝ (boxC w2 b p x s y t):=IM H.o q;have ac:=l.o.told;have aa:Ξ w2 b 22:=(by have:=(l.o.room 22 Ϡ).2;simpa using this));refine bodyPost_end (v:=.tuple #[]) (by simp[results,results271,go_sem]) rfl ⟨rfl,vS (τ g) (C+1) K,PC l.o _,?_,?_⟩
 ·obtain⟨k1,k2,k3,k4⟩:=I.o;exact QG (CG.add k1 k2 k3 c (by rw[A];exact hx) (λm e=>by
   have M:g=m:=by cases e;rfl
   subst M;exact P.imp id (λe=>by omega))) (bf.AW k4 q) h1 N _ _
 ·refine⟨⟨c.os,c.tape,c.output,by have:=c.size;simp[World.setCell]at this⊢;omega,λk U=>absurd U (Nat.not_lt_zero k)⟩,λm W R Z=>?_,λT' O=>bf.Ao (bf.AW O q) _ _⟩;rw[heap_setCell_other _ _ _ _ (by exact R)];exact(c.block m Ϥ (λe=>Z e.symm)).trans (Below.heap_alloc _ _ _ W)
end jn
namespace jn
open vl bf
variable {p : pl.Pln} {s : Jn} {qs : List Int} {y : Ent} {side : Int} {b : Buf} {r : List Cel} {v : Ev}
structure okJ(p:pl.Pln)(s:Jn):Prop where
 L:okB s.L
 R:okB s.R
 lm:CW s.lm=true
 rm:CW s.rm=true
 sq:0<=s.seq/\s.seq<=1099511627776
 ll:s.L.lim=p.limit
 rl:s.R.lim=p.limit
 below:∀y∈Aa s.L++Aa s.R,y.seq<s.seq
 once:((Aa s.L++Aa s.R).map (·.seq)).Nodup
 rowL:∀y∈Aa s.L,EW p 1 y=true
 rowR:∀y∈Aa s.R,EW p 2 y=true
theorem Cd(h:B6 p s=0):pl.Al p=0/\okJ p s:=by
 unfold B6 at h;by_cases d:pl.Al p=0
 ·rw[if_neg (by simp[d])]at h;by_cases e:Dy s.L=0
  ·rw[if_neg (by simp[e])]at h;by_cases f:Dy s.R=0
   ·rw[if_neg (by simp[f])]at h
    cases h4:Eg s with
    |false=>rw[h4]at h;simp at h
    |true=>
     rw[h4,if_neg ϡ]at h
     cases h5:C4 p s with
     |false=>rw[h5]at h;simp at h
     |true=>
      unfold Eg at h4;unfold C4 at h5;simp only[Bool.and_eq_true]at h4 h5;obtain⟨⟨l,m⟩,g⟩:=h4;obtain⟨⟨⟨⟨n,q⟩,c⟩,i⟩,j⟩:=h5;unfold Ji EC at c;unfold Hr at i j;have c:=of_decide_eq_true c;unfold A8 at g;exact⟨d,Ei e,Ei f,l,m,by simpa using g,of_decide_eq_true n,of_decide_eq_true q,c.1,c.2,all_eq_true.1 i,all_eq_true.1 j⟩
   ·rw[if_pos f]at h;exact absurd h f
  ·rw[if_pos e]at h;exact absurd h e
 ·rw[if_pos d]at h;exact absurd h d
theorem okJ.none(e:pl.Al p=0)(h:okJ p s):B6 p s=0:=by
 have c:Eg s=true:=by
  unfold Eg A8;simp only[Bool.and_eq_true];exact⟨⟨h.lm,h.rm⟩,by simpa using h.sq⟩
 have d:C4 p s=true:=by
  unfold C4 Ji EC Hr;simp only[Bool.and_eq_true];exact⟨⟨⟨⟨decide_eq_true h.ll,decide_eq_true h.rl⟩,decide_eq_true ⟨h.below,h.once⟩⟩,all_eq_true.2 h.rowL⟩,all_eq_true.2 h.rowR⟩
 unfold B6;rw[if_neg (by simp[e]),if_neg (by simp[En h.L]),if_neg (by simp[En h.R]),c,if_neg ϡ,d,if_neg ϡ]
theorem UI(qs:List Int)(y:Ent):Az (metE qs y)=Az y:=by unfold metE;split<;>rfl
theorem IP(qs:List Int)(y:Ent):(metE qs y).seq=y.seq:=by unfold metE;split<;>rfl
theorem Kw(qs:List Int)(y:Ent):(metE qs y).key=y.key:=by unfold metE;split<;>rfl
theorem NP(qs:List Int)(y:Ent):(metE qs y).time=y.time:=by unfold metE;split<;>rfl
theorem Mw(qs:List Int)(y:Ent):(metE qs y).row=y.row:=by unfold metE;split<;>rfl
theorem Adi(qs:List Int)(a b:Ent):ltP (metE qs a) (metE qs b)↔ltP a b:=by
 unfold ltP;rw[Kw,Kw,NP,NP,IP,IP]
theorem Aaw(h:E9 y):E9 (metE qs y):=by
 unfold E9 at *;rw[Kw,Mw,NP,IP];exact h
theorem Aax(h:wfE y/\wfP (Az y)):wfE (metE qs y)/\wfP (Az (metE qs y)):=by
 rw[UI];refine⟨⟨?_,?_,?_⟩,h.2⟩
 ·rw[Kw];exact h.1.key
 ·rw[Mw];exact h.1.row
 ·rw[Mw];exact h.1.len
theorem SG(h:EW p side y=true):EW p side (metE qs y)=true:=by
 unfold EW at *;rw[Kw,Mw];exact h
theorem FI(qs:List Int)(b:Buf):Aa (Cb qs b)=(Aa b).map (metE qs):=by
 unfold Aa partsB Cb;simp[map_flatten]
theorem L1(qs:List Int)(h:okB b):okB (Cb qs b):=by
 refine PU h.lim ?_ ?_ ?_ ?_ ?_ ?_
 ·show(((b.mem.map (metE qs)).length:Nat):Int)<=b.lim;rw[lMp];exact h.mem
 ·rw[FI,lMp];exact h.all
 ·rw[FI];intro y g;obtain⟨z,i,rfl⟩:=mem_map.1 g;exact Aaw (h.entry i)
 ·intro l d;have e:∀m∈partsB b,Dh (m.map (metE qs)):=λm c=>by
   have:=h.rises c;unfold Dh at *;exact pairwise_map.2 (this.imp (λ{a b} k=>(Adi qs a b).2 k))
  rcases mem_cons.1 d with rfl|d
  ·exact e b.mem (mem_cons_self ..)
  ·obtain⟨m,c,rfl⟩:=mem_map.1 d;exact e m (mem_cons_of_mem _ c)
 ·intro r f;obtain⟨m,c,rfl⟩:=mem_map.1 f;rw[lMp];exact h.full m c
 ·rw[FI,map_map];have:(Az∘metE qs)=Az:=funext (UI qs);rw[this];exact h.once
theorem Yt(b:Buf)(y:Ent):(Aa (DN b y)).Perm (y::Aa b):=QY (A9 _)
theorem UJ(h:okB b)(c:E9 y)(hh:bf.hasB (Aa b) (Az y)=false)(d:(Aa b).length≠4096):okB (DN b y):=Wy h c hh d (A9 _) (Iw _)
theorem Aay(b:Buf)(y:Ent):(DN b y).lim=b.lim:=by unfold DN FA;split<;>rfl
structure goodJ(p:pl.Pln)(s:Jn):Prop where
 ok:okJ p s
 wf:∀y∈Aa s.L++Aa s.R,wfE y/\wfP (Az y)
theorem goodJ.of(h:goodJ p s)(side:Int):okB (bufOf s side)/\(∀y∈Aa (bufOf s side),wfE y/\wfP (Az y)):=by
 unfold bufOf;split
 ·exact⟨h.ok.R,λy c=>h.wf y (mem_append.2 (.inr c))⟩
 ·exact⟨h.ok.L,λy c=>h.wf y (mem_append.2 (.inl c))⟩
theorem GM{s':Jn}(h:goodJ p s)(B:okB s'.L)(C:okB s'.R)(G:CW s'.lm=true)(H:CW s'.rm=true)(l:s'.seq=s.seq)(D:s'.L.lim=s.L.lim)(F:s'.R.lim=s.R.lim)
 (u A:Ent->Bool) (m n:List Int) (i:Aa s'.L=((Aa s.L).filter u).map (metE m)) (j:Aa s'.R=((Aa s.R).filter A).map (metE n)):goodJ p s':=by
 have e:∀y∈Aa s'.L,∃z∈Aa s.L,metE m z=y:=λy c=>by
  rw[i]at c;obtain⟨z,d,rfl⟩:=mem_map.1 c;exact⟨z,(mem_filter.1 d).1,rfl⟩
 have f:∀y∈Aa s'.R,∃z∈Aa s.R,metE n z=y:=λy c=>by
  rw[j]at c;obtain⟨z,d,rfl⟩:=mem_map.1 c;exact⟨z,(mem_filter.1 d).1,rfl⟩
 refine⟨⟨B,C,G,H,by rw[l];exact h.ok.sq,by rw[D];exact h.ok.ll,by rw[F];exact h.ok.rl,λy c=>?_,?_,λy c=>?_,λy c=>?_⟩,λy c=>?_⟩
 ·rw[l];rcases mem_append.1 c with c|c
  ·obtain⟨z,d,rfl⟩:=e y c;rw[IP];exact h.ok.below z (mem_append.2 (.inl d))
  ·obtain⟨z,d,rfl⟩:=f y c;rw[IP];exact h.ok.below z (mem_append.2 (.inr d))
 ·have g:∀q,((·.seq)∘metE q:Ent->Int)=(·.seq):=λq=>funext (IP q);rw[i,j,map_append,map_map,map_map,g,g,<-map_append];exact h.ok.once.sublist ((filter_sublist.append filter_sublist).map _)
 ·obtain⟨z,d,rfl⟩:=e y c;exact SG (h.ok.rowL z d)
 ·obtain⟨z,d,rfl⟩:=f y c;exact SG (h.ok.rowR z d)
 ·rcases mem_append.1 c with c|c
  ·obtain⟨z,d,rfl⟩:=e y c;exact Aax (h.wf z (mem_append.2 (.inl d)))
  ·obtain⟨z,d,rfl⟩:=f y c;exact Aax (h.wf z (mem_append.2 (.inr d)))
theorem QH(y:Ent):metE [] y=y:=by unfold metE;simp
theorem FK(l:List Ent):(l.filter λ_=>true).map (metE [])=l:=by
 have:metE []=id:=funext QH;rw[this,map_id];simp
theorem Wm(qs:List Int)(l:List Ent):(l.filter λ_=>true).map (metE qs)=l.map (metE qs):=by
 have:(l.filter λ_=>true)=l:=filter_eq_self.2 (λ_ _=>rfl);rw[this]
theorem L2(f:Ent->Bool)(l:List Ent):(l.filter f).map (metE [])=l.filter f:=by
 have:metE []=id:=funext QH;rw[this,map_id]
theorem Kx(h:goodJ p s)(side:Int)(qs:List Int):goodJ p (Av s side (Cb qs (bufOf s side))):=by
 unfold Av bufOf;by_cases e:side=2
 ·rw[if_pos e,if_pos e];exact GM h h.ok.L (L1 qs h.ok.R) h.ok.lm h.ok.rm rfl rfl rfl (λ_=>true) (λ_=>true) [] qs (FK _).symm (by rw[Wm];exact FI qs _)
 ·rw[if_neg e,if_neg e];exact GM h (L1 qs h.ok.L) h.ok.R h.ok.lm h.ok.rm rfl rfl rfl (λ_=>true) (λ_=>true) qs [] (by rw[Wm];exact FI qs _) (FK _).symm
theorem QI(h:goodJ p s)(side time:Int)(ht:tm.Bc time=true):goodJ p (BS s side time):=by
 have c:CW time=true:=by unfold CW;rw[ht,Bool.or_true]
 unfold BS;split
 ·exact GM h h.ok.L h.ok.R h.ok.lm c rfl rfl rfl (λ_=>true) (λ_=>true) [] [] (FK _).symm (FK _).symm
 ·exact GM h h.ok.L h.ok.R c h.ok.rm rfl rfl rfl (λ_=>true) (λ_=>true) [] [] (FK _).symm (FK _).symm
theorem IQ(h:goodJ p s):goodJ p (dropJ p s):=
 GM (s':=dropJ p s) h (Js _ h.ok.L) (Js _ h.ok.R) h.ok.lm h.ok.rm rfl rfl rfl (Cm (BI p s 1)) (Cm (BI p s 2)) [] [] (by rw[L2];exact I5 _ _) (by rw[L2];exact I5 _ _)
theorem Aaz(h:goodJ p s):goodJ p (NO s):=
 GM (s':=NO s) h h.ok.L (Js _ h.ok.R) h.ok.lm h.ok.rm rfl rfl rfl (λ_=>true) _ [] [] (FK _).symm (by rw[L2];exact I5 _ _)
theorem SH(h:goodJ p s):goodJ p (Bu p s):=by
 unfold Bu;split
 ·exact Aaz (IQ h)
 ·exact IQ h
structure wfV(v:Ev):Prop where
 row:Cj v.row
 len:v.row.length<=χ
theorem AbU(h:pl.hasB p side r=true):pl.Be p side r=0:=by
 unfold pl.hasB at h;simp only[Bool.and_eq_true]at h;exact of_decide_eq_true h.1
theorem NQ{time seq:Int}{met:Bool}(e:pl.hasB p side r=true)(j:Cj r)(ht:tm.Bc time=true)(i:0<=seq/\seq<=1099511627776):E9 ⟨pl.Ap p side r,time,seq,r,met⟩/\(pl.Ap p side r).size<=1048:=by
 have h:=pl.D7 (AbU e);have g:=pl.keys_in (side:=side) h.1;have c:rowOk (pl.Cp p side r):=pl.Q2 ϟ (by rw[h.2.2.1];exact g.1) h.2.2.2.1 j;have m:r.length<=8:=by
  rw[h.2.2.1];have:=pl.DI (pl.Bj h.1).2.2.1;unfold pl.As;split<;>omega
 have d:encR (pl.Cp p side r)=(pl.Ap p side r).data.toList:=by unfold pl.Ap;rw[if_pos e]
 refine⟨⟨⟨_,c,d⟩,?_,ht,i⟩,?_⟩
 ·show A3 r=0;unfold A3;rw[if_neg ϟ];exact h.2.2.2.1
 ·have l:=SY c;have f:=K8 c;have:(pl.Ap p side r).size=(FV (pl.Cp p side r)).size:=by
   show(pl.Ap p side r).data.size=(FV (pl.Cp p side r)).data.size;rw[<-Array.length_toList,<-Array.length_toList,<-d,f]
  omega
theorem L3{l:List Ent}{n:Int}{k:ByteArray}{t:Int}(h:∀y∈l,y.seq<n):bf.hasB l (k,t,n)=false:=by
 unfold bf.hasB;rw[any_eq_false];intro y c e;have:=h y c;have e:=of_decide_eq_true e;unfold Az at e;injection e with _ e
 injection e with _ e
 omega
structure comeJ(p:pl.Pln)(s:Jn)(v:Ev):Prop where
 side:pl.Bz v.side=true
 time:tm.Bc v.time=true
 err:pl.Be p v.side v.row=0
 late:Bs s v.side<v.time
 sq:s.seq≠1099511627776
 few:(Aa (bufOf s v.side)).length≠4096
theorem Mx(h:AB p s v=0)(i:v.kind≠2):comeJ p s v:=by
 unfold AB at h;by_cases d:¬(v.kind=1\/v.kind=2)\/pl.Bz v.side=false
 ·rw[if_pos d]at h;cases h
 ·rw[if_neg d]at h;have j:pl.Bz v.side=true:=by
   cases e:pl.Bz v.side with
   |true=>rfl
   |false=>exact absurd (.inr e) d
  cases h2:tm.Bc v.time with
  |false=>rw[h2]at h;simp at h
  |true=>
   rw[h2,if_neg ϡ,if_neg i]at h;by_cases c:pl.Be p v.side v.row=0
   ·rw[if_neg (by simp[c])]at h;by_cases g:v.time<=Bs s v.side
    ·rw[if_pos g]at h;cases h
    ·rw[if_neg g]at h;by_cases f:s.seq=1099511627776\/(Aa (bufOf s v.side)).length=4096
     ·rw[if_pos f]at h;cases h
     ·exact⟨j,h2,c,ϟ,λe=>f (.inl e),λe=>f (.inr e)⟩
   ·rw[if_pos c]at h;exact absurd h c
theorem QJ(h:AB p s v=0)(g:v.kind=2):pl.Bz v.side=true/\tm.Bc v.time=true/\v.row.length=0/\Bs s v.side<=v.time:=by
 unfold AB at h;by_cases c:¬(v.kind=1\/v.kind=2)\/pl.Bz v.side=false
 ·rw[if_pos c]at h;cases h
 ·rw[if_neg c]at h;have i:pl.Bz v.side=true:=by
   cases e:pl.Bz v.side with
   |true=>rfl
   |false=>exact absurd (.inr e) c
  cases h2:tm.Bc v.time with
  |false=>rw[h2]at h;simp at h
  |true=>
   rw[h2,if_neg ϡ,if_pos g]at h;by_cases d:0<v.row.length
   ·rw[if_pos d]at h;cases h
   ·rw[if_neg d]at h;by_cases f:v.time<Bs s v.side
    ·rw[if_pos f]at h;cases h
    ·exact⟨i,rfl,ϟ,ϟ⟩
theorem side_is(h:pl.Bz side=true):side=1\/side=2:=by unfold pl.Bz at h;simpa using h
theorem L4(h:goodJ p s)(j:comeJ p s v)(B:wfV v)(met:Bool):goodJ p (Er p s v met):=by
 have u:0<=s.seq+1/\s.seq+1<=1099511627776:=by have:=h.ok.sq;have:=j.sq;omega
 unfold Er;by_cases m:pl.hasB p v.side v.row=true/\BI p s v.side<v.time
 ·rw[if_pos m];obtain⟨F,H⟩:=NQ (met:=met) m.1 B.row j.time h.ok.sq;have C:wfE ⟨pl.Ap p v.side v.row,v.time,s.seq,v.row,met⟩/\wfP (Az ⟨pl.Ap p v.side v.row,v.time,s.seq,v.row,met⟩):=by
   refine⟨⟨Nat.le_trans H Ϡ,B.row,B.len⟩,?_⟩;have A:=j.time;unfold tm.Bc at A;have A:=of_decide_eq_true A;have:=h.ok.sq;exact⟨Nat.le_trans H Ϡ,⟨by show _<=v.time;omega,by show v.time<=_;omega⟩,⟨by show _<=s.seq;omega,by show s.seq<=_;omega⟩⟩
  have l:EW p v.side ⟨pl.Ap p v.side v.row,v.time,s.seq,v.row,met⟩=true:=by
   unfold EW;simp only[Bool.and_eq_true];exact⟨⟨decide_eq_true j.err,m.1⟩,ϡ⟩
  have J:bf.hasB (Aa (bufOf s v.side)) (pl.Ap p v.side v.row,v.time,s.seq)=false:=L3 (λy c=>h.ok.below y (by
   unfold bufOf at c;split at c
   ·exact mem_append.2 (.inr c)
   ·exact mem_append.2 (.inl c)))
  have g:=UJ (h.of v.side).1 F J j.few;have d:=Yt (bufOf s v.side) ⟨pl.Ap p v.side v.row,v.time,s.seq,v.row,met⟩;have f:=Aay (bufOf s v.side) ⟨pl.Ap p v.side v.row,v.time,s.seq,v.row,met⟩;have G:s.seq ∉ (Aa s.L++Aa s.R).map (·.seq):=λI=>by
   obtain⟨y,c,e⟩:=mem_map.1 I;have:=h.ok.below y c;omega
  obtain⟨E,q⟩:∃z:Ent,⟨pl.Ap p v.side v.row,v.time,s.seq,v.row,met⟩=z:=⟨_,rfl⟩;have D:E.seq=s.seq:=by rw[<-q]
  rw[q]at F C l g d f⊢;clear q;unfold Av;rcases side_is j.side with e|e
  ·rw[if_neg ϟ];rw[e]at l g d f;rw[e];have n:bufOf s 1=s.L:=by unfold bufOf;rw[if_neg Ϡ]
   rw[n]at g d f⊢;have i:(Aa (DN s.L E)++Aa s.R).Perm (E::(Aa s.L++Aa s.R)):=by
    have:=d.append_right (Aa s.R);simpa using this
   refine⟨⟨g,h.ok.R,h.ok.lm,h.ok.rm,u,by rw[f];exact h.ok.ll,h.ok.rl,λy c=>?_,?_,λy c=>?_,h.ok.rowR⟩,λy c=>?_⟩
   ·show y.seq<s.seq+1;rcases mem_cons.1 (i.mem_iff.1 c)with rfl|c
    ·omega
    ·have:=h.ok.below y c;omega
   ·refine((i.map (·.seq)).nodup_iff).2 ?_;rw[map_cons,nodup_cons,D];exact⟨G,h.ok.once⟩
   ·rcases mem_cons.1 (d.mem_iff.1 c)with rfl|c
    ·exact l
    ·exact h.ok.rowL y c
   ·rcases mem_cons.1 (i.mem_iff.1 c)with rfl|c
    ·exact C
    ·exact h.wf y c
  ·rw[if_pos e];rw[e]at l g d f;rw[e];have n:bufOf s 2=s.R:=by unfold bufOf;rw[if_pos rfl]
   rw[n]at g d f⊢;have i:(Aa s.L++Aa (DN s.R E)).Perm (E::(Aa s.L++Aa s.R)):=by
    have:=d.append_left (Aa s.L);exact this.trans perm_middle
   refine⟨⟨h.ok.L,g,h.ok.lm,h.ok.rm,u,h.ok.ll,by rw[f];exact h.ok.rl,λy c=>?_,?_,h.ok.rowL,λy c=>?_⟩,λy c=>?_⟩
   ·show y.seq<s.seq+1;rcases mem_cons.1 (i.mem_iff.1 c)with rfl|c
    ·omega
    ·have:=h.ok.below y c;omega
   ·refine((i.map (·.seq)).nodup_iff).2 ?_;rw[map_cons,nodup_cons,D];exact⟨G,h.ok.once⟩
   ·rcases mem_cons.1 (d.mem_iff.1 c)with rfl|c
    ·exact l
    ·exact h.ok.rowR y c
   ·rcases mem_cons.1 (i.mem_iff.1 c)with rfl|c
    ·exact C
    ·exact h.wf y c
 ·rw[if_neg m];exact⟨⟨h.ok.L,h.ok.R,h.ok.lm,h.ok.rm,u,h.ok.ll,h.ok.rl,λy c=>by have:=h.ok.below y c;show y.seq<s.seq+1;omega,h.ok.once,h.ok.rowL,h.ok.rowR⟩,h.wf⟩
theorem Ky(c:comeJ p s v)(side:Int)(qs:List Int):comeJ p (Av s side (Cb qs (bufOf s side))) v:=by
 refine⟨c.side,c.time,c.err,?_,?_,?_⟩
 ·have:=c.late;have e:Bs (Av s side (Cb qs (bufOf s side))) v.side=Bs s v.side:=by
   unfold Av;split<;>rfl
  rw[e];exact this
 ·have:=c.sq;unfold Av;split<;>exact this
 ·have:=c.few;unfold Av bufOf at *;by_cases d:side=2<;>by_cases f:v.side=2<;>simp only[d,f,if_true,if_false,FI,lMp]at this⊢ <;>first|exact this|(rw[FI,lMp];exact this)
theorem good_row(h:goodJ p s)(c:comeJ p s v)(d:wfV v):goodJ p (CB p s v).1:=by
 unfold CB;split
 ·split
  ·exact L4 h c d _
  ·have g:bufOf s 1=s.L:=by unfold bufOf;rw[if_neg Ϡ]
   have e:=Kx h 1 ((Cq p s v).map (·.seq));have f:=Ky c 1 ((Cq p s v).map (·.seq));rw[g]at e f;exact L4 e f d _
 ·exact L4 (Kx h _ _) (Ky c _ _) d _
theorem good_step(h:∀y∈Aa s.L++Aa s.R,wfE y/\wfP (Az y))(g:wfV v)(h0:(stepJ p s v).1=0):goodJ p (stepJ p s v).2.1:=by
 unfold stepJ at h0⊢;by_cases d:B6 p s=0
 ·rw[if_neg (by simp[d])]at h0⊢;have f:goodJ p s:=⟨(Cd d).2,h⟩;by_cases c:AB p s v=0
  ·rw[if_neg (by simp[c])]at h0⊢;by_cases e:v.kind=2
   ·rw[if_pos e];exact SH (QI f v.side v.time (QJ c e).2.1)
   ·rw[if_neg e];exact good_row f (Mx c e) g
  ·rw[if_pos c]at h0;exact absurd h0 c
 ·rw[if_pos d]at h0;exact absurd h0 d
end jn
namespace bt
open vl pl
theorem Hj(n:Nat)(w:ϛ)(h1:1<=n)(l:n<=4):
 η 23 #[vI (n:Int)] w λe w'=>(e= .returned (vS (τ w) n n)/\vl.rowAt w' (τ w) (AE n))/\Ϟ w w':=by
 have z:=SA n w ϟ;have j:ϝ (vl.rowAt (ξ w (madeCells #[ω,ω,ϊ] (n * 3)) 103) (τ w) (AE n)):=by
  have d:madeCells #[ω,ω,ϊ] (1 * 3)=#[vI 0,vI 0,.string ⟨#[]⟩]:=Ϣ;have f:madeCells #[ω,ω,ϊ] (2 * 3)=#[vI 0,vI 0,.string ⟨#[]⟩,vI 0,vI 0,.string ⟨#[]⟩]:=Ϣ;have g:madeCells #[ω,ω,ϊ] (3 * 3)=#[vI 0,vI 0,.string ⟨#[]⟩,vI 0,vI 0,.string ⟨#[]⟩,vI 0,vI 0,.string ⟨#[]⟩]:=Ϣ;have h:madeCells #[ω,ω,ϊ] (4 * 3)=#[vI 0,vI 0,.string ⟨#[]⟩,vI 0,vI 0,.string ⟨#[]⟩,vI 0,vI 0,.string ⟨#[]⟩,vI 0,vI 0,.string ⟨#[]⟩]:=Ϣ;clear z;have u:n=1\/n=2\/n=3\/n=4:=ϟ;show vl.rowAt _ _ _;intro i m;have c:i<n:=by simpa[AE]using m
  refine⟨_,_,rfl,?_⟩;have e:(AE n).getD i ϰ=⟨0,0,⟨#[]⟩⟩:=by simp[AE,gDe,c]
  rw[e];have q:i=0\/i=1\/i=2\/i=3:=ϟ;rcases u with rfl|rfl|rfl|rfl<;>rcases q with rfl|rfl|rfl|rfl<;>first|(exact absurd c Ϡ)|((first|rw[d]|rw[f]|rw[g]|rw[h]);clear d f g h;refine⟨?_,?_,?_⟩<;>go_simp)
 clear h1 l;go_enter func23,ntmps23;go_wp2;go_ret;exact⟨⟨rfl,j.o⟩,Ϫ⟩
theorem Kz(m I:Ϝ)(B K:Nat)(f d:List Cel)(w:ϛ)(W:0<d.length)(m1:f.length<=400)(m2:d.length<=400)(h1:vl.rowAt w m f)(C:vl.rowAt w I d):
 η 100 #[vS m f.length B,vS I d.length K] w λe w'=>(∃g L,e= .returned (vS g (f++d).length L)/\A4 w' w (vS g (f++d).length L) (f++d))/\Ϟ w w':=by
 obtain⟨i,M,S,T,U⟩:=info_parts Tryz.infoV;have l:ϝ (Tryz.prog.info? 103=some i/\i.zero=some (.agg #[ω,ω,ϊ])/\i.size=3/\i.bytes=32):=⟨M,S,T,U⟩;clear M S T U;obtain⟨J,X,rfl,_⟩:=C 0 W;have Y:ϝ (∀w',Ϟ w w'->∀j u,(celCells d)[j]? =some u->w'.cell? ((⟨J,X,none⟩:Addr).add j)=some u):=λw' D=>ch.DL (Ac C D);have P:ϝ ((celCells d).length=d.length * 3):=Db d;have H:ϝ (CT 86 #[vS m f.length B] w λe w'=>(∃g c,e= .returned (vS g f.length c)/\A4 w' w (vS g f.length c) f)/\Ϟ w w'):=ch.Aak m B f w h1 ϟ;have A:ϝ (∀w' v,w'.ownsRow w 103 3 v (f.length+d.length) (celCells f++celCells d)->A4 w' w v (f++d)):=λw' v h=>by
  unfold A4;rw[lAp,Km];exact h
 clear h1 C;obtain⟨V,q⟩:∃n,f.length=n:=⟨_,rfl⟩;obtain⟨k2,z⟩:∃n,d.length=n:=⟨_,rfl⟩;have aa:=hV0 q;have ag:=hV0 z;rw[q]at H m1 A;rw[z]at W m2 P A;rw[lAp,q,z];clear q z;go_enter func100,ntmps100;go_wp2_with fail;refine H.o.mono ?_;rintro e w1 ⟨⟨g,c,rfl,N⟩,F⟩;have R:=F.size;have G:ϝ (w1.ownsRow w 103 3 (vS g V c) V (celCells f)):=by have h:=N;unfold A4 at h;rw[aa.o]at h;exact h
 clear N;go_wp2_with (at_builtin;refine wpList_append_own _ rfl (.tmp 6) (.tmp 7) 41 rfl w.heap.size 103 i (.agg #[ω,ω,ϊ]) 3 32 underlying41 l.o.1 l.o.2.1 l.o.2.2.1 l.o.2.2.2 rfl Ϡ _ _ _ rfl G.o ⟨J,X,none⟩ k2 K (celCells d) rfl (by rw[P.o]) (Y.o _ F) (ch.Dw d) ϩ ϟ R ?_;intro v2 w3 O af ah);obtain⟨ab,ac,hv,_⟩:=C0 O;subst hv;have Z:=A.o _ _ O;have ae:=F.grown af R (λb D=>(World.ownsRow.lt G.o b D).1);go_ret;exact⟨⟨ab,ac,rfl,Z⟩,ae⟩
theorem Iy(p:Pln)(x:PA)(w:ϛ):
 η 101 #[Ak p x] w (θ w (.bool (Q4 p))):=by
 unfold Q4;obtain⟨A,c,I,q,O,D,left,right,H,M,n,m,j⟩:=p;obtain⟨B,C,N,J,F,G,K,L,g,l,i,h⟩:=x;unfold Ak;dsimp only;by_cases d:c=2
 ·subst d;go_enter func101,ntmps101;go_wp2;go_ret;exact⟨rfl,Ϫ⟩
 ·by_cases e:c=4
  ·subst e;clear d;go_enter func101,ntmps101;go_wp2;go_ret;exact⟨rfl,Ϫ⟩
  ·have f:ϝ (false=decide (c=2\/c=4)):=by show false=_;simp[d,e]
   have u:(c==2)=false:=by simpa using d
   have z:(c==4)=false:=by simpa using e
   clear d e;go_enter func101,ntmps101;go_wp2;go_ret;exact⟨Ab f.o,Ϫ⟩
theorem SI(p:Pln)(x:PA)(w:ϛ):
 η 190 #[Ak p x] w (θ w (.bool (Q5 p))):=by
 unfold Q5;obtain⟨A,c,I,q,O,D,left,right,H,M,n,m,j⟩:=p;obtain⟨B,C,N,J,F,G,K,L,g,l,i,h⟩:=x;unfold Ak;dsimp only;by_cases d:c=3
 ·subst d;go_enter func190,ntmps190;go_wp2;go_ret;exact⟨rfl,Ϫ⟩
 ·by_cases e:c=4
  ·subst e;clear d;go_enter func190,ntmps190;go_wp2;go_ret;exact⟨rfl,Ϫ⟩
  ·have f:ϝ (false=decide (c=3\/c=4)):=by show false=_;simp[d,e]
   have u:(c==3)=false:=by simpa using d
   have z:(c==4)=false:=by simpa using e
   clear d e;go_enter func190,ntmps190;go_wp2;go_ret;exact⟨Ab f.o,Ϫ⟩
theorem Yu(p:Pln)(x:PA)(l r:Int)(w:ϛ)(h0:Al p=0)(J:p.kind≠3)(q:tm.Bc l=true)(u:tm.Bc r=true):
 η 149 #[Ak p x,vI l,vI r] w (θ w (.bool (GH p l r))):=by
 obtain⟨D,F,_,_,M⟩:=Bj h0;have U:=(tm.Dv l).1 q;have V:=(tm.Dv r).1 u;by_cases i:p.kind=1
 ·have m:GH p l r=tm.D9 l r p.low p.high:=by unfold GH;rw[if_pos i]
  rw[m];unfold tm.D9;clear m D F M h0 J q u;obtain⟨aa,af,n,j,N,ab,left,right,ae,ai,Y,X,T⟩:=p;obtain⟨la,lc,rr,rc,lk,ad,rk,ah,g,W,S,R⟩:=x;unfold Ak;dsimp only at i⊢;subst i;have hw:IntKind.i64.wrap (r - l)=r - l:=by rw[wrapN];omega
  by_cases G:n<=r - l
  ·by_cases H:r - l<=j
   ·have d:ϝ (decide (n<=r - l/\r - l<=j)=true):=decide_eq_true ⟨G,H⟩;rw[d.o];go_enter func149,ntmps149;go_wp2;go_ret;exact⟨rfl,Ϫ⟩
   ·have d:ϝ (decide (n<=r - l/\r - l<=j)=false):=decide_eq_false (λh=>H h.2);rw[d.o];go_enter func149,ntmps149;go_wp2;go_ret;exact⟨rfl,Ϫ⟩
  ·have d:ϝ (decide (n<=r - l/\r - l<=j)=false):=decide_eq_false (λh=>G h.1);rw[d.o];go_enter func149,ntmps149;go_wp2;go_ret;exact⟨rfl,Ϫ⟩
 ·have C:p.kind=2:=by have:=D.1;omega
  have m:GH p l r=decide (tm.start l p.size=tm.start r p.size):=by unfold GH;rw[if_neg i]
  have B:1<=p.size/\p.size<=1099511627776:=by have:=F.2.1;rw[if_pos C]at this;exact this
  have A:=hIz (λt (w1:ϛ) (K:tm.Bc t=true)=>tm.I3 t p.size w1 ((tm.Dv t).1 K).1 ((tm.Dv t).1 K).2 B.1 B.2);have O:=hV0 q;have P:=hV0 u;rw[m];clear m B D F M h0 J i q u U V;obtain⟨c,I⟩:∃f:Int->Int,∀t,tm.start t p.size=f t:=⟨_,λ_=>rfl⟩;simp only[I]at A⊢;clear I;have Z:(c l==c r)=decide (c l=c r):=by by_cases h:c l=c r<;>simp[h]
  obtain⟨z,L⟩:=nM (decide (c l=c r));rw[L]at Z⊢;clear L;obtain⟨aa,af,n,j,N,ab,left,right,ae,ai,Y,X,T⟩:=p;obtain⟨la,lc,rr,rc,lk,ad,rk,ah,g,W,S,R⟩:=x;unfold Ak;dsimp only at C A⊢;subst C;go_enter func149,ntmps149;go_wp2
  go_region_held3 (λw'=>Δ w' w 4 (vI N)) (first|go_keep)
   (first|(go_at_call 148;refine(A.o _ _ (by first|exact O.o|exact P.o)).mono ?_;rintro e w' ⟨rfl,rfl⟩))
  all_goals
   go_wp2;go_ret;exact⟨rfl,by repeat (first|exact bR|apply Below.drew|(refine Below.alloc ?_ Ϧ _))⟩
end bt
end Go.Proofs.YtdohnkkbkfhphaaGreat
