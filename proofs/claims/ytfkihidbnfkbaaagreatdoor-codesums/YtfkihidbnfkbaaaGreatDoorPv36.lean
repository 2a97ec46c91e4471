import Derived.Test.YtfkihidbnfkbaaaGreatDoorPv35
set_option linter.all false
set_option maxHeartbeats 8000000
set_option maxRecDepth 100000
open Go.ChangeShapes Go.WideShapes Go.ChangeAt Go.RowKit List
namespace Go.Proofs.YtfkihidbnfkbaaaGreatDoor
open Go.Proofs.Tryz
namespace jn
open vl bf
attribute [local go_sem] Oper.semAt_some
theorem Pu{w0 w0' w:Ϙ}{s:Jn}{y:JX}{t:Value}{L:List CO}(h:stepAt w0 w s y t L)(a:w0'.heap.size<=w0.heap.size):stepAt w0' w s y t L:=⟨Ci h.l a,Ci h.r a,NU h.cg a⟩
end jn
namespace jn
open vl bf
variable {w w' wr : Ϙ} {s s0 : Jn} {t : TypeId} {base : Nat} {v : Value} {y y0 : JX} {L : List CO}
instance:Inhabited Ev:=⟨⟨0,0,0,[]⟩⟩
abbrev RX:=Option Addr×Nat
def IB(w:World)(a:Option Addr)(l:List Ev)(xs:List RX):Prop:=
 ∀i,i<l.length->∃b off,a=some ⟨b,off,none⟩/\Δ w b (off+i * 4) (vI (l.getD i default).kind)/\Δ w b (off+i * 4+1) (vI (l.getD i default).side)/\
  Δ w b (off+i * 4+1+1) (vI (l.getD i default).time)/\Δ w b (off+i * 4+1+1+1) (vS (xs.getD i (none,0)).1 (l.getD i default).row.length (xs.getD i (none,0)).2)/\evAt w (l.getD i default) (xs.getD i (none,0)).1
theorem Pv{a:ϙ}{l:List Ev}{g:List RX}(h:IB w a l g)(f:ϛ w w'):IB w' a l g:=λi k=>by
 obtain⟨b,m,j,n,o,q,r,u⟩:=h i k;exact⟨b,m,j,cLz f n,cLz f o,cLz f q,cLz f r,u.below f⟩
theorem YA{p:pl.Pln}(h:goodJ p s):wfJ s:=by
 have b:=h.ok.L.all;have f:=h.ok.R.all;have g:=h.ok.sq;exact⟨⟨λy a=>h.wf y (mem_append.2 (.inl a)),Ϝ⟩,⟨λy a=>h.wf y (mem_append.2 (.inr a)),Ϝ⟩,by constructor<;>omega⟩
theorem L6{α β:Type}(f:α->List β)(n:Nat)(b:∀a,(f a).length<=n):∀l:List α,(l.flatMap f).length<=n * l.length
 |[]=>by simp
 |a::l=>by
  have:=L6 f n b l;have:=b a;rw[flatMap_cons,lAp,length_cons,Nat.mul_succ];omega
theorem YB(p:pl.Pln)(s:Jn)(v:Ev)(a:okB s.L)(h:okB s.R):(IQ p s v).length<=10000:=by
 have i:∀fr b,(BF p s v fr b).length<=4096:=λfr b=>Jo (by unfold Aj;split;exact h;exact a);unfold IQ;split
 ·split
  ·unfold Hr;split
   ·simp
   ·split<;>simp
  ·unfold Hs;refine Nat.le_trans (L6 _ 2 (λe=>?_) _) ?_
   ·split
    ·simp
    ·split<;>simp
   ·have f:(DI p s v).length<=4096:=by
     unfold DI;refine Nat.le_trans (length_filter_le ..) ?_;split
     ·unfold CJ;rw[(BC _).length_eq];exact Nat.le_trans (length_filter_le ..) a.all
     ·exact Nat.zero_le _
    omega
 ·rw[Qo];unfold pairT;rw[lAp];have f:=L6 (toldOf p v) 2 (λe=>by unfold toldOf;split<;>simp) (BF p s v (Dy p v) (toJ p v));have j:=i (Dy p v) (toJ p v);have g:∀(c:Prop) [Decidable c] (z:ch.Chg),(if c then [z]else []).length<=1:=λc _ z=>by split<;>simp
  have k:=g ((BF p s v (Dy p v) (toJ p v)).isEmpty=true/\Ct p.mode v.side=true) ⟨1,AW p v.side v.row⟩;omega
theorem Pw(p:pl.Pln)(s:Jn)(v:Ev):(stepJ p s v).2.2.length<=10000:=by
 unfold stepJ;split
 ·simp
 ·rename_i h;split
  ·simp
  ·split
   ·simp
   ·have a:=DD (p:=p) (s:=s) (by simpa using h);rw[SP];exact YB p s v a.2.L a.2.R
def Km(t:TypeId)(w w':World):Prop:=Below 0 w w'/\∀g e,Ae w g e->e≠t->w'.heap[g]? =w.heap[g]?
theorem JD{b w2:Ϙ}{s n:Nat}{m:List Value}(h:b.ownsRow base t s v n m)(a:b.grownBy w2 v.ownBlock):Km t b w2:=⟨⟨a.os,a.tape,a.output,a.size,λk l=>absurd l (Nat.not_lt_zero k)⟩,λg e f j=>a.block g (A6 f) (λi=>tyAt_apart f (Ay h i.symm) j rfl)⟩
def jAt(s0:Jn)(y0:JX)(w wr:World)(s:Jn)(y:JX):Prop:=ϛ w wr/\(((s=s0/\y=y0)/\joinAt w s y)\/(OB wr w.heap.size y.l s.L/\OB wr w.heap.size y.r s.R))
theorem jAt.at(h:jAt s0 y0 w wr s y):joinAt wr s y:=by
 rcases h.2 with a|a
 ·exact a.2.below h.1
 ·exact⟨a.1.at,a.2.at⟩
theorem jAt.below(h:jAt s0 y0 w wr s y)(a:ϛ wr w'):jAt s0 y0 w w' s y:=⟨h.1.trans (a.mono h.1.size),h.2.imp id (λk=>⟨k.1.below a,k.2.below a⟩)⟩
theorem jAt.keep(h:jAt s0 y0 w wr s y)(a:Km t wr w')(l:ϛ w w')(f:t≠166)(i:t≠119)(j:t≠33):jAt s0 y0 w w' s y:=by
 have b:∀{Z:BX} {B:Buf},OB wr w Z B->OB w' w Z B:=λk=>OB.other k a.1.size (λg m=>m.elim (λq=>a.2 g _ q f.symm) (λq=>a.2 g _ q i.symm)) (λg q=>a.2 g _ q j.symm);exact⟨l,h.2.imp id (λk=>⟨b k.1,b k.2⟩)⟩
structure TG(w:World)(base:Nat)(v:Value)(L:List CO):Prop where
 own:w.ownsRow base 217 2 v L.length (ch.Bd (L.map CO.pair))
 rows:∀c∈L,∃bs,AA w bs c.rv c.row
theorem TG.below(h:TG w base v L)(a:ϛ w w'):TG w' base v L:=⟨own_below h.own a,λc b=>by
 obtain⟨bs,k⟩:=h.rows c b;exact⟨bs,own_below k a⟩⟩
theorem TG.keep(h:TG w base v L)(b:Km t w w')(f:t≠217)(i:t≠119):TG w' base v L:=⟨As h.own (λg a=>b.2 g _ (Ay h.own a) f.symm),λc j=>by
 obtain⟨bs,k⟩:=h.rows c j;exact⟨bs,As k (λg a=>b.2 g _ (Ay k a) i.symm)⟩⟩
theorem Aad(w:Ϙ)(base:Nat):TG w base (vS none 0 0) []:=⟨World.ownsRow_nil _ _ _ _,λc a=>absurd a not_mem_nil⟩
theorem CG.rows(h:CG w base v L):∀c∈L,∃bs,AA w bs c.rv c.row:=λc a=>⟨base,bt.Est.own h (BM c.rv c.row) (mem_cons_of_mem _ (mem_map.2 ⟨c,a,rfl⟩))⟩
theorem TG.app{v':Value}{M:List CO}(h:TG w base v L)(f:∀c∈M,∃bs,AA w bs c.rv c.row)(j:Km 217 w w')(l:w'.ownsRow base 217 2 v' (L.length+M.length) (ch.Bd (L.map CO.pair)++ch.Bd (M.map CO.pair))):TG w' base v' (L++M):=by
 refine⟨by rw[lAp,map_append,ch.N5];exact l,λc a=>?_⟩;have b:(∃bs,AA w bs c.rv c.row)->∃bs,AA w' bs c.rv c.row:=λ⟨bs,k⟩=>⟨bs,As k (λg i=>j.2 g _ (Ay k i) ϝ)⟩;rcases mem_append.1 a with a|a
 ·exact b (h.rows c a)
 ·exact b (f c a)
end jn
namespace jn
open Go
variable {P : Program} {w : Ϙ}
theorem K8(base:Nat)(t j e:TypeId)(i:TypeInfo)(size:Nat)(b:P.underlying t=some (.slice e))(a:P.info? e=some i)
 (v:Value) (n:Nat) (k:List Value) (h:w.ownsRow base e size v n k) (ad:ϙ) (c:Nat):
 (Builtin.append_ #[t,t] j #[v,vS ad 0 c]).run P w= .ok v w:=by
 rcases h.2 with⟨rfl,rfl⟩|⟨g,l,m,rfl,_,_,f,_⟩<;>cases ad
 ·simp[Builtin.append_,run_underlying b,sizeOf,typeInfo,a,Builtin.lenOf,Builtin.firstCells]
 ·simp[Builtin.append_,run_underlying b,sizeOf,typeInfo,a,Builtin.lenOf,Builtin.firstCells,loadCells,loadCellsFrom]
 ·simp[Builtin.append_,run_underlying b,sizeOf,typeInfo,a,Builtin.lenOf,Builtin.firstCells,f,storeCells]
 ·simp[Builtin.append_,run_underlying b,sizeOf,typeInfo,a,Builtin.lenOf,Builtin.firstCells,f,storeCells,loadCells,loadCellsFrom]
theorem Ik{b:Array Oper}{rest:List Oper}{o:Oper}{a:Act}{Q:Exit->Act->World->Prop}(j:o.guard=none)(s x:Operand)(t:TypeId)
 (l:o.op= .call {callee:=.builtin .append,args:=#[s,x],argTypes:=#[t,t]})
 (base:Nat) (e:TypeId) (i:TypeInfo) (size:Nat) (u:P.underlying t=some (.slice e)) (k:P.info? e=some i)
 (v:Value) (n:Nat) (f:List Value) (r:a.eval s=v) (m:w.ownsRow base e size v n f) (ad:ϙ) (c:Nat) (z:a.eval x=vS ad 0 c)
 (h:wpList P b Q rest (a.put o.dst v) w):wpList P b Q (o::rest) a w:=by
 refine wpList_plain j λK g=>?_;have q:=K8 (P:=P) (w:=w) base t o.type e i size u k v n f m ad c;unfold Oper.wp;simp[execOp,l,resolve,invoke,builtin,r,z,q,Result.andThen];exact g _ _ h
end jn
namespace jn
open vl bf
variable {w w' : Ϙ}
theorem Ua{b:Nat}{s:Jn}{y:JX}(h:BS w b s y)(g:w'.heap[b]? =w.heap[b]?):BS w' b s y:=by
 have f:∀{i:Nat} {v:Value},Δ w b i v->Δ w' b i v:=λ{i v} j=>(cOb (w:=w) (a:=⟨b,i,none⟩) g).trans j;obtain⟨u0,u1,u2,u3,u4,u5,u6,u7,u8⟩:=h;exact⟨f u0,f u1,f u2,f u3,f u4,f u5,f u6,f u7,f u8⟩
theorem Px{base:Nat}{e:TypeId}{s n:Nat}{v:Value}{i:List Value}(h:w.ownsRow base e s v n i)(a:w.grownBy w' v.ownBlock)(f:base<=w.heap.size):Below base w w':=
 ⟨a.os,a.tape,a.output,a.size,λk g=>a.block k (Nat.lt_of_lt_of_le g f) (λb=>by have:=(ch.A5 h b.symm).1;omega)⟩
theorem Py{S:Array Oper}{rest:List Oper}{o:Oper}{a:Act}{Q:Exit->Act->World->Prop}(D:o.guard=none)(s x:Operand)
 (G:o.op= .call {callee:=.builtin .append,args:=#[s,x],argTypes:=#[53,53]})
 (base U:Nat) (v t:Value) (L M:List CO) (b:Ϙ) (I:a.eval s=v) (O:a.eval x=t) (f:TG b base v L) (A:CG b U t M) (hl:L.length+M.length<=1000000000) (C:base<=b.heap.size)
 (h:∀T w2,TG w2 base T (L++M)->Km 217 b w2->Below base b w2->wpList Tryz.prog S Q rest (a.put o.dst T) w2):
 wpList Tryz.prog S Q (o::rest) a b:=by
 obtain⟨R,E,Z,aa,ab⟩:=info_parts ch.WW;have q:=CG.own A;have H:=CG.rows A;rcases Nat.eq_zero_or_pos M.length with i|i
 ·obtain rfl:=length_eq_zero_iff.1 i;have r:∃l c,t=vS l 0 c:=by
   rcases q.2 with⟨rfl,_⟩|⟨g,m,V,rfl,_⟩
   ·exact⟨_,_,rfl⟩
   ·exact⟨_,_,rfl⟩
  obtain⟨l,c,rfl⟩:=r;refine Ik D s x 53 G base 217 R 2 underlying53 E v L.length _ I f.own l c O ?_;exact h v b (by rw[append_nil];exact f) ⟨bR,λ_ _ _ _=>rfl⟩ bR
 ·obtain⟨g,m,rfl,ae,af⟩:=World.ownsRow.form q i;have Y:∀u∈ch.Bd (M.map CO.pair),u.oneCell'=true:=ch.U9 (λz r=>by
   obtain⟨c,X,rfl⟩:=mem_map.1 r;obtain⟨bs,k⟩:=H c X;rcases k.2 with⟨k,_⟩|⟨g,m,V,k,_⟩<;>(show c.rv.oneCell'=true;rw[k];rfl))
  have F:(ch.Bd (M.map CO.pair)).length=M.length * 2:=by rw[ch.U8,lMp]
  refine wpList_append_lies _ D s x 53 G base 217 R (.agg #[ω,ψ]) 2 32 underlying53 E Z aa ab rfl ϝ v L.length _ I f.own
   ⟨g,0,none⟩ M.length m (ch.Bd (M.map CO.pair)) O F (λj u J=>?_) Y i Ϧ Ϝ C b.heap.size rfl ?_
  ·rw[ch.addr_add,Nat.zero_add,q.cellAt j (by rw[<-F];exact(List.getElem?_eq_some_iff.1 J).1)];exact J
  ·intro g' ac w2 W n h4 h5;exact h _ w2 (f.app H (JD f.own n) W) (JD f.own n) (Px f.own n C)
end jn
namespace jn
open vl bf
attribute [local go_sem] Oper.semAt_some
variable {p : pl.Pln}
theorem JF(h:pl.An p=0):Cv p=⟨⟨p.limit,[],[]⟩,⟨p.limit,[],[]⟩,noMark,noMark,0⟩:=if_pos h
theorem Og(h:pl.An p=0)(w:Ϙ):joinAt w (Cv p) jx0:=by
 rw[JF h];exact jAt.at (s0:=j0) (y0:=jx0) (w:=w) (wr:=w) ⟨bR,.inr ⟨Dg (DV nR),Dg (DV nR)⟩⟩
theorem TG.mono{w:Ϙ}{base a:Nat}{v:Value}{L:List CO}(h:TG w base v L)(b:a<=base):TG w a v L:=⟨World.ownsRow.mono h.own b,h.rows⟩
end jn
namespace jn
open vl bf
variable {p : pl.Pln} {s : Jn} {v : Ev} {K : ByteArray}
def rw2(a b:Int):List Cel:=[⟨2,a,⟨#[]⟩⟩,⟨2,b,⟨#[]⟩⟩]
theorem Dd{a b:Int}(ha: -9223372036854775808<=a/\a<=9223372036854775807)(g: -9223372036854775808<=b/\b<=9223372036854775807):Cb (rw2 a b):=by
 intro c f;simp only[rw2,mem_cons,not_mem_nil,or_false]at f;rcases f with rfl|rfl
 ·exact⟨ha,Nat.zero_le _⟩
 ·exact⟨g,Nat.zero_le _⟩
def ev1:Ev:=⟨1,1,1,rw2 7 1⟩
def ev2:Ev:=⟨1,2,2,rw2 7 2⟩
def ev3:Ev:=⟨2,1,4,[]⟩
def ev4:Ev:=⟨1,1,4,rw2 7 3⟩
def ev5:Ev:=⟨1,1,5,rw2 7 4⟩
def Il:List Ev:=[ev1,ev2,ev3,ev4,ev5]
structure begP(p:pl.Pln)(K:ByteArray):Prop where
 err:pl.An p=0
 kind:p.kind=1
 mode:p.mode=4
 low:p.low= -5
 high:p.high=5
 limit:p.limit=2
 l:(pl.AF p 1).length=2
 r:(pl.AF p 2).length=2
 e1:pl.Bg p 1 (rw2 7 1)=0
 e2:pl.Bg p 2 (rw2 7 2)=0
 e3:pl.Bg p 1 (rw2 7 3)=0
 e4:pl.Bg p 1 (rw2 7 4)=0
 h1:pl.hasB p 1 (rw2 7 1)=true
 h2:pl.hasB p 2 (rw2 7 2)=true
 h4:pl.hasB p 1 (rw2 7 4)=true
 k1:pl.Ar p 1 (rw2 7 1)=K
 k2:pl.Ar p 2 (rw2 7 2)=K
 k4:pl.Ar p 1 (rw2 7 4)=K
 gone:pl.Nt p 2 4= -1
theorem Rn:begP pl.Fo (pl.Ar pl.Fo 1 (rw2 7 1)):=⟨pl.CE,rfl,rfl,rfl,rfl,rfl,rfl,rfl,ϟ,ϟ,ϟ,ϟ,ϟ,ϟ,ϟ,rfl,ϟ,ϟ,ϟ⟩
theorem Pz{n:Int}(h:1<=n/\n<=64):okB ⟨n,[],[]⟩:=⟨h,ϡ,by simp[Ab,partsB],by simp[partsB],by simp[partsB],Ϟ,by simp[Ab,partsB]⟩
theorem good_start(h:pl.An p=0):goodJ p (Cv p):=by
 have b:=(pl.BI h).2.1.2.2;have e0:Ab ⟨p.limit,[],[]⟩=[]:=by simp[Ab,partsB]
 rw[JF h];refine⟨⟨Pz b,Pz b,by simp[Ex],by simp[Ex],Ϟ,rfl,rfl,?_,?_,?_,?_⟩,?_⟩
 ·intro y a;rw[e0]at a;cases a
 ·rw[e0];exact nodup_nil
 ·intro y a;rw[e0]at a;cases a
 ·intro y a;rw[e0]at a;cases a
 ·intro y a;rw[e0]at a;cases a
theorem DU(a:pl.An p=0)(h:goodJ p s)(v:Ev):stepJ p s v=if A9 p s v≠0 then(A9 p s v,j0,[])else if v.kind=2 then(0,Cy p (DN s v.side v.time),[])else(0,Gr p s v):=by
 have e:Bh p s=0:=h.ok.none a;unfold stepJ;rw[if_neg (by rw[e];exact λk=>k rfl)]
def St1(K:ByteArray):Jn:=⟨⟨2,[⟨K,1,0,rw2 7 1,false⟩],[]⟩,⟨2,[],[]⟩,noMark,noMark,1⟩
def St2(K:ByteArray):Jn:=⟨⟨2,[⟨K,1,0,rw2 7 1,true⟩],[]⟩,⟨2,[⟨K,2,1,rw2 7 2,true⟩],[]⟩,noMark,noMark,2⟩
def St3(K:ByteArray):Jn:=⟨⟨2,[⟨K,1,0,rw2 7 1,true⟩],[]⟩,⟨2,[⟨K,2,1,rw2 7 2,true⟩],[]⟩,4,noMark,2⟩
def ch1:ch.Chg:=⟨1,rw2 7 1++bt.C9 2⟩
def ch2:ch.Chg:=⟨3,rw2 7 1++bt.C9 2⟩
def ch3:ch.Chg:=⟨4,rw2 7 1++rw2 7 2⟩
def ch4:ch.Chg:=⟨1,rw2 7 4++rw2 7 2⟩
theorem Ub:DO []=[]:=by simp[DO]
theorem IC(y:Ent):DO [y]=[y]:=by simp[DO]
theorem FU{side:Int}(h:Bs s (3 - side)=noMark):Cw p s side=noMark:=if_pos h
theorem L8(met:Bool)(a:pl.hasB p v.side v.row=true)(b:Cw p s v.side<v.time):DJ p s v met=⟨(A7 s v.side (C1 (Aj s v.side) ⟨pl.Ar p v.side v.row,v.time,s.seq,v.row,met⟩)).L,(A7 s v.side (C1 (Aj s v.side) ⟨pl.Ar p v.side v.row,v.time,s.seq,v.row,met⟩)).R,(A7 s v.side (C1 (Aj s v.side) ⟨pl.Ar p v.side v.row,v.time,s.seq,v.row,met⟩)).lm,(A7 s v.side (C1 (Aj s v.side) ⟨pl.Ar p v.side v.row,v.time,s.seq,v.row,met⟩)).rm,(A7 s v.side (C1 (Aj s v.side) ⟨pl.Ar p v.side v.row,v.time,s.seq,v.row,met⟩)).seq+1⟩:=by
 unfold DJ;rw[if_pos ⟨a,b⟩]
def St0:Jn:=⟨⟨2,[],[]⟩,⟨2,[],[]⟩,noMark,noMark,0⟩
theorem ID(y:Ent):C1 ⟨2,[],[]⟩ y=⟨2,[y],[]⟩:=by
 unfold C1;rw[show DO (([]:List Ent)++[y])=[y]from IC y];rfl
theorem IE(a:p.kind=1):Gr p s v=(DJ p (BK p s v) v (!(partners p s v).isEmpty),Cn p s v):=by
 unfold Gr;rw[if_neg (by rw[a];decide)]
theorem L9(side:Int):Ct 4 side=true:=rfl
theorem Aae(h:begP p K):stepJ p (Cv p) ev1=(0,St1 K,[ch1]):=by
 rw[DU h.err (good_start h.err),JF h.err,h.limit];show(if A9 p St0 ev1≠0 then(A9 p St0 ev1,j0,[])else if ev1.kind=2 then(0,Cy p (DN St0 ev1.side ev1.time),[])else(0,Gr p St0 ev1))=_;have e:A9 p St0 ev1=0:=by
  simp[A9,ev1,pl.Bf,tm.Bm,h.e1,Bs,noMark,Aj,Ab,partsB,St0]
 have a:partners p St0 ev1=[]:=by
  simp[partners,ev1,h.h1,CJ,Aj,Ab,partsB,Ub,St0]
 have b:BK p St0 ev1=St0:=by
  unfold BK;rw[a];rfl
 rw[if_neg (by rw[e];exact λk=>k rfl),if_neg ϝ,IE h.kind,b,a,L8 _ h.h1 (by rw[FU rfl];decide)];unfold Cn;rw[a,h.mode];show(0,_,_)=_;have f:pl.Ar p ev1.side ev1.row=K:=h.k1;rw[f];simp only[ev1,Aj,A7,St0,ID,L9,AW,AX];simp[St1,ch1,h.r,ID]
theorem S9(h:begP p K):goodJ p (St1 K):=by
 have:=good_step (p:=p) (s:=Cv p) (v:=ev1) (good_start h.err).wf ⟨Dd ϝ ϝ,ϝ⟩ (by rw[Aae h]);rw[Aae h]at this;exact this
theorem Aaf(h:begP p K):stepJ p (St1 K) ev2=(0,St2 K,[ch2,ch3]):=by
 rw[DU h.err (S9 h)];have e:A9 p (St1 K) ev2=0:=by
  simp[A9,ev2,pl.Bf,tm.Bm,h.e2,Bs,noMark,Aj,Ab,partsB,St1]
 have a:partners p (St1 K) ev2=[⟨K,1,0,rw2 7 1,false⟩]:=by
  simp[partners,ev2,h.h2,CJ,Aj,Ab,partsB,IC,St1,h.k2,Dy,toJ,h.kind,h.low,h.high]
 have b:BK p (St1 K) ev2=⟨⟨2,[⟨K,1,0,rw2 7 1,true⟩],[]⟩,⟨2,[],[]⟩,noMark,noMark,1⟩:=by
  unfold BK;rw[a];rfl
 rw[if_neg (by rw[e];exact λk=>k rfl),if_neg ϝ,IE h.kind,b,a,L8 _ h.h2 (by rw[FU rfl];decide)];unfold Cn;rw[a,h.mode];have f:pl.Ar p ev2.side ev2.row=K:=h.k2;rw[f];simp only[ev2,Aj,A7,ID,L9,AW,AX];simp[St2,ch2,ch3,h.r,ID]
theorem SA(h:begP p K):goodJ p (St2 K):=by
 have:=good_step (p:=p) (s:=St1 K) (v:=ev2) (S9 h).wf ⟨Dd ϝ ϝ,ϝ⟩ (by rw[Aaf h]);rw[Aaf h]at this;exact this
theorem Aag(h:begP p K):stepJ p (St2 K) ev3=(0,St3 K,[]):=by
 rw[DU h.err (SA h)];have e:A9 p (St2 K) ev3=0:=by
  simp[A9,ev3,pl.Bf,tm.Bm,Bs,noMark,St2]
 rw[if_neg (by rw[e];exact λk=>k rfl),if_pos (show ev3.kind=2 from rfl)];have a:Cw p (St3 K) 1=noMark:=FU rfl;have b:Cw p (St3 K) 2= -1:=by
  unfold Cw;rw[if_neg (show Bs (St3 K) (3 - 2)≠noMark from show(4:Int)≠noMark by decide)];exact h.gone
 have f:DN (St2 K) ev3.side ev3.time=St3 K:=rfl;rw[f];simp only[Cy,h.kind,Fs,a,b];simp[St3,CF,D6,noMark,Dt]
theorem LA(h:begP p K):goodJ p (St3 K):=by
 have:=good_step (p:=p) (s:=St2 K) (v:=ev3) (SA h).wf ⟨λc a=>(by cases a),ϝ⟩ (by rw[Aag h]);rw[Aag h]at this;exact this
theorem beg4(h:begP p K):stepJ p (St3 K) ev4=(7,j0,[]):=by
 rw[DU h.err (LA h)];have e:A9 p (St3 K) ev4=7:=by
  simp[A9,ev4,pl.Bf,tm.Bm,h.e3,Bs,noMark,St3]
 rw[if_pos (by rw[e];decide),e]
theorem beg5(h:begP p K):∃s,stepJ p (St3 K) ev5=(0,s,[ch4])/\s.lm=4/\s.rm=noMark/\s.seq=3/\goodJ p s:=by
 have e:A9 p (St3 K) ev5=0:=by
  simp[A9,ev5,pl.Bf,tm.Bm,h.e4,Bs,noMark,Aj,Ab,partsB,St3]
 have f:partners p (St3 K) ev5=[⟨K,2,1,rw2 7 2,true⟩]:=by
  simp[partners,ev5,h.h4,CJ,Aj,Ab,partsB,IC,St3,h.k4,Dy,toJ,h.kind,h.low,h.high]
 have a:stepJ p (St3 K) ev5=(0,Gr p (St3 K) ev5):=by
  rw[DU h.err (LA h),if_neg (by rw[e];exact λk=>k rfl),if_neg ϝ]
 have i:(Gr p (St3 K) ev5).2=[ch4]:=by
  simp only[Gr,h.kind,Cn,f];simp[ev5,Ct,h.mode,AX,ch4]
 have b:(Gr p (St3 K) ev5).1=DJ p (BK p (St3 K) ev5) ev5 true:=by
  simp only[Gr,h.kind,f];simp
 have g:=good_step (p:=p) (s:=St3 K) (v:=ev5) (LA h).wf ⟨Dd ϝ ϝ,ϝ⟩ (by rw[a]);refine⟨(Gr p (St3 K) ev5).1,?_,?_,?_,?_,?_⟩
 ·rw[a,<-i]
 ·rw[b];unfold DJ;dsimp only;split<;>simp[A7,BK,ev5,St3]
 ·rw[b];unfold DJ;dsimp only;split<;>simp[A7,BK,ev5,St3]
 ·rw[b];unfold DJ;dsimp only;split<;>simp[A7,BK,ev5,St3]
 ·rw[a]at g;exact g
end jn
namespace jn
open vl bf
attribute [local go_sem] Oper.semAt_some
variable {w : Ϙ} {N : Nat} {e : Eng}
structure stepEAt(w0 w':World)(e:Eng)(y:EX)(t:Value)(L:List CO):Prop where
 l:OB w' w0.heap.size y.y.l e.j.L
 r:OB w' w0.heap.size y.y.r e.j.R
 cg:CG w' w0.heap.size t L
 v:ch.VO w' w0.heap.size (vS y.va e.v.length y.vc) e.v
theorem CN:calmT 42:=⟨ϝ,ϝ,ϝ⟩
theorem Nq{g:Nat}{T:TypeId}{t:TypeId}(a:Ae w N T)(b:Ae w g t)(h:t≠T)(o:Nat)(u:Value):(w.setCell ⟨N,o,none⟩ u).heap[g]? =w.heap[g]? :=heap_setCell_other _ _ _ _ (tyAt_apart b a h)
theorem LC{base N:Nat}{v:Value}{L:List CO}:∀(l:List Value) (o:Nat) (w:Ϙ),CG w base v L->Ae w N 42->CG (w.setCells N o l) base v L
 |[],_,_,h,_=>h
 |u::l,o,w,h,hN=>LC l (o+1) _ (MG h hN ϝ ϝ o u) (Ai hN _ _)
theorem EF{base N:Nat}{v:Value}{out:List ch.Cnt}:∀(l:List Value) (o:Nat) (w:Ϙ),ch.VO w base v out->Ae w N 42->ch.VO (w.setCells N o l) base v out
 |[],_,_,h,_=>h
 |u::l,o,w,h,hN=>EF l (o+1) _ (h.other (λg a=>a.elim (λk=>Nq hN k ϝ o u) (λk=>Nq hN k ϝ o u))) (Ai hN _ _)
theorem FV{w0:Ϙ}{y:EX}{t:Value}{L:List CO}(h:stepEAt w0 w e y t L)(a:Ae w N 42)(l:List Value)(o:Nat):stepEAt w0 (w.setCells N o l) e y t L:=⟨Bj CN _ _ _ h.l a,Bj CN _ _ _ h.r a,LC _ _ _ h.cg a,EF _ _ _ h.v a⟩
theorem Oh(w0:Ϙ)(h:w0.heap.size<=w.heap.size):stepEAt w0 w e0 ex0 (vS none 0 0) []:=⟨Dg (DV h),Dg (DV h),CG.start h,ch.VO.nil h⟩
def Eh(p:pl.Pln)(e:Eng)(v:Ev)(r:Int×Eng×List ch.Chg):Prop:=CV p e=0/\(((stepJ p e.j v).1≠0/\r=((stepJ p e.j v).1,e0,[]))\/
 ((stepJ p e.j v).1=0/\ch.AV (stepJ p e.j v).2.2=0/\ch.EN (stepJ p e.j v).2.2/\(∀i,i<(stepJ p e.j v).2.2.length->ch.I3 (ch.AM e.v) (stepJ p e.j v).2.2 i=0)/\
   ∃out,ch.AM out=ch.atK (ch.AM e.v) (stepJ p e.j v).2.2 (stepJ p e.j v).2.2.length/\(∀c∈out,rowOk c.r)/\r=(0,⟨(stepJ p e.j v).2.1,out⟩,(stepJ p e.j v).2.2)))
theorem IF{p:pl.Pln}(h:CV p e=0):Bh p e.j=0/\ch.A4 e.v=0:=by
 unfold CV at h;split at h
 ·rename_i k;exact absurd h k
 ·rename_i k;split at h
  ·rename_i a;exact absurd h a
  ·rename_i a;exact⟨Decidable.not_not.1 k,Decidable.not_not.1 a⟩
theorem Uc(p:pl.Pln)(x:pl.PA)(e:Eng)(y:EX)(v:Ev)(R:ϙ)(rc:Nat)(r:Int×Eng×List ch.Chg)(w:Ϙ)(hw:pl.wfPlan p)(hp:pl.planAt w p x)(hg:p.grouped=false)(h:enAt w e y)(Z:wfEn e)(hv:evAt w v R)(hr:Eh p e v r):
 η 48 #[pl.Aq p x,enV e y,evV v R rc] w λo w'=>(∃a t L,o= .returned (.tuple #[enV r.2.1 a,t,vI r.1])/\L.map CO.chg=r.2.2/\stepEAt w w' r.2.1 a t L)/\ϛ w w':=by
 have KC:Ϛ (∀j,ϛ w j->CT 27 #[pl.Aq p x,enV e y] j (θ j (vI 0))):=λj H=>by
  have:=Iy p x e y j hw (pl.Ag hp H) hg (h.below H) Z;rw[hr.1]at this;exact this
 have G:=hIz (λ(j:Ϙ) (H:ϛ w j)=>VB p x e.j y.y v R rc j hw (pl.Ag hp H) (h.j.below H) Z.j (hv.below H));have KF:Ϛ (∀j J O tn,ϛ w j->ch.EL j J (stepJ p e.j v).2.2->tn=(stepJ p e.j v).2.2.length->ch.EN (stepJ p e.j v).2.2->tn<=9223372036854775807->CT 98 #[vS y.va e.v.length y.vc,vS J tn O] j λo w'=>ch.Pp j.heap.size e.v (stepJ p e.j v).2.2 o w'/\ϛ j w'):=λj J O tn H hc hn bb hl=>by
  subst hn;exact ch.TS y.va J y.vc O e.v _ j (ch.BJ h.v H) Z.v Z.n hc bb hl
 have ak:Ϛ (ch.A4 e.v=0):=(IF hr.1).2;have HG:=hqz hg;have ae:Ϛ ((stepJ p e.j v).2.2.length<=10000):=Pw p e.j v;obtain⟨ST,am⟩:=nM (stepJ p e.j v);have M:Ϛ _:=hr.2;replace M:=M.o;rw[am]at G KF M ae;obtain⟨X,b,W⟩:=ST;dsimp only at G KF M ae;clear hg;clear hw hp h Z hv am hr;unfold pl.Aq at KC G⊢;rw[Cq]at KC⊢;rw[AP]at G;unfold evV at G⊢;obtain⟨kd,ar⟩:=nM v.kind;obtain⟨sd,ax⟩:=nM v.side;obtain⟨ai,a1⟩:=nM v.time;obtain⟨rl,av⟩:=nM v.row.length;rw[ar,ax,a1,av]at G⊢;clear ar ax a1 av;go_enter func48,ntmps48;go_upto_region 1 with fail;generalize Q:(World.alloc (World.alloc (World.alloc (World.alloc w _) _) _) _)=V;have ah:ϛ w V:=by rw[<-Q];exact((ϧ.alloc Ϟ _).alloc ϣ _).alloc ϣ _
 have u:Ϛ (Bp V w p x):=by
  subst Q;exact Ak (CH ..) ((ϧ.alloc Ϟ _).alloc ϣ _)
 have q:Ϛ (Bn V (w.heap.size+1) e y):=by
  subst Q;have:=Cg (ξ w (Φ p x) 32) e y 42;rw[World.size_alloc]at this;exact AH this (ϧ.alloc Ϟ _)
 have HV:Ϛ (ύ V (w+1+1) (vI kd) (vI sd) (vI ai) (vS R rl rc)):=by
  subst Q;refine⟨?_,?_,?_,?_⟩<;>go_simp
 have l:Ϛ (DL V (w.heap.size+1+1+1)/\Ae V (w+1+1+1) 42):=by
  subst Q;have h1:=E9 (ξ (ξ (ξ w (Φ p x) 32) #[vI e.j.L.lim,vS y.y.l.m.1.1 y.y.l.m.1.2.1 y.y.l.m.1.2.2,vS y.y.l.ra y.y.l.rs.length y.y.l.rc,vI e.j.R.lim,vS y.y.r.m.1.1 y.y.r.m.1.2.1 y.y.r.m.1.2.2,vS y.y.r.ra y.y.r.rs.length y.y.r.rc,vI e.j.lm,vI e.j.rm,vI e.j.seq,ψ,vS y.va e.v.length y.vc] 42) #[vI kd,vI sd,vI ai,vS R rl rc] 90);have h2:=World.alloc_heap_new (ξ (ξ (ξ w (Φ p x) 32) #[vI e.j.L.lim,vS y.y.l.m.1.1 y.y.l.m.1.2.1 y.y.l.m.1.2.2,vS y.y.l.ra y.y.l.rs.length y.y.l.rc,vI e.j.R.lim,vS y.y.r.m.1.1 y.y.r.m.1.2.1 y.y.r.m.1.2.2,vS y.y.r.ra y.y.r.rs.length y.y.r.rc,vI e.j.lm,vI e.j.rm,vI e.j.seq,ψ,vS y.va e.v.length y.vc] 42) #[vI kd,vI sd,vI ai,vS R rl rc] 90) (.cells #[ω,ψ,ψ,ω,ψ,ψ,ω,ω,ω,ψ,ψ] 42);rw[World.size_alloc,World.size_alloc,World.size_alloc]at h1 h2;exact⟨h1,_,_,h2⟩
 clear Q;obtain⟨v0,v1,v2,v3,v4,v5,v6,v7,v8,v9,S,aa,ab⟩:=u.o;obtain⟨u0,u1,u2,u3,u4,u5,u6,u7,u8,u9,u10⟩:=q.o;go_wp2_with fail;refine(KC.o _ ah).mono ?_;rintro o1 j ⟨rfl,z⟩;have m:ϛ w j:=bT ah z;replace u:Ϛ (Bp j w p x):=Ak u.o z;replace q:Ϛ (Bn j (w.heap.size+1) e y):=AH q.o z;replace l:Ϛ (DL j (w.heap.size+1+1+1)/\Ae j (w+1+1+1) 42):=⟨Be l.o.1 z,Ad l.o.2 z⟩;obtain⟨f0,f1,f2,f3⟩:=HV.o;replace f0:=cLz z f0;replace f1:=cLz z f1;replace f2:=cLz z f2;replace f3:=cLz z f3;clear v0 v1 v2 v3 v4 v5 v6 v7 v8 v9 S aa ab u0 u1 u2 u3 u4 u5 u6 u7 u8 u9 u10 z ah KC HV;obtain⟨v0,v1,v2,v3,v4,v5,v6,v7,v8,v9,S,aa,ab⟩:=u.o;obtain⟨u0,u1,u2,u3,u4,u5,u6,u7,u8,u9,u10⟩:=q.o;go_wp2_with fail;refine(G.o _ m).mono ?_;rintro o2 w2 ⟨⟨a,t,L,rfl,hl,ay⟩,Y⟩;have a9:=m.size;replace m:ϛ w w2:=bT m Y;have HL:=hqz hl;replace u:Ϛ (Bp w2 w p x):=Ak u.o Y;replace q:Ϛ (Bn w2 (w.heap.size+1) e y):=AH q.o Y;replace l:Ϛ (DL w2 (w.heap.size+1+1+1)/\Ae w2 (w+1+1+1) 42):=⟨Be l.o.1 Y,Ad l.o.2 Y⟩;have A:Ϛ (stepAt w w2 b a t L):=Pu ay a9;clear v0 v1 v2 v3 v4 v5 v6 v7 v8 v9 S aa ab u0 u1 u2 u3 u4 u5 u6 u7 u8 u9 u10 f0 f1 f2 f3 hl ay G;rw[AP];have a5:Ϛ (L.length<=10000):=by show L.length<=10000;rw[<-lMp (f:=CO.chg),HL.o];exact ae.o
 go_upto_region 5 with fail;generalize ag:(World.alloc w2 _)=n;have C:ϛ w2 n:=by rw[<-ag];exact ϧ
 have aj:Ϛ (BS n w2 b a):=by
  subst ag;exact Ck ..
 clear ag;replace m:ϛ w n:=bT m C;replace q:Ϛ (Bn n (w.heap.size+1) e y):=AH q.o C;replace u:Ϛ (Bp n w p x):=Ak u.o C;replace l:Ϛ (DL n (w.heap.size+1+1+1)/\Ae n (w+1+1+1) 42):=⟨Be l.o.1 C,Ad l.o.2 C⟩;replace A:Ϛ (stepAt w n b a t L):=⟨A.o.l.below C,A.o.r.below C,A.o.cg.below C⟩;have ht:=CG.chgs A.o.cg;by_cases h0:X=0
 rotate_left
 ·have bc:(X !=0)=true:=by simpa using h0
  obtain⟨_,rfl⟩:X≠0/\r=(X,e0,[]):=M.elim id (λk=>absurd k.1 h0);clear ht;go_upto_region 6 with fail;have U:Ϛ (stepEAt w (World.setCells n (w.heap.size+1+1+1) 0 [ω,ψ,ψ,ω,ψ,ψ,ω,ω,ω,ψ,ψ]) e0 ex0 (vS none 0 0) []):=FV (Oh w m.size) l.o.2 _ _
  try dsimp only
  have g:Ϛ ((World.setCells n (w.heap.size+1+1+1) 0 [ω,ψ,ψ,ω,ψ,ψ,ω,ω,ω,ψ,ψ]).rangeAt (w.heap.size+1+1+1) 0 [ω,ψ,ψ,ω,ψ,ψ,ω,ω,ω,ψ,ψ]):=D3 l.o.1 rfl;have T:Ϛ (ϛ w (World.setCells n (w.heap.size+1+1+1) 0 [ω,ψ,ψ,ω,ψ,ψ,ω,ω,ω,ψ,ψ])):=below_setCells Ϝ _ 0 _ m;go_wp2_with ((with_reducible refine wpList_store_mid ?_ 42 (.tmp 6) (.tmp 34) ?_ (w.heap.size+1+1+1) 0 #[ω,ψ,ψ,ω,ψ,ψ,ω,ω,ω,ψ,ψ] ?_ ?_ ?_ ?_ ?_ ?_);exact rfl;exact rfl;exact rfl;exact rfl;exact l.o.1;exact Fu;exact ϥ);generalize (World.setCells n (w.heap.size+1+1+1) 0 [ω,ψ,ψ,ω,ψ,ψ,ω,ω,ω,ψ,ψ])=W' at g T U⊢;have z0:=g.o 0 _ rfl;have z1:=g.o 1 _ rfl;have z2:=g.o 2 _ rfl;have z3:=g.o 3 _ rfl;have z4:=g.o 4 _ rfl;have z5:=g.o 5 _ rfl;have z6:=g.o 6 _ rfl;have z7:=g.o 7 _ rfl;have z8:=g.o 8 _ rfl;have z9:=g.o 9 _ rfl;have ac:=g.o 10 _ rfl;simp only[Nat.zero_add]at z0 z1 z2 z3 z4 z5 z6 z7 z8 z9 ac;exact bodyPost_ret (v:=.tuple #[.agg #[ω,ψ,ψ,ω,ψ,ψ,ω,ω,ω,ψ,ψ],ψ,vI X]) (by simp[results,results48,go_sem,z0,z1,z2,z3,z4,z5,z6,z7,z8,z9,ac]) rfl ⟨⟨ex0,ψ,rfl,U.o⟩,T.o⟩
 obtain⟨aq,a3,ap,out,au,aw,rfl⟩:_/\_/\_/\∃out,_/\_/\r=_:=M.elim (λk=>absurd h0 k.1) (λk=>k.2);subst h0
 try dsimp only
 obtain⟨J,az⟩:=nM (OO t);obtain⟨O,a0⟩:=nM (Sq t);rw[az,a0,HL.o]at ht;obtain⟨rfl,ao⟩:=ht;have al:=KF.o n J O L.length m ao (by rw[<-HL.o,lMp]) a3 (by have:=a5.o;omega);have ad:Ϛ (ch.AV W=0/\(∀i,i<W.length->ch.I3 (ch.AM e.v) W i=0)):=⟨aq,ap⟩;have af:Ϛ (ch.AM out=ch.atK (ch.AM e.v) W W.length/\(∀c∈out,rowOk c.r)):=⟨au,aw⟩;clear az a0 ao aq ap a3 au aw KF M;obtain⟨v0,v1,v2,v3,v4,v5,v6,v7,v8,v9,S,aa,ab⟩:=u.o;obtain⟨u0,u1,u2,u3,u4,u5,u6,u7,u8,u9,u10⟩:=q.o;rw[HG.o]at S;go_wp2_with fail;refine al.mono ?_;rintro o4 w4 ⟨a8,I⟩;rcases a8 with⟨hx,_⟩|⟨_,hx,_⟩|⟨_,_,k,a6,_,a7,_⟩|⟨_,_,_,D,E,F,hk,a2,a4,rfl,an⟩
 ·exact absurd ak.o hx
 ·exact absurd ad.o.1 hx
 ·exact absurd (ad.o.2 k a6) a7
 obtain rfl:D=out:=ch.Vy (ch.F4 a4 a2) af.o.2 (hk.trans af.o.1.symm);clear v0 v1 v2 v3 v4 v5 v6 v7 v8 v9 S aa ab u0 u1 u2 u3 u4 u5 u6 u7 u8 u9 u10 q u hk a2 a4 af ad ak;have ba:=m.size;replace m:ϛ w w4:=bT m I;replace l:Ϛ (DL w4 (w.heap.size+1+1+1)/\Ae w4 (w+1+1+1) 42):=⟨Be l.o.1 I,Ad l.o.2 I⟩;obtain⟨q0,q1,q2,q3,q4,q5,q6,q7,q8⟩:=(A1 aj.o I);have U:Ϛ (stepEAt w (World.setCells w4 (w.heap.size+1+1+1) 0 [vI b.L.lim,vS a.l.m.1.1 a.l.m.1.2.1 a.l.m.1.2.2,vS a.l.ra a.l.rs.length a.l.rc,vI b.R.lim,vS a.r.m.1.1 a.r.m.1.2.1 a.r.m.1.2.2,vS a.r.ra a.r.rs.length a.r.rc,vI b.lm,vI b.rm,vI b.seq,ψ,vS E D.length F]) ⟨b,D⟩ ⟨a,E,F⟩ (vS J L.length O) L):=FV ⟨A.o.l.below I,A.o.r.below I,A.o.cg.below I,an.mono ba⟩ l.o.2 _ _;clear an I C A aj al;have g:Ϛ ((World.setCells w4 (w.heap.size+1+1+1) 0 [vI b.L.lim,vS a.l.m.1.1 a.l.m.1.2.1 a.l.m.1.2.2,vS a.l.ra a.l.rs.length a.l.rc,vI b.R.lim,vS a.r.m.1.1 a.r.m.1.2.1 a.r.m.1.2.2,vS a.r.ra a.r.rs.length a.r.rc,vI b.lm,vI b.rm,vI b.seq,ψ,vS E D.length F]).rangeAt (w.heap.size+1+1+1) 0 [vI b.L.lim,vS a.l.m.1.1 a.l.m.1.2.1 a.l.m.1.2.2,vS a.l.ra a.l.rs.length a.l.rc,vI b.R.lim,vS a.r.m.1.1 a.r.m.1.2.1 a.r.m.1.2.2,vS a.r.ra a.r.rs.length a.r.rc,vI b.lm,vI b.rm,vI b.seq,ψ,vS E D.length F]):=D3 l.o.1 rfl;have T:Ϛ (ϛ w (World.setCells w4 (w.heap.size+1+1+1) 0 [vI b.L.lim,vS a.l.m.1.1 a.l.m.1.2.1 a.l.m.1.2.2,vS a.l.ra a.l.rs.length a.l.rc,vI b.R.lim,vS a.r.m.1.1 a.r.m.1.2.1 a.r.m.1.2.2,vS a.r.ra a.r.rs.length a.r.rc,vI b.lm,vI b.rm,vI b.seq,ψ,vS E D.length F])):=below_setCells Ϝ _ 0 _ m
 go_wp2_with ((with_reducible refine wpList_store_mid ?_ 42 (.tmp 6) (.tmp 66) ?_ (w.heap.size+1+1+1) 0 #[vI b.L.lim,vS a.l.m.1.1 a.l.m.1.2.1 a.l.m.1.2.2,vS a.l.ra a.l.rs.length a.l.rc,vI b.R.lim,vS a.r.m.1.1 a.r.m.1.2.1 a.r.m.1.2.2,vS a.r.ra a.r.rs.length a.r.rc,vI b.lm,vI b.rm,vI b.seq,ψ,vS E D.length F] ?_ ?_ ?_ ?_ ?_ ?_);exact rfl;exact rfl;exact rfl;exact rfl;exact l.o.1;exact Fu;exact ϥ);generalize (World.setCells w4 (w.heap.size+1+1+1) 0 [vI b.L.lim,vS a.l.m.1.1 a.l.m.1.2.1 a.l.m.1.2.2,vS a.l.ra a.l.rs.length a.l.rc,vI b.R.lim,vS a.r.m.1.1 a.r.m.1.2.1 a.r.m.1.2.2,vS a.r.ra a.r.rs.length a.r.rc,vI b.lm,vI b.rm,vI b.seq,ψ,vS E D.length F])=W' at g T U⊢;have z0:=g.o 0 _ rfl;have z1:=g.o 1 _ rfl;have z2:=g.o 2 _ rfl;have z3:=g.o 3 _ rfl;have z4:=g.o 4 _ rfl;have z5:=g.o 5 _ rfl;have z6:=g.o 6 _ rfl;have z7:=g.o 7 _ rfl;have z8:=g.o 8 _ rfl;have z9:=g.o 9 _ rfl;have ac:=g.o 10 _ rfl;simp only[Nat.zero_add]at z0 z1 z2 z3 z4 z5 z6 z7 z8 z9 ac;exact bodyPost_ret (v:=.tuple #[.agg #[vI b.L.lim,vS a.l.m.1.1 a.l.m.1.2.1 a.l.m.1.2.2,vS a.l.ra a.l.rs.length a.l.rc,vI b.R.lim,vS a.r.m.1.1 a.r.m.1.2.1 a.r.m.1.2.2,vS a.r.ra a.r.rs.length a.r.rc,vI b.lm,vI b.rm,vI b.seq,ψ,vS E D.length F],vS J L.length O,ω]) (by simp[results,results48,go_sem,z0,z1,z2,z3,z4,z5,z6,z7,z8,z9,ac]) rfl ⟨⟨⟨a,E,F⟩,_,rfl,L,HL.o,U.o⟩,T.o⟩
def Wd(s:Jn):Prop:=((∀l∈partsB s.L,l.length<=χ)/\∀y∈Ab s.L,y.row.length<=χ)/\((∀l∈partsB s.R,l.length<=χ)/\∀y∈Ab s.R,y.row.length<=χ)
theorem We(s:Jn)(y z:JX)(w:Ϙ)(h:joinAt w s y)(o:joinAt w s z)(f:Wd s):
 η 42 #[joinV s y,joinV s z] w (θ w (.bool true)):=by
 have H:Ϛ (∀a,ϛ w a->CT 93 #[.agg (Ω s.L y.l),.agg (Ω s.L z.l)] a (θ a (.bool true))):=λa b=>PI s.L y.l z.l a (Al h.l b) (Al o.l b) f.1.1 f.1.2;have I:Ϛ (∀a,ϛ w a->CT 93 #[.agg (Ω s.R y.r),.agg (Ω s.R z.r)] a (θ a (.bool true))):=λa b=>PI s.R y.r z.r a (Al h.r b) (Al o.r b) f.2.1 f.2.2;rw[AP,AP];clear h o f;go_enter func42,ntmps42;go_upto_region 1 with fail;generalize g:(World.alloc (World.alloc w _) _)=V;have D:ϛ w V:=by rw[<-g];exact ϧ.alloc Ϟ _
 have m:Ϛ (BS V w s y):=by
  subst g;exact A1 (Ck ..) ϧ
 have n:Ϛ (BS V (w+1) s z):=by
  subst g;have:=Ck (ξ w (Ψ s y) 38) s z 38;rw[World.size_alloc]at this;exact this
 clear g;obtain⟨u0,u1,u2,u3,u4,u5,u6,u7,u8⟩:=m.o;obtain⟨q,r,u,x,A,C,j,k,l⟩:=n.o;go_wp2_with fail;refine(H.o _ D).mono ?_;rintro e a ⟨rfl,i⟩;have G:ϛ w a:=bT D i;clear u0 u1 u2 u3 u4 u5 u6 u7 u8 q r u x A C j k l;obtain⟨u0,u1,u2,u3,u4,u5,u6,u7,u8⟩:=A1 m.o i;obtain⟨q,r,u,x,A,C,j,k,l⟩:=A1 n.o i;go_wp2_with fail;refine(I.o _ G).mono ?_;rintro e w2 ⟨rfl,F⟩;have J:ϛ w w2:=bT G F;have E:ϛ V w2:=bT i F;clear u0 u1 u2 u3 u4 u5 u6 u7 u8 q r u x A C j k l;obtain⟨_,_,_,_,_,_,u6,u7,u8⟩:=A1 m.o E;obtain⟨_,_,_,_,_,_,j,k,l⟩:=A1 n.o E;go_wp2;go_ret;exact⟨Ϟ,J⟩
end jn
namespace cd
open vl bf
variable {B base c d : Nat} {w w' w0 w2 : Ϙ} {bs : List UInt8} {v : Value}
def u64(n:Int):Nat:=(n % 18446744073709551616).toNat
def A2(n:Int):List UInt8:=be8 (u64 n) 8
theorem Az(n:Int):(A2 n).length=8:=Ek _ _
def txt(s:List UInt8):List UInt8:=A2 s.length++s
def keepW(w w':World):Prop:=Below 0 w w'/\∀g e,Ae w g e->e≠5->e≠64->w'.heap[g]? =w.heap[g]?
theorem keepW.refl(w:Ϙ):keepW w w:=⟨bR,λ_ _ _ _ _=>rfl⟩
theorem keepW.trans{a b c:Ϙ}(h:keepW a b)(k:keepW b c):keepW a c:=⟨h.1.trans k.1,λg e j f i=>(k.2 g e (Ao j (h.2 g e j f i)) f i).trans (h.2 g e j f i)⟩
theorem keepW.of(h:ϛ w w'):keepW w w':=⟨h.mono (Nat.zero_le _),λg e a _ _=>h.block g (A6 a)⟩
structure WR(w:World)(base B:Nat)(bs:List UInt8):Prop where
 cell:∃v,Δ w B 0 v/\ownB w base v bs
 frz:Ξ w B 0
 tb:Ae w B 64
 low:base<=B
theorem WR.same(h:WR w base B bs)(b:w'.heap[B]? =w.heap[B]?)(i:∀g,Ae w g 5->w'.heap[g]? =w.heap[g]?):WR w' base B bs:=by
 obtain⟨v,j,f⟩:=h.cell;exact⟨⟨v,(cOb (w:=w) (a:=⟨B,0,none⟩) b).trans j,As f (λg k=>i g (Ay f k))⟩,(World.frozen?_of_block (w:=w) (a:=⟨B,0,none⟩) b).trans h.frz,Ao h.tb b,h.low⟩
theorem WR.below(h:WR w base B bs)(a:ϛ w w'):WR w' base B bs:=h.same (a.block B (A6 h.tb)) (λg b=>a.block g (A6 b))
theorem WR.lt(h:WR w base B bs):B<w.heap.size:=A6 h.tb
theorem Ud{O:Array Oper}{o:Oper}{a:Act}{K:Act->World->Prop}{Q:Exit->Act->World->Prop}{E:Prop}(r:o.guard=none)(s x:Operand)
 (D:o.op= .call {callee:=.builtin .append,args:=#[s,x],argTypes:=#[51,51]})
 (base:Nat) (v:Value) (l:List UInt8) (b:UInt8) (X:Value) (q:X=Ey b) (j:Nat) (A:l.length=j) (f:Ϙ) (C:ownB f base v l) (U:j<=1000000000) (T:base<=f.heap.size)
 (F:a.eval s=v) (G:a.eval x=vS (τ f) 1 1)
 (h:∀g i w2,ownB w2 base (vS (τ g) (j+1) i) (l++[b])->(f.alloc (.cells #[X] 5)).grownBy w2 v.ownBlock->K (a.put o.dst (vS (τ g) (j+1) i)) w2):
 if Region.wanted o (yielded O a.tmps)=true then Oper.wp Tryz.prog o a (ξ f #[X] 5) K Q else E:=by
 subst q;subst A;obtain⟨M,z,H,I,J⟩:=info_parts Tryz.info5;refine step_append_lies _ r s x 51 D base 5 M (.int .u8 0) 1 1 underlying51 z H I J rfl ϝ v l.length (l.map Ey) F
  (World.ownsRow.alloc C _) ⟨f,0,none⟩ 1 1 [Ey b] G rfl (cell_one_new _ _ _) (by intro u k;simp at k;subst k;rfl) ϝ Ϧ Ϝ ϡ (f.heap.size+1) Ϟ ?_
 intro g i w2 m n R S;refine h g i w2 ?_ n;unfold ownB;rw[lAp,map_append];exact m
theorem Du{b:Option Nat}(a:ϛ w w0)(f:w0.grownBy w2 b)(g:B<w.heap.size)(h:b≠some B):w2.heap[B]? =w.heap[B]? :=by
 rw[f.block B (by have:=a.size;omega) (λe=>h e.symm)];exact a.block B g
theorem Wg{bs':List UInt8}{v':Value}(h:WR w base B bs)(m:ownB w base v bs)(j:ϛ w w0)(l:w0.grownBy w2 v.ownBlock)(q:ownB w2 base v' bs')(n:base<=w.heap.size):
 WR (φ w2 B 0 v') base B bs'/\Below base w (φ w2 B 0 v')/\keepW w (φ w2 B 0 v'):=by
 have z:∀g e,Ae w g e->e≠5->g≠B->(w2.setCell ⟨B,0,none⟩ v').heap[g]? =w.heap[g]? :=λg e f D G=>by
  rw[heap_setCell_other _ _ _ _ G];exact Du j l (A6 f) (λb=>tyAt_apart f (Ay m b) D rfl)
 have i:w2.heap[B]? =w.heap[B]? :=Du j l h.lt (λb=>tyAt_apart h.tb (Ay m b) ϝ rfl);obtain⟨I,A,_⟩:=h.cell;have C:Δ w2 B 0 I:=(cOb (w:=w) (a:=⟨B,0,none⟩) i).trans A;have E:Ξ w2 B 0:=(World.frozen?_of_block (w:=w) (a:=⟨B,0,none⟩) i).trans h.frz;have x:v'.ownBlock≠some B:=λb=>tyAt_apart (Ao h.tb i) (Ay q b) ϝ rfl;have o:Below base w (φ w2 B 0 v'):=(((j.mono n).grown l (Nat.le_trans n j.size) (λk H=>(World.ownsRow.lt m k H).1))).setCell h.low v';exact⟨⟨⟨v',World.cell?_setCell_same' _ _ _ (by rw[C];rfl),As q (λg F=>heap_setCell_other _ _ _ _ (λb=>x ((congrArg some (show B=g from b.symm)).symm▸F)))⟩,by rw[World.frozen?_setCell];exact E,Ai (Ao h.tb i) _ _,h.low⟩,o,o.mono (Nat.zero_le _),λg e f r u=>z g e f r (tyAt_apart f h.tb u)⟩
theorem Ro(u j:Nat)(h:j<8):(.int .u8 (IntKind.u8.wrap ((u:Int)/2 ^ (56 - 8 * (j:Int)).toNat)):Value)=Ey (CQ u j):=by
 rw[<-N0 u j,show(56 - 8 * (j:Int)).toNat=56 - 8 * j by omega]
 congr 1
theorem Rp(n:Int):u64 n<=18446744073709551615:=by unfold u64;omega
theorem Wh(n:Int):IntKind.u64.wrap n=((u64 n:Nat):Int):=by rw[Tb];unfold u64;omega
theorem C7(base B:Nat)(bs:List UInt8)(n:Int)(w:Ϙ)(M:base<=w.heap.size)(h:WR w base B bs)(C:bs.length<=100000000):
 η 60 #[μ B,vI n] w λe w'=>e= .returned (.tuple #[])/\WR w' base B (bs++A2 n)/\Below base w w'/\keepW w w':=by
 have V:=Wh n;obtain⟨u,o⟩:∃u,u64 n=u:=⟨_,rfl⟩;have ac:u<=18446744073709551615:=by rw[<-o];exact Rp n
 unfold A2;rw[o]at V⊢;have G:=hqz C;clear o C;go_enter func60,ntmps60;go_wp2
 go_loopw [4] (λi wr=> ∃j:Nat,j<=8/\i=vI (56 - 8 * (j:Int))/\WR wr base B (bs++be8 u j)/\Below base w wr/\keepW w wr) (λi _=>(intOf i+8).toNat)
 case atStart=>exact⟨0,Ϝ,rfl,by simpa[be8]using h,bR,keepW.refl _⟩
 case round=>
  obtain⟨j,hj,rfl,E,m,A⟩:=hrel;have S:=Ek u j;have x:base<=wr.heap.size:=Nat.le_trans M m.size;have b:Ϛ (WR wr base B (bs++be8 u j)/\Below base w wr/\keepW w wr):=⟨E,m,A⟩;clear h E m A;by_cases T:j<8
  ·obtain⟨v,Q,D⟩:=b.o.1.cell;have R:=b.o.1.frz;have l:Ϛ (∀W,ϛ wr W->ownB W base v (bs++be8 u j)):=λW J=>Me D J;have O:=b.o.1.lt;clear D;have F:=hqz Q;have q:Ϛ (v.ownBlock≠some B/\Ξ wr B 0):=⟨λH=>tyAt_apart b.o.1.tb (Ay (l.o wr bR) H) ϝ rfl,R⟩;go_upto_region 3 with fail
   go_region_law (refine Ud (by rfl) (.tmp 13) (.tmp 19) (by rfl) base v (bs++be8 u j) (CQ u j) _ (Ro u j T) (bs.length+j) (by rw[lAp,S]) wr.drew (l.o _ bR.drew) (by have:=G.o;omega) x (by rfl) (by rfl) ?_;intro g f w2 U z;have r:=Du (bR.drew.alloc Ϟ _) z O q.o.1;have aa:Δ w2 B 0 v:=(cOb (w:=wr) (a:=⟨B,0,none⟩) r).trans F.o;have ab:Ξ w2 B 0:=(World.frozen?_of_block (w:=wr) (a:=⟨B,0,none⟩) r).trans q.o.2)
   all_goals
    obtain⟨X,Y,Z⟩:=Wg b.o.1 (l.o wr bR) (bR.drew.alloc Ϟ _) z U x;have k:Ϛ (WR (φ w2 B 0 (vS (τ g) (bs.length+j+1) f)) base B (bs++be8 u j++[CQ u j])/\Below base w (φ w2 B 0 (vS (τ g) (bs.length+j+1) f))/\keepW w (φ w2 B 0 (vS (τ g) (bs.length+j+1) f))):=⟨X,b.o.2.1.trans Y,b.o.2.2.trans Z⟩;generalize w2.setCell ⟨B,0,none⟩ (vS (τ g) (bs.length+j+1) f)=W' at k⊢;go_wp2;go_roundw
    case rel=>exact⟨j+1,Ϝ,by go_num,by rw[PW,<-append_assoc];exact k.o.1,k.o.2⟩
    case measure=>simp[intOf];omega
  ·have I:j=8:=Ϝ;subst I;go_wp2
   go_end0
   exact⟨rfl,b.o⟩
theorem Aah:Tryz.prog.underlying 9=some .string:=ϟ
theorem Oi{e:TypeId}{s:Nat}{n:Nat}{i:List Value}(h:w.ownsRow base e s v n i):∃b a,v=vS b n a:=by
 rcases h.2 with⟨rfl,f⟩|⟨g,a,j,rfl,_⟩
 ·exact⟨none,0,by rw[f]⟩
 ·exact⟨_,_,rfl⟩
theorem YC(base B:Nat)(bs:List UInt8)(s:ByteArray)(w:Ϙ)(k:base<=w.heap.size)(h:WR w base B bs)(Q:bs.length<=100000000)(R:s.size<=100000000):
 η 185 #[μ B,.string s] w λe w'=>e= .returned (.tuple #[])/\WR w' base B (bs++s.data.toList)/\Below base w w'/\keepW w w':=by
 obtain⟨D,m,z,A,C⟩:=info_parts Tryz.info5;have H:=hqz m;obtain⟨v,u,b⟩:=h.cell;have i:=hqz h;have g:=hqz b;have o:Ϛ (v.ownBlock≠some B):=λq=>tyAt_apart h.tb (Ay b q) ϝ rfl;have x:=h.frz;clear h b;go_enter func185,ntmps185;have r:=i.o.lt;have f:Ϛ (Ξ w B 0/\Δ w B 0 v):=⟨x,u⟩;go_wp2_with (at_builtin;refine Lib.wpList_append_own_string _ rfl (.tmp 8) (.tmp 9) 51 9 rfl base 5 D underlying51 Aah m z A C v bs.length (bs.map Ey) rfl g.o s rfl Ϧ Ϝ k ?_;intro S w2 n l _;obtain⟨I,J,rfl⟩:=Oi n;have j:=Du bR l r o.o;have M:Δ w2 B 0 v:=(cOb (w:=w) (a:=⟨B,0,none⟩) j).trans f.o.2;have O:Ξ w2 B 0:=(World.frozen?_of_block (w:=w) (a:=⟨B,0,none⟩) j).trans f.o.1);obtain⟨E,F,G⟩:=Wg (bs':=bs++s.data.toList) i.o g.o bR l (by
  unfold ownB;rw[lAp,AE,map_append];exact n) k
 go_end0
 exact⟨rfl,E,F,G⟩
def GC(w:World):Prop:=∀j,j<16->Δ w 0 j (.int .u32 (MW.getD j 0:Nat))
theorem nibAt_below(h:GC w)(a:ϛ w w'):GC w':=λj b=>cLz a (h j b)
def sumS(c:Nat)(b:UInt8):Nat:=nibS (nibS (c ^^^ b.toNat))
def JG(l:List UInt8):Nat:=l.foldl sumS 4294967295
def crc(l:List UInt8):Nat:=JG l ^^^ 4294967295
theorem D7{a b:Nat}(ha:a<4294967296)(f:b<4294967296):a ^^^ b<4294967296:=Nat.xor_lt_two_pow (n:=32) ha f
theorem SD:∀l,l<16->MW.getD l 0<4294967296:=ϝ
theorem IG(h:c<4294967296):nibS c<4294967296:=by
 unfold nibS;exact D7 (Nat.lt_of_le_of_lt (Nat.shiftRight_le _ _) h) (SD _ (Nat.mod_lt _ ϝ))
theorem He(h:c<4294967296)(b:UInt8):sumS c b<4294967296:=IG (IG (D7 h (by have:=b.toNat_lt;omega)))
theorem Nr:∀(l:List UInt8) (c:Nat),c<4294967296->l.foldl sumS c<4294967296
 |[],_,h=>h
 |b::l,c,h=>Nr l _ (He h b)
theorem Oj(l:List UInt8):JG l<4294967296:=Nr l _ ϝ
theorem JH(l:List UInt8):crc l<4294967296:=D7 (Oj l) ϝ
theorem Ns(l:List UInt8)(b:UInt8):JG (l++[b])=sumS (JG l) b:=by unfold JG;rw[foldl_append];rfl
theorem ofInt32(x:Nat)(a:x<4294967296):(BitVec.ofInt IntKind.u32.bits (x:Int)).toNat=x:=by
 rw[BitVec.toNat_ofInt];show((x:Int) % 4294967296).toNat=x;rw[Int.emod_eq_of_lt Ϝ Ϝ];rfl
theorem FW(x:Nat)(a:x<4294967296):IntKind.u32.wrap (x:Int)=x:=by
 simp[IntKind.wrap,IntKind.signed,IntKind.bits];omega
theorem P0(a b:Nat)(ha:a<4294967296)(f:b<4294967296):bits BinOp.xor IntKind.u32 (a:Int) (b:Int)=((a ^^^ b:Nat):Int):=by
 unfold bits;simp only[];rw[BitVec.toNat_xor,ofInt32 a ha,ofInt32 b f];exact FW _ (D7 ha f)
theorem ZC(a:Nat)(ha:a<4294967296):bits BinOp.and IntKind.u32 (a:Int) 15=((a % 16:Nat):Int):=by
 unfold bits;simp only[];have e:(BitVec.ofInt IntKind.u32.bits 15).toNat=15:=ofInt32 15 ϝ;rw[BitVec.toNat_and,ofInt32 a ha,e,show(15:Nat)=2 ^ 4 - 1 from rfl,Nat.and_two_pow_sub_one_eq_mod];exact FW _ (by have:=Nat.mod_lt a (show 0<2 ^ 4 by decide);omega)
theorem ZD{m t:Nat}(f:d<4294967296)(a:d % 16=m)(b:MW.getD m 0=t):bits BinOp.xor IntKind.u32 ((d:Int)/16) (t:Int)=((nibS d:Nat):Int):=by
 have e:(d:Int)/(16:Int)=((d>>>4:Nat):Int):=by rw[Nat.shiftRight_eq_div_pow];omega
 rw[e,P0 _ _ (Nat.lt_of_le_of_lt (Nat.shiftRight_le _ _) f) (by rw[<-b,<-a];exact SD _ (Nat.mod_lt _ ϝ))];unfold nibS;rw[a,b]
theorem ZE(c:Nat)(h:c<4294967296):bits BinOp.xor IntKind.u32 IntKind.u32.max (c:Int)=((c ^^^ 4294967295:Nat):Int):=by
 have:=P0 4294967295 c ϝ h;rw[Nat.xor_comm]at this;exact this
theorem Lc(s:ByteArray)(w:Ϙ)(h:GC w)(W:s.size<=100000000):
 η 12 #[.string s] w λe w'=>e= .returned (.int .u32 (crc s.data.toList:Nat))/\w'=w:=by
 have C:Ϛ (GC w):=h;have T:=bLt _ _ (h 0 ϝ);clear h;go_enter func12,ntmps12;go_wp2
 go_loopw [3,4,7] (λu t i wr=> ∃k:Nat,k<=s.size/\i=vI k/\u= .int .u32 (JG (s.data.toList.take k):Nat)/\wr=w) (λ_ _ i _=>s.size - (intOf i).toNat)
 case atStart=>exact⟨0,Nat.zero_le _,rfl,rfl,rfl⟩
 case round=>
  obtain⟨k,V,rfl,rfl,Q⟩:=hrel;obtain⟨c,l⟩:=nM (JG (s.data.toList.take k));have r:=hqz l;have x:c<4294967296:=by rw[<-l];exact Oj _
  rw[l];clear l;by_cases O:k<s.size
  ·have X:(0:Int)<=(k:Int):=Ϝ;have R:(k:Int)<(s.size:Int):=Ϝ;have U:=s[k].toNat_lt;go_upto_region 6 with fail;rw[P0 c s[k].toNat x Ϝ];obtain⟨d,n⟩:=nM (c ^^^ s[k].toNat);have z:d<4294967296:=by rw[<-n];exact D7 x Ϝ
   have G:=hqz n;rw[n];clear n;obtain⟨m,b⟩:=nM (d % 16);have q:m<16:=Ϝ;have ha:bits BinOp.and IntKind.u32 (d:Int) 15=(m:Int):=by rw[ZC d z,b]
   have j:=C.o m q;obtain⟨t,f⟩:=nM (MW.getD m 0);rw[f]at j;have F:(m:Int)<16:=Ϝ;have E:(0:Int)<=(m:Int):=Ϝ;subst Q;go_upto_region 7 with fail;rw[ZD z b f];have A:Ϛ (nibS d=nibS d):=rfl;obtain⟨a,o⟩:=nM (nibS d);have D:a<4294967296:=by rw[<-o];exact IG z
   replace A:=hqz o;rw[o];clear o j ha b f F E q;obtain⟨g,b⟩:=nM (a % 16);have q:g<16:=Ϝ;have ha:bits BinOp.and IntKind.u32 (a:Int) 15=(g:Int):=by rw[ZC a D,b]
   have j:=C.o g q;obtain⟨S,f⟩:=nM (MW.getD g 0);rw[f]at j;have F:(g:Int)<16:=Ϝ;have E:(0:Int)<=(g:Int):=Ϝ;have J:Ϛ (bits BinOp.xor IntKind.u32 ((a:Int)/16) (S:Int)=((nibS a:Nat):Int)):=ZD D b f;have I:Ϛ (JG (s.data.toList.take (k+1))=nibS a):=by
    show _=_;rw[FE s k O,Ns,r.o];unfold sumS;rw[G.o,A.o]
   clear b f;go_wp2;go_roundw
   case rel=>exact⟨k+1,Ϝ,by go_num,by rw[I.o,J.o],trivial⟩
   case measure=>simp[intOf];omega
  ·have M:k=s.size:=Ϝ;subst M;rw[take_of_length_le (by rw[AE];exact Nat.le_refl _)]at r;have R:¬((s.size:Int)<(s.size:Int)):=Ϝ;have H:Ϛ (bits BinOp.xor IntKind.u32 IntKind.u32.max (c:Int)=((crc s.data.toList:Nat):Int)):=by
    show _=_;rw[ZE c x,<-r.o];rfl
   go_wp2;go_ret;exact⟨Am H.o,rfl⟩
def w4(n:Nat):List UInt8:=[UInt8.ofNat (n/16777216),UInt8.ofNat (n/65536),UInt8.ofNat (n/256),UInt8.ofNat n]
theorem Ep(n:Nat):(w4 n).length=4:=rfl
theorem ZF(n:Nat)(w:Ϙ)(a:n<4294967296):(convert 51 9 (vS (τ w) 4 4)).run Tryz.prog (ξ w #[.int .u8 ((n:Int)/16777216),.int .u8 ((n:Int)/65536 % 256),.int .u8 ((n:Int)/256 % 256),.int .u8 ((n:Int) % 256)] 5)= .ok (.string ⟨(w4 n).toArray⟩) (ξ w #[.int .u8 ((n:Int)/16777216),.int .u8 ((n:Int)/65536 % 256),.int .u8 ((n:Int)/256 % 256),.int .u8 ((n:Int) % 256)] 5):=by
 refine IZ (base:=w.heap.size) ?_;have e:(w4 n).map Ey=[.int .u8 ((n:Int)/16777216),.int .u8 ((n:Int)/65536 % 256),.int .u8 ((n:Int)/256 % 256),.int .u8 ((n:Int) % 256)]:=by
  unfold w4 Ey;simp only[map_cons,map_nil,UInt8.toNat_ofNat']
  congr 1
  ·congr 1;omega
 unfold ownB;rw[e];exact World.ownsRow_lit w _ 4 nR ϝ rfl
theorem P4(n:Nat)(w:Ϙ)(a:n<4294967296):
 η 25 #[.int .u32 n] w (θ w (.string ⟨(w4 n).toArray⟩)):=by
 have b:=ZF n w a;go_enter func25,ntmps25;go_wp2;go_ret;exact⟨rfl,ϧ⟩
theorem P5(n:Nat)(w:Ϙ)(a:n<4294967296):
 η 26 #[.int .u32 n] w (θ w (.string ⟨(w4 n).toArray⟩)):=by
 have b:=ZF n w a;go_enter func26,ntmps26;go_wp2;go_ret;exact⟨rfl,ϧ⟩
def bitN:Nat->Nat->Nat
 |0,c=>c
 |k+1,c=>bitS (bitN k c)
theorem Rq(c:Nat):bitN 8 c=nibS (nibS c):=by rw[Jd,Jd];rfl
theorem SF(h:c<4294967296):bitS c<4294967296:=by
 unfold bitS;split
 ·exact D7 (Nat.lt_of_le_of_lt (Nat.shiftRight_le _ _) h) ϝ
 ·exact Nat.lt_of_le_of_lt (Nat.shiftRight_le _ _) h
theorem SG{c:Nat}(h:c<4294967296):∀k,bitN k c<4294967296
 |0=>h
 |k+1=>SF (SG h k)
theorem and1(a:Nat)(ha:a<4294967296):bits BinOp.and IntKind.u32 (a:Int) 1=((a % 2:Nat):Int):=by
 unfold bits;simp only[];have e:(BitVec.ofInt IntKind.u32.bits 1).toNat=1:=ofInt32 1 ϝ;rw[BitVec.toNat_and,ofInt32 a ha,e,show(1:Nat)=2 ^ 1 - 1 from rfl,Nat.and_two_pow_sub_one_eq_mod];exact FW _ (by have:=Nat.mod_lt a (show 0<2 ^ 1 by decide);omega)
theorem AaL(d:Nat):(d:Int)/(2:Int)=((d>>>1:Nat):Int):=by rw[Nat.shiftRight_eq_div_pow];omega
theorem YD(a:d<4294967296)(h:d % 2=1):bits BinOp.xor IntKind.u32 ((d:Int)/2) 3988292384=((bitS d:Nat):Int):=by
 have:=P0 (d>>>1) 3988292384 (Nat.lt_of_le_of_lt (Nat.shiftRight_le _ _) a) ϝ;unfold bitS;rw[if_pos h,AaL];exact this
theorem Wi(h:¬d % 2=1):(d:Int)/(2:Int)=((bitS d:Nat):Int):=by
 unfold bitS;rw[if_neg h,AaL]
theorem JI(s:ByteArray)(w:Ϙ)(M:s.size<=100000000):
 η 13 #[.string s] w λe w'=>e= .returned (.int .u32 (crc s.data.toList:Nat))/\w'=w:=by
 go_enter func13,ntmps13;go_wp2
 go_loopw [3,4,5] (λu i t wr=> ∃k:Nat,k<=s.size/\i=vI k/\u= .int .u32 (JG (s.data.toList.take k):Nat)/\wr=w) (λ_ i _ _=>s.size - (intOf i).toNat)
 case atStart=>exact⟨0,Nat.zero_le _,rfl,rfl,rfl⟩
 case round=>
  obtain⟨k,J,rfl,rfl,Q⟩:=hrel;obtain⟨c,f⟩:=nM (JG (s.data.toList.take k));have m:=hqz f;have o:c<4294967296:=by rw[<-f];exact Oj _
  rw[f];clear f;by_cases F:k<s.size
  ·have S:(0:Int)<=(k:Int):=Ϝ;have G:(k:Int)<(s.size:Int):=Ϝ;have H:=s[k].toNat_lt;go_upto_region 6 with fail;rw[P0 c s[k].toNat o Ϝ];obtain⟨d,g⟩:=nM (c ^^^ s[k].toNat);have D:d<4294967296:=by rw[<-g];exact D7 o Ϝ
   have z:=hqz g;rw[g];clear g;go_wp2
   go_loopw [3,5] (λu i wr=> ∃j:Nat,j<=8/\i=vI j/\u= .int .u32 (bitN j d:Nat)/\wr=w) (λ_ i _=>8 - (intOf i).toNat)
   case atStart=>exact⟨0,Nat.zero_le _,rfl,rfl,rfl⟩
   case round=>
    obtain⟨j,I,rfl,rfl,R⟩:=hrel;have h:=SG D j;by_cases O:j<8
    ·have n:Ϛ (bitN (j+1) d=bitS (bitN j d)):=rfl;obtain⟨x,b⟩:=nM (bitN j d);rw[b]at h n⊢;clear b;have T:(j:Int)<8:=Ϝ;have ha:=and1 x h;by_cases a:x % 2=1
     ·rw[a]at ha;have q:=YD h a;have l:Ϛ (bits BinOp.xor IntKind.u32 ((x:Int)/2) 3988292384=((bitS x:Nat):Int)):=q;clear q a;go_wp2;go_roundw
      case rel=>exact⟨j+1,Ϝ,by go_num,by rw[n.o,l.o],trivial⟩
      case measure=>simp[intOf];omega
     ·have l:Ϛ ((x:Int)/(2:Int)=((bitS x:Nat):Int)):=Wi a;rw[show x % 2=0 by omega]at ha;clear a;go_wp2;go_roundw
      case rel=>exact⟨j+1,Ϝ,by go_num,by rw[n.o,<-l.o],trivial⟩
      case measure=>simp[intOf];omega
    ·have C:j=8:=Ϝ;subst C;have r:Ϛ (JG (s.data.toList.take (k+1))=bitN 8 d):=by
      show _=_;rw[FE s k F,Ns,m.o,Rq];unfold sumS;rw[z.o]
     obtain⟨x,b⟩:=nM (bitN 8 d);rw[b]at r⊢;clear b h;go_wp2;go_roundw
     case rel=>exact⟨k+1,Ϝ,by go_num,by rw[r.o],trivial⟩
     case measure=>simp[intOf];omega
  ·have E:k=s.size:=Ϝ;subst E;rw[take_of_length_le (by rw[AE];exact Nat.le_refl _)]at m;have G:¬((s.size:Int)<(s.size:Int)):=Ϝ;have A:Ϛ (bits BinOp.xor IntKind.u32 IntKind.u32.max (c:Int)=((crc s.data.toList:Nat):Int)):=by
    show _=_;rw[ZE c o,<-m.o];rfl
   go_wp2;go_ret;exact⟨Am A.o,rfl⟩
end cd
end Go.Proofs.YtfkihidbnfkbaaaGreatDoor
