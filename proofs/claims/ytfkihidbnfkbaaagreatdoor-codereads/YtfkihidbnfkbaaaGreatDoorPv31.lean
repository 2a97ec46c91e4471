import Derived.Test.YtfkihidbnfkbaaaGreatDoorPv29
import Derived.Test.YtfkihidbnfkbaaaGreatDoorPv30
set_option linter.all false
set_option maxHeartbeats 8000000
set_option maxRecDepth 100000
open Inhabited renaming default->ϰ
open List renaming length->ϲ
namespace Go.Proofs.YtfkihidbnfkbaaaGreatDoor
open ChangeShapes WideShapes ChangeAt RowKit List Proofs.Tryz
namespace jn
open vl bf
attribute [local go_sem] Oper.semAt_some
def Ub{w0 w0' w:ϟ}{s:Jn}{y:JX}{t:Value}{L:List CO}(h:stepAt w0 w s y t L)(a:w0'.heap.size<=w0.heap.size):stepAt w0' w s y t L:=⟨CL h.l a,CL h.r a,RD h.cg a⟩
end jn
namespace jn
open vl bf
variable {w w' wr : ϟ} {s s0 : Jn} {t : TypeId} {base : Nat} {v : Value} {y y0 : JX} {L : List CO}
instance:Inhabited Ev:=⟨⟨0,0,0,[]⟩⟩
abbrev RX:=Option Addr×Nat
def L4(w:World)(a:Option Addr)(l:List Ev)(xs:List RX):Prop:=
 ∀i,i<ϲ l->∃b off,a=some ⟨b,off,none⟩/\Δ w b (off+i * 4) (vI (l.getD i ϰ).kind)/\Δ w b (off+i * 4+1) (vI (l.getD i ϰ).side)/\
  Δ w b (off+i * 4+1+1) (vI (l.getD i ϰ).time)/\Δ w b (off+i * 4+1+1+1) (vS (xs.getD i (none,0)).1 (ϲ (l.getD i ϰ).row) (xs.getD i (none,0)).2)/\evAt w (l.getD i ϰ) (xs.getD i (none,0)).1
def Uc{a:Ϡ}{l:List Ev}{f:List RX}(h:L4 w a l f)(d:Ϣ w w'):L4 w' a l f:=λi j=>by
 obtain⟨b,k,g,m,n,o,q,r⟩:=h i j;exact⟨b,k,g,cLz d m,cLz d n,cLz d o,cLz d q,r.below d⟩
def AeQ{p:pl.Pln}(h:goodJ p s):wfJ s:=by
 have a:=h.ok.L.all;have b:=h.ok.R.all;have d:=h.ok.sq;exact⟨⟨λy hy=>h.wf y (Fk.2 (.inl hy)),ϣ⟩,⟨λy hy=>h.wf y (Fk.2 (.inr hy)),ϣ⟩,by constructor<;>omega⟩
theorem OQ{α β:Type}(f:α->List β)(n:Nat)(b:∀a,ϲ (f a)<=n):∀l:List α,ϲ (l.flatMap f)<=n * ϲ l
 |[]=>by simp
 |a::l=>by
  have:=OQ f n b l;have:=b a;rw[aH,lAp,DP,Nat.mul_succ];omega
theorem AeR(p:pl.Pln)(s:Jn)(v:Ev)(a:okB s.L)(g:okB s.R):ϲ (PY p s v)<=10000:=by
 have h:∀fr b,ϲ (DW p s v fr b)<=4096:=λfr b=>Uw (by unfold Ar;split;exact g;exact a);unfold PY;split
 ·split
  ·unfold SA;split
   ·simp
   ·split<;>simp
  ·unfold SD;refine B0 (OQ _ 2 (λe=>?_) _) ?_
   ·split
    ·simp
    ·split<;>simp
   ·have d:ϲ (I6 p s v)<=4096:=by
     unfold I6;refine B0 (aZ ..) ?_;split
     ·unfold FX;rw[(De _).length_eq];exact B0 (aZ ..) a.all
     ·exact At _
    omega
 ·rw[Un];unfold pairT;rw[lAp];have d:=OQ (toldOf p v) 2 (λe=>by unfold toldOf;split<;>simp) (DW p s v (Hg p v) (toJ p v));have i:=h (Hg p v) (toJ p v);have f:∀(c:Prop) [Decidable c] (z:ch.Chg),ϲ (if c then [z]else [])<=1:=λc _ z=>by split<;>simp
  have j:=f ((DW p s v (Hg p v) (toJ p v)).isEmpty=true/\Eo p.mode v.side=true) ⟨1,Ce p v.side v.row⟩;omega
def Ud(p:pl.Pln)(s:Jn)(v:Ev):ϲ (stepJ p s v).2.2<=10000:=by
 unfold stepJ;split
 ·simp
 ·rename_i h;split
  ·simp
  ·split
   ·simp
   ·have a:=Eh (p:=p) (s:=s) (by simpa using h);rw[Yl];exact AeR p s v a.2.L a.2.R
def MX(t:TypeId)(w w':World):Prop:=Below 0 w w'/\∀g e,Am w g e->e≠t->w'.heap[g]? =w.heap[g]?
def Mz{b w2:ϟ}{s n:Nat}{l:List Value}(h:b.ownsRow base t s v n l)(a:b.grownBy w2 v.ownBlock):MX t b w2:=⟨⟨a.os,a.tape,a.output,a.size,λk j=>absurd j (CA k)⟩,λg e d i=>a.block g (A7 d) (λf=>tyAt_apart d (Az h f.symm) i rfl)⟩
def jAt(s0:Jn)(y0:JX)(w wr:World)(s:Jn)(y:JX):Prop:=Ϣ w wr/\(((s=s0/\y=y0)/\joinAt w s y)\/(OB wr w.heap.size y.l s.L/\OB wr w.heap.size y.r s.R))
def jAt.at(h:jAt s0 y0 w wr s y):joinAt wr s y:=by
 rcases h.2 with a|a
 ·exact a.2.below h.1
 ·exact⟨a.1.at,a.2.at⟩
def jAt.below(h:jAt s0 y0 w wr s y)(a:Ϣ wr w'):jAt s0 y0 w w' s y:=⟨h.1.trans (a.mono h.1.size),h.2.imp id (λk=>⟨k.1.below a,k.2.below a⟩)⟩
def jAt.keep(h:jAt s0 y0 w wr s y)(a:MX t wr w')(i:Ϣ w w')(h1:t≠166)(d:t≠119)(f:t≠33):jAt s0 y0 w w' s y:=by
 have b:∀{Z:BX} {B:Buf},OB wr w Z B->OB w' w Z B:=λk=>OB.other k a.1.size (λg j=>j.elim (λq=>a.2 g _ q h1.symm) (λq=>a.2 g _ q d.symm)) (λg q=>a.2 g _ q f.symm);exact⟨i,h.2.imp id (λk=>⟨b k.1,b k.2⟩)⟩
structure TG(w:World)(base:Nat)(v:Value)(L:List CO):Prop where
 own:w.ownsRow base 217 2 v (ϲ L) (ch.Bv (L.map CO.pair))
 rows:∀c∈L,∃bs,AF w bs c.rv c.row
def TG.below(h:TG w base v L)(a:Ϣ w w'):TG w' base v L:=⟨own_below h.own a,λc b=>by
 obtain⟨bs,k⟩:=h.rows c b;exact⟨bs,own_below k a⟩⟩
def TG.keep(h:TG w base v L)(b:MX t w w')(h1:t≠217)(d:t≠119):TG w' base v L:=⟨A4 h.own (λg a=>b.2 g _ (Az h.own a) h1.symm),λc f=>by
 obtain⟨bs,k⟩:=h.rows c f;exact⟨bs,A4 k (λg a=>b.2 g _ (Az k a) d.symm)⟩⟩
def Agu(w:ϟ)(base:Nat):TG w base (vS none 0 0) []:=⟨KX _ _ _ _,λc a=>absurd a SW⟩
def CG.rows(h:CG w base v L):∀c∈L,∃bs,AF w bs c.rv c.row:=λc a=>⟨base,bt.Est.own h (Cz c.rv c.row) (EQ _ (DS.2 ⟨c,a,rfl⟩))⟩
def TG.app{d:Value}{M:List CO}(h:TG w base v L)(f:∀c∈M,∃bs,AF w bs c.rv c.row)(j:MX 217 w w')(l:w'.ownsRow base 217 2 d (ϲ L+ϲ M) (ch.Bv (L.map CO.pair)++ch.Bv (M.map CO.pair))):TG w' base d (L++M):=by
 refine⟨by rw[lAp,DQ,ch.Qx];exact l,λc a=>?_⟩;have b:(∃bs,AF w bs c.rv c.row)->∃bs,AF w' bs c.rv c.row:=λ⟨bs,k⟩=>⟨bs,A4 k (λg i=>j.2 g _ (Az k i) Ϥ)⟩;rcases Fk.1 a with a|a
 ·exact b (h.rows c a)
 ·exact b (f c a)
end jn
namespace jn
open Go
variable {P : Program} {w : ϟ}
theorem Nn(base:Nat)(t f e:TypeId)(i:TypeInfo)(size:Nat)(ht:P.underlying t=some (.slice e))(a:P.info? e=some i)
 (v:Value) (n:Nat) (h:List Value) (d:w.ownsRow base e size v n h) (ad:Ϡ) (c:Nat):
 (Builtin.append_ #[t,t] f #[v,vS ad 0 c]).run P w= .ok v w:=by
 rcases d.2 with⟨rfl,rfl⟩|⟨g,j,k,rfl,_,_,b,_⟩<;>cases ad
 ·simp[Builtin.append_,aC ht,sizeOf,typeInfo,a,Builtin.lenOf,Builtin.firstCells]
 ·simp[Builtin.append_,aC ht,sizeOf,typeInfo,a,Builtin.lenOf,Builtin.firstCells,loadCells,loadCellsFrom]
 ·simp[Builtin.append_,aC ht,sizeOf,typeInfo,a,Builtin.lenOf,Builtin.firstCells,b,storeCells]
 ·simp[Builtin.append_,aC ht,sizeOf,typeInfo,a,Builtin.lenOf,Builtin.firstCells,b,storeCells,loadCells,loadCellsFrom]
theorem Ku{b:Array Oper}{rest:List Oper}{o:Oper}{a:Act}{Q:Exit->Act->World->Prop}(g:o.guard=none)(s x:Operand)(t:TypeId)
 (k:o.op= .call {callee:=.builtin .append,args:=#[s,x],argTypes:=#[t,t]})
 (base:Nat) (e:TypeId) (i:TypeInfo) (size:Nat) (ht:P.underlying t=some (.slice e)) (j:P.info? e=some i)
 (v:Value) (n:Nat) (d:List Value) (q:a.eval s=v) (l:w.ownsRow base e size v n d) (ad:Ϡ) (c:Nat) (r:a.eval x=vS ad 0 c)
 (h:wpList P b Q rest (a.put o.dst v) w):wpList P b Q (o::rest) a w:=by
 refine wpList_plain g λK f=>?_;have m:=Nn (P:=P) (w:=w) base t o.type e i size ht j v n d l ad c;unfold Oper.wp;simp[execOp,k,resolve,invoke,builtin,q,r,m,Result.andThen];exact f _ _ h
end jn
namespace jn
open vl bf
variable {w w' : ϟ}
def ZR{b:Nat}{s:Jn}{y:JX}(h:BU w b s y)(f:w'.heap[b]? =w.heap[b]?):BU w' b s y:=by
 have d:∀{i:Nat} {v:Value},Δ w b i v->Δ w' b i v:=λ{i v} g=>(cOb (w:=w) (a:=⟨b,i,none⟩) f).trans g;obtain⟨u0,u1,u2,u3,u4,u5,u6,u7,u8⟩:=h;exact⟨d u0,d u1,d u2,d u3,d u4,d u5,d u6,d u7,d u8⟩
def Ue{base:Nat}{e:TypeId}{s n:Nat}{v:Value}{g:List Value}(h:w.ownsRow base e s v n g)(a:w.grownBy w' v.ownBlock)(d:base<=w.heap.size):Below base w w':=
 ⟨a.os,a.tape,a.output,a.size,λk f=>a.block k (NE f d) (λb=>by have:=(ch.AL h b.symm).1;omega)⟩
theorem Uf{R:Array Oper}{rest:List Oper}{o:Oper}{a:Act}{Q:Exit->Act->World->Prop}(C:o.guard=none)(s x:Operand)
 (F:o.op= .call {callee:=.builtin .append,args:=#[s,x],argTypes:=#[53,53]})
 (base T:Nat) (v t:Value) (L M:List CO) (b:ϟ) (H:a.eval s=v) (J:a.eval x=t) (d:TG b base v L) (r:CG b T t M) (hl:ϲ L+ϲ M<=1000000000) (A:base<=b.heap.size)
 (h:∀S w2,TG w2 base S (L++M)->MX 217 b w2->Below base b w2->wpList prog R Q rest (a.put o.dst S) w2):
 wpList prog R Q (o::rest) a b:=by
 obtain⟨O,D,Y,Z,aa⟩:=IR ch.AbP;have n:=CG.own r;have G:=CG.rows r;rcases dP (ϲ M) with f|f
 ·obtain rfl:=aL.1 f;have q:∃i c,t=vS i 0 c:=by
   rcases n.2 with⟨rfl,_⟩|⟨g,l,U,rfl,_⟩
   ·exact⟨_,_,rfl⟩
   ·exact⟨_,_,rfl⟩
  obtain⟨i,c,rfl⟩:=q;refine Ku C s x 53 F base 217 O 2 underlying53 D v (ϲ L) _ H d.own i c J ?_;exact h v b (by rw[Nd];exact d) ⟨bR,λ_ _ _ _=>rfl⟩ bR
 ·obtain⟨g,l,rfl,ac,ae⟩:=World.ownsRow.form n f;have X:∀u∈ch.Bv (M.map CO.pair),u.oneCell'=true:=ch.Zy (λz q=>by
   obtain⟨c,W,rfl⟩:=DS.1 q;obtain⟨bs,k⟩:=G c W;rcases k.2 with⟨k,_⟩|⟨g,l,U,k,_⟩<;>(show c.rv.oneCell'=true;rw[k];rfl))
  have E:ϲ (ch.Bv (M.map CO.pair))=ϲ M * 2:=by rw[ch.Zx,lMp]
  refine wpList_append_lies _ C s x 53 F base 217 O (.agg #[Ϗ,ώ]) 2 32 underlying53 D Y Z aa rfl Ϥ v (ϲ L) _ H d.own
   ⟨g,0,none⟩ (ϲ M) l (ch.Bv (M.map CO.pair)) J E (λj u I=>?_) X f ϭ ϣ A b.heap.size rfl ?_
  ·rw[ch.addr_add,Fr,n.cellAt j (by rw[<-E];exact(JT.1 I).1)];exact I
  ·intro g' ab w2 V m h4 h5;exact h _ w2 (d.app G (Mz d.own m) V) (Mz d.own m) (Ue d.own m A)
attribute [local go_sem] Oper.semAt_some
variable {p : pl.Pln}
def M0(h:pl.Ag p=0):Db p=⟨⟨p.limit,[],[]⟩,⟨p.limit,[],[]⟩,noMark,noMark,0⟩:=AE h
def Sg(h:pl.Ag p=0)(w:ϟ):joinAt w (Db p) jx0:=by
 rw[M0 h];exact jAt.at (s0:=j0) (y0:=jx0) (w:=w) (wr:=w) ⟨bR,.inr ⟨Es (DJ nR),Es (DJ nR)⟩⟩
def TG.mono{w:ϟ}{base a:Nat}{v:Value}{L:List CO}(h:TG w base v L)(b:a<=base):TG w a v L:=⟨World.ownsRow.mono h.own b,h.rows⟩
end jn
namespace jn
open vl bf
variable {p : pl.Pln} {s : Jn} {v : Ev} {K : ByteArray}
def rw2(a b:Int):List Cel:=[⟨2,a,⟨#[]⟩⟩,⟨2,b,⟨#[]⟩⟩]
def FA{a b:Int}(ha: -9223372036854775808<=a/\a<=9223372036854775807)(f: -9223372036854775808<=b/\b<=9223372036854775807):B8 (rw2 a b):=by
 intro c d;simp only[rw2,E3,SW,or_false]at d;rcases d with rfl|rfl
 ·exact⟨ha,At _⟩
 ·exact⟨f,At _⟩
def ev1:Ev:=⟨1,1,1,rw2 7 1⟩
def ev2:Ev:=⟨1,2,2,rw2 7 2⟩
def ev3:Ev:=⟨2,1,4,[]⟩
def ev4:Ev:=⟨1,1,4,rw2 7 3⟩
def ev5:Ev:=⟨1,1,5,rw2 7 4⟩
def Kv:List Ev:=[ev1,ev2,ev3,ev4,ev5]
structure begP(p:pl.Pln)(K:ByteArray):Prop where
 err:pl.Ag p=0
 kind:p.kind=1
 mode:p.mode=4
 low:p.low= -5
 high:p.high=5
 limit:p.limit=2
 l:ϲ (pl.A9 p 1)=2
 r:ϲ (pl.A9 p 2)=2
 e1:pl.Bm p 1 (rw2 7 1)=0
 e2:pl.Bm p 2 (rw2 7 2)=0
 e3:pl.Bm p 1 (rw2 7 3)=0
 e4:pl.Bm p 1 (rw2 7 4)=0
 h1:pl.hasB p 1 (rw2 7 1)=true
 h2:pl.hasB p 2 (rw2 7 2)=true
 h4:pl.hasB p 1 (rw2 7 4)=true
 k1:pl.A0 p 1 (rw2 7 1)=K
 k2:pl.A0 p 2 (rw2 7 2)=K
 k4:pl.A0 p 1 (rw2 7 4)=K
 gone:pl.Q6 p 2 4= -1
def W9:begP pl.GV (pl.A0 pl.GV 1 (rw2 7 1)):=⟨pl.Da,rfl,rfl,rfl,rfl,rfl,rfl,rfl,Ϧ,Ϧ,Ϧ,Ϧ,Ϧ,Ϧ,Ϧ,rfl,Ϧ,Ϧ,Ϧ⟩
def Ug{n:Int}(h:1<=n/\n<=64):okB ⟨n,[],[]⟩:=⟨h,Ϩ,by simp[Ab,partsB],by simp[partsB],by simp[partsB],ϥ,by simp[Ab,partsB]⟩
def good_start(h:pl.Ag p=0):goodJ p (Db p):=by
 have a:=(pl.Bt h).2.1.2.2;have e0:Ab ⟨p.limit,[],[]⟩=[]:=by simp[Ab,partsB]
 rw[M0 h];refine⟨⟨Ug a,Ug a,by simp[Dv],by simp[Dv],ϥ,rfl,rfl,?_,?_,?_,?_⟩,?_⟩
 ·intro y hy;rw[e0]at hy;cases hy
 ·rw[e0];exact eJ
 ·intro y hy;rw[e0]at hy;cases hy
 ·intro y hy;rw[e0]at hy;cases hy
 ·intro y hy;rw[e0]at hy;cases hy
def FC(a:pl.Ag p=0)(h:goodJ p s)(v:Ev):stepJ p s v=if AN p s v≠0 then(AN p s v,j0,[])else if v.kind=2 then(0,E8 p (Fy s v.side v.time),[])else(0,IG p s v):=by
 have e:AV p s=0:=h.ok.none a;unfold stepJ;rw[AC (by rw[e];exact λk=>k rfl)]
def St1(K:ByteArray):Jn:=⟨⟨2,[⟨K,1,0,rw2 7 1,false⟩],[]⟩,⟨2,[],[]⟩,noMark,noMark,1⟩
def St2(K:ByteArray):Jn:=⟨⟨2,[⟨K,1,0,rw2 7 1,true⟩],[]⟩,⟨2,[⟨K,2,1,rw2 7 2,true⟩],[]⟩,noMark,noMark,2⟩
def St3(K:ByteArray):Jn:=⟨⟨2,[⟨K,1,0,rw2 7 1,true⟩],[]⟩,⟨2,[⟨K,2,1,rw2 7 2,true⟩],[]⟩,4,noMark,2⟩
def ch1:ch.Chg:=⟨1,rw2 7 1++bt.D3 2⟩
def ch2:ch.Chg:=⟨3,rw2 7 1++bt.D3 2⟩
def ch3:ch.Chg:=⟨4,rw2 7 1++rw2 7 2⟩
def ch4:ch.Chg:=⟨1,rw2 7 4++rw2 7 2⟩
def ZS:Dx []=[]:=by simp[Dx]
def L6(y:Ent):Dx [y]=[y]:=by simp[Dx]
def I0{side:Int}(h:BJ s (3 - side)=noMark):Df p s side=noMark:=AE h
def OS(met:Bool)(h1:pl.hasB p v.side v.row=true)(a:Df p s v.side<v.time):Fs p s v met=⟨(AP s v.side (Dr (Ar s v.side) ⟨pl.A0 p v.side v.row,v.time,s.seq,v.row,met⟩)).L,(AP s v.side (Dr (Ar s v.side) ⟨pl.A0 p v.side v.row,v.time,s.seq,v.row,met⟩)).R,(AP s v.side (Dr (Ar s v.side) ⟨pl.A0 p v.side v.row,v.time,s.seq,v.row,met⟩)).lm,(AP s v.side (Dr (Ar s v.side) ⟨pl.A0 p v.side v.row,v.time,s.seq,v.row,met⟩)).rm,(AP s v.side (Dr (Ar s v.side) ⟨pl.A0 p v.side v.row,v.time,s.seq,v.row,met⟩)).seq+1⟩:=by
 unfold Fs;rw[AE ⟨h1,a⟩]
def St0:Jn:=⟨⟨2,[],[]⟩,⟨2,[],[]⟩,noMark,noMark,0⟩
def L8(y:Ent):Dr ⟨2,[],[]⟩ y=⟨2,[y],[]⟩:=by
 unfold Dr;rw[show Dx (([]:List Ent)++[y])=[y]from L6 y];rfl
def L9(a:p.kind=1):IG p s v=(Fs p (Dh p s v) v (!(partners p s v).isEmpty),DX p s v):=by
 unfold IG;rw[AC (by rw[a];decide)]
def OT(side:Int):Eo 4 side=true:=rfl
theorem Agv(h:begP p K):stepJ p (Db p) ev1=(0,St1 K,[ch1]):=by
 rw[FC h.err (good_start h.err),M0 h.err,h.limit];show(if AN p St0 ev1≠0 then(AN p St0 ev1,j0,[])else if ev1.kind=2 then(0,E8 p (Fy St0 ev1.side ev1.time),[])else(0,IG p St0 ev1))=_;have e:AN p St0 ev1=0:=by
  simp[AN,ev1,pl.Bw,tm.Br,h.e1,BJ,noMark,Ar,Ab,partsB,St0]
 have a:partners p St0 ev1=[]:=by
  simp[partners,ev1,h.h1,FX,Ar,Ab,partsB,ZS,St0]
 have b:Dh p St0 ev1=St0:=by
  unfold Dh;rw[a];rfl
 rw[AC (by rw[e];exact λk=>k rfl),AC Ϥ,L9 h.kind,b,a,OS _ h.h1 (by rw[I0 rfl];decide)];unfold DX;rw[a,h.mode];show(0,_,_)=_;have d:pl.A0 p ev1.side ev1.row=K:=h.k1;rw[d];simp only[ev1,Ar,AP,St0,L8,OT,Ce,DT];simp[St1,ch1,h.r,L8]
def Yg(h:begP p K):goodJ p (St1 K):=by
 have:=good_step (p:=p) (s:=Db p) (v:=ev1) (good_start h.err).wf ⟨FA Ϥ Ϥ,Ϥ⟩ (by rw[Agv h]);rw[Agv h]at this;exact this
theorem Agw(h:begP p K):stepJ p (St1 K) ev2=(0,St2 K,[ch2,ch3]):=by
 rw[FC h.err (Yg h)];have e:AN p (St1 K) ev2=0:=by
  simp[AN,ev2,pl.Bw,tm.Br,h.e2,BJ,noMark,Ar,Ab,partsB,St1]
 have a:partners p (St1 K) ev2=[⟨K,1,0,rw2 7 1,false⟩]:=by
  simp[partners,ev2,h.h2,FX,Ar,Ab,partsB,L6,St1,h.k2,Hg,toJ,h.kind,h.low,h.high]
 have b:Dh p (St1 K) ev2=⟨⟨2,[⟨K,1,0,rw2 7 1,true⟩],[]⟩,⟨2,[],[]⟩,noMark,noMark,1⟩:=by
  unfold Dh;rw[a];rfl
 rw[AC (by rw[e];exact λk=>k rfl),AC Ϥ,L9 h.kind,b,a,OS _ h.h2 (by rw[I0 rfl];decide)];unfold DX;rw[a,h.mode];have d:pl.A0 p ev2.side ev2.row=K:=h.k2;rw[d];simp only[ev2,Ar,AP,L8,OT,Ce,DT];simp[St2,ch2,ch3,h.r,L8]
def Yh(h:begP p K):goodJ p (St2 K):=by
 have:=good_step (p:=p) (s:=St1 K) (v:=ev2) (Yg h).wf ⟨FA Ϥ Ϥ,Ϥ⟩ (by rw[Agw h]);rw[Agw h]at this;exact this
def Agx(h:begP p K):stepJ p (St2 K) ev3=(0,St3 K,[]):=by
 rw[FC h.err (Yh h)];have e:AN p (St2 K) ev3=0:=by
  simp[AN,ev3,pl.Bw,tm.Br,BJ,noMark,St2]
 rw[AC (by rw[e];exact λk=>k rfl),AE (show ev3.kind=2 from rfl)];have a:Df p (St3 K) 1=noMark:=I0 rfl;have b:Df p (St3 K) 2= -1:=by
  unfold Df;rw[AC (show BJ (St3 K) (3 - 2)≠noMark from show(4:Int)≠noMark by decide)];exact h.gone
 have d:Fy (St2 K) ev3.side ev3.time=St3 K:=rfl;rw[d];simp only[E8,h.kind,Nh,a,b];simp[St3,Ei,Fe,noMark,ET]
def OU(h:begP p K):goodJ p (St3 K):=by
 have:=good_step (p:=p) (s:=St2 K) (v:=ev3) (Yh h).wf ⟨λc a=>(by cases a),Ϥ⟩ (by rw[Agx h]);rw[Agx h]at this;exact this
def beg4(h:begP p K):stepJ p (St3 K) ev4=(7,j0,[]):=by
 rw[FC h.err (OU h)];have e:AN p (St3 K) ev4=7:=by
  simp[AN,ev4,pl.Bw,tm.Br,h.e3,BJ,noMark,St3]
 rw[AE (by rw[e];decide),e]
theorem beg5(h:begP p K):∃s,stepJ p (St3 K) ev5=(0,s,[ch4])/\s.lm=4/\s.rm=noMark/\s.seq=3/\goodJ p s:=by
 have e:AN p (St3 K) ev5=0:=by
  simp[AN,ev5,pl.Bw,tm.Br,h.e4,BJ,noMark,Ar,Ab,partsB,St3]
 have d:partners p (St3 K) ev5=[⟨K,2,1,rw2 7 2,true⟩]:=by
  simp[partners,ev5,h.h4,FX,Ar,Ab,partsB,L6,St3,h.k4,Hg,toJ,h.kind,h.low,h.high]
 have a:stepJ p (St3 K) ev5=(0,IG p (St3 K) ev5):=by
  rw[FC h.err (OU h),AC (by rw[e];exact λk=>k rfl),AC Ϥ]
 have f:(IG p (St3 K) ev5).2=[ch4]:=by
  simp only[IG,h.kind,DX,d];simp[ev5,Eo,h.mode,DT,ch4]
 have b:(IG p (St3 K) ev5).1=Fs p (Dh p (St3 K) ev5) ev5 true:=by
  simp only[IG,h.kind,d];simp
 have g:=good_step (p:=p) (s:=St3 K) (v:=ev5) (OU h).wf ⟨FA Ϥ Ϥ,Ϥ⟩ (by rw[a]);refine⟨(IG p (St3 K) ev5).1,?_,?_,?_,?_,?_⟩
 ·rw[a,<-f]
 ·rw[b];unfold Fs;dsimp only;split<;>simp[AP,Dh,ev5,St3]
 ·rw[b];unfold Fs;dsimp only;split<;>simp[AP,Dh,ev5,St3]
 ·rw[b];unfold Fs;dsimp only;split<;>simp[AP,Dh,ev5,St3]
 ·rw[a]at g;exact g
attribute [local go_sem] Oper.semAt_some
variable {w w0 : ϟ} {N : Nat} {t : Value} {e : Eng} {y : EX} {L : List CO}
structure stepEAt(w0 w':World)(e:Eng)(y:EX)(t:Value)(L:List CO):Prop where
 l:OB w' w0.heap.size y.y.l e.j.L
 r:OB w' w0.heap.size y.y.r e.j.R
 cg:CG w' w0.heap.size t L
 v:ch.VO w' w0.heap.size (vS y.va (ϲ e.v) y.vc) e.v
def Ji:calmT 42:=⟨Ϥ,Ϥ,Ϥ⟩
def QC{g:Nat}{T:TypeId}{t:TypeId}(a:Am w N T)(b:Am w g t)(h:t≠T)(o:Nat)(u:Value):(w.setCell ⟨N,o,none⟩ u).heap[g]? =w.heap[g]? :=CB _ _ _ _ (tyAt_apart b a h)
theorem OV{base N:Nat}{v:Value}{L:List CO}:∀(l:List Value) (o:Nat) (w:ϟ),CG w base v L->Am w N 42->CG (w.setCells N o l) base v L
 |[],_,_,h,_=>h
 |u::l,o,w,h,hN=>OV l (o+1) _ (P6 h hN Ϥ Ϥ o u) (tyAt_set hN _ _)
theorem Jj{base N:Nat}{v:Value}{out:List ch.Cnt}:∀(l:List Value) (o:Nat) (w:ϟ),ch.VO w base v out->Am w N 42->ch.VO (w.setCells N o l) base v out
 |[],_,_,h,_=>h
 |u::l,o,w,h,hN=>Jj l (o+1) _ (h.other (λg a=>a.elim (λk=>QC hN k Ϥ o u) (λk=>QC hN k Ϥ o u))) (tyAt_set hN _ _)
def I1(h:stepEAt w0 w e y t L)(a:Am w N 42)(l:List Value)(o:Nat):stepEAt w0 (w.setCells N o l) e y t L:=⟨BG Ji _ _ _ h.l a,BG Ji _ _ _ h.r a,OV _ _ _ h.cg a,Jj _ _ _ h.v a⟩
def Si(w0:ϟ)(h:w0.heap.size<=w.heap.size):stepEAt w0 w e0 ex0 (vS none 0 0) []:=⟨Es (DJ h),Es (DJ h),CG.start h,ch.VO.nil h⟩
def FG(p:pl.Pln)(e:Eng)(v:Ev)(r:Int×Eng×List ch.Chg):Prop:=En p e=0/\(((stepJ p e.j v).1≠0/\r=((stepJ p e.j v).1,e0,[]))\/
 ((stepJ p e.j v).1=0/\ch.Bl (stepJ p e.j v).2.2=0/\ch.Gq (stepJ p e.j v).2.2/\(∀i,i<ϲ (stepJ p e.j v).2.2->ch.Lu (ch.Bd e.v) (stepJ p e.j v).2.2 i=0)/\
   ∃out,ch.Bd out=ch.atK (ch.Bd e.v) (stepJ p e.j v).2.2 (ϲ (stepJ p e.j v).2.2)/\(∀c∈out,rowOk c.r)/\r=(0,⟨(stepJ p e.j v).2.1,out⟩,(stepJ p e.j v).2.2)))
def Sj{p:pl.Pln}(h:En p e=0):AV p e.j=0/\ch.Av e.v=0:=by
 unfold En at h;split at h
 ·rename_i k;exact absurd h k
 ·rename_i k;split at h
  ·rename_i a;exact absurd h a
  ·rename_i a;exact⟨fA.1 k,fA.1 a⟩
theorem ZT(p:pl.Pln)(x:pl.PA)(e:Eng)(y:EX)(v:Ev)(O:Ϡ)(Z:Nat)(r:Int×Eng×List ch.Chg)(w:ϟ)(hw:pl.wfPlan p)(hp:pl.planAt w p x)(hg:p.grouped=false/\p.kind=1)(h:enAt w e y)(Y:wfEn e)(hv:evAt w v O)(hr:FG p e v r):
 χ 48 #[pl.Ai p x,enV e y,evV v O Z] w λo w'=>(∃b t L,o= .returned (.tuple #[enV r.2.1 b,t,vI r.1])/\L.map CO.chg=r.2.2/\stepEAt w w' r.2.1 b t L)/\Ϣ w w':=by
 have KC:ϡ (∀a,Ϣ w a->CT 27 #[pl.Ai p x,enV e y] a (ψ a (vI 0))):=λa E=>by
  have:=Ww p x e y a hw (pl.Ae hp E) hg.1 (h.below E) Y;rw[hr.1]at this;exact this
 have D:=hIz (λ(a:ϟ) (E:Ϣ w a)=>Ab4 p x e.j y.y v O Z a hg.2 hw (pl.Ae hp E) (h.j.below E) Y.j (hv.below E));have KF:ϡ (∀a G J tn,Ϣ w a->ch.Gp a G (stepJ p e.j v).2.2->tn=ϲ (stepJ p e.j v).2.2->ch.Gq (stepJ p e.j v).2.2->tn<=9223372036854775807->CT 98 #[vS y.va (ϲ e.v) y.vc,vS G tn J] a λo w'=>ch.UO a.heap.size e.v (stepJ p e.j v).2.2 o w'/\Ϣ a w'):=λa G J tn E hc hn bb hl=>by
  subst hn;exact ch.AaA y.va G y.vc J e.v _ a (ch.Bp h.v E) Y.v Y.n hc bb hl
 have ak:ϡ (ch.Av e.v=0):=(Sj hr.1).2;have HG:ϡ (p.grouped=false):=hg.1;have ad:ϡ (ϲ (stepJ p e.j v).2.2<=10000):=Ud p e.j v;obtain⟨ST,am⟩:=nM (stepJ p e.j v);have H:ϡ _:=hr.2;replace H:=H.o;rw[am]at D KF H ad;obtain⟨W,l,U⟩:=ST;dsimp only at D KF H ad;clear hg;clear hw hp h Y hv am hr;unfold pl.Ai at KC D⊢;rw[FQ]at KC⊢;rw[AU]at D;unfold evV at D⊢;obtain⟨kd,ar⟩:=nM v.kind;obtain⟨sd,ax⟩:=nM v.side;obtain⟨ah,a1⟩:=nM v.time;obtain⟨rl,av⟩:=nM (ϲ v.row);rw[ar,ax,a1,av]at D⊢;clear ar ax a1 av;go_enter func48,ntmps48;go_upto_region 1 with fail;generalize M:(World.alloc (World.alloc (World.alloc (World.alloc w _) _) _) _)=V;have ag:Ϣ w V:=by rw[<-M];exact((Ϯ.alloc ϥ _).alloc Ϫ _).alloc Ϫ _
 have n:ϡ (boxP V w p x):=by
  subst M;exact Af (BF ..) ((Ϯ.alloc ϥ _).alloc Ϫ _)
 have m:ϡ (Ek V (w.heap.size+1) e y):=by
  subst M;have:=F7 (ϊ w (Φ p x) 32) e y 42;rw[D0]at this;exact B5 this (Ϯ.alloc ϥ _)
 have HV:ϡ (ϝ V (w+1+1) (vI kd) (vI sd) (vI ah) (vS O rl Z)):=by
  subst M;refine⟨?_,?_,?_,?_⟩<;>go_simp
 have d:ϡ (GJ V (w.heap.size+1+1+1)/\Am V (w+1+1+1) 42):=by
  subst M;have h1:=Jb (ϊ (ϊ (ϊ w (Φ p x) 32) (ξ e y) 42) #[vI kd,vI sd,vI ah,vS O rl Z] 90);have h2:=DE (ϊ (ϊ (ϊ w (Φ p x) 32) (ξ e y) 42) #[vI kd,vI sd,vI ah,vS O rl Z] 90) (.cells #[Ϗ,ώ,ώ,Ϗ,ώ,ώ,Ϗ,Ϗ,Ϗ,ώ,ώ] 42);rw[D0,D0,D0]at h1 h2;exact⟨h1,_,_,h2⟩
 clear M;obtain⟨v0,v1,v2,v3,v4,v5,v6,v7,v8,v9,Q,aa,ab⟩:=n.o;obtain⟨u0,u1,u2,u3,u4,u5,u6,u7,u8,u9,u10⟩:=m.o;go_wp2_with fail;refine(KC.o _ ag).mono ?_;rintro o1 a ⟨rfl,I⟩;have g:Ϣ w a:=bT ag I;replace n:ϡ (boxP a w p x):=Af n.o I;replace m:ϡ (Ek a (w.heap.size+1) e y):=B5 m.o I;replace d:ϡ (GJ a (w.heap.size+1+1+1)/\Am a (w+1+1+1) 42):=⟨Ca d.o.1 I,Ak d.o.2 I⟩;obtain⟨f0,f1,f2,f3⟩:=HV.o;have zz:=lk4 I f0 f1 f2 f3;clear f0 f1 f2 f3;obtain⟨f0,f1,f2,f3⟩:=zz;clear v0 v1 v2 v3 v4 v5 v6 v7 v8 v9 Q aa ab u0 u1 u2 u3 u4 u5 u6 u7 u8 u9 u10 I ag KC HV;obtain⟨v0,v1,v2,v3,v4,v5,v6,v7,v8,v9,Q,aa,ab⟩:=n.o;obtain⟨u0,u1,u2,u3,u4,u5,u6,u7,u8,u9,u10⟩:=m.o;go_wp2_with fail;refine(D.o _ g).mono ?_;rintro o2 w2 ⟨⟨b,t,L,rfl,hl,ay⟩,X⟩;have a9:=g.size;replace g:Ϣ w w2:=bT g X;have HL:=hV0 hl;replace n:ϡ (boxP w2 w p x):=Af n.o X;replace m:ϡ (Ek w2 (w.heap.size+1) e y):=B5 m.o X;replace d:ϡ (GJ w2 (w.heap.size+1+1+1)/\Am w2 (w+1+1+1) 42):=⟨Ca d.o.1 X,Ak d.o.2 X⟩;have q:ϡ (stepAt w w2 l b t L):=Ub ay a9;clear v0 v1 v2 v3 v4 v5 v6 v7 v8 v9 Q aa ab u0 u1 u2 u3 u4 u5 u6 u7 u8 u9 u10 f0 f1 f2 f3 hl ay D;rw[AU];have a5:ϡ (ϲ L<=10000):=by show (ϲ L)<=10000;rw[<-lMp (f:=CO.chg),HL.o];exact ad.o
 go_upto_region 5 with fail;generalize af:(World.alloc w2 _)=j;have u:Ϣ w2 j:=by rw[<-af];exact Ϯ
 have aj:ϡ (BU j w2 l b):=by
  subst af;exact C5 ..
 clear af;replace g:Ϣ w j:=bT g u;replace m:ϡ (Ek j (w.heap.size+1) e y):=B5 m.o u;replace n:ϡ (boxP j w p x):=Af n.o u;replace d:ϡ (GJ j (w.heap.size+1+1+1)/\Am j (w+1+1+1) 42):=⟨Ca d.o.1 u,Ak d.o.2 u⟩;replace q:ϡ (stepAt w j l b t L):=⟨q.o.l.below u,q.o.r.below u,q.o.cg.below u⟩;have ht:=CG.chgs q.o.cg;by_cases h0:W=0
 rotate_left
 ·have bc:(W !=0)=true:=by simpa using h0
  obtain⟨_,rfl⟩:W≠0/\r=(W,e0,[]):=H.elim id (λk=>absurd k.1 h0);clear ht;go_upto_region 6 with fail;have T:ϡ (stepEAt w (World.setCells j (w.heap.size+1+1+1) 0 [Ϗ,ώ,ώ,Ϗ,ώ,ώ,Ϗ,Ϗ,Ϗ,ώ,ώ]) e0 ex0 (vS none 0 0) []):=I1 (Si w g.size) d.o.2 _ _
  try dsimp only
  have S:ϡ ((World.setCells j (w.heap.size+1+1+1) 0 [Ϗ,ώ,ώ,Ϗ,ώ,ώ,Ϗ,Ϗ,Ϗ,ώ,ώ]).rangeAt (w.heap.size+1+1+1) 0 [Ϗ,ώ,ώ,Ϗ,ώ,ώ,Ϗ,Ϗ,Ϗ,ώ,ώ]):=Gs d.o.1 rfl;have R:ϡ (Ϣ w (World.setCells j (w.heap.size+1+1+1) 0 [Ϗ,ώ,ώ,Ϗ,ώ,ώ,Ϗ,Ϗ,Ϗ,ώ,ώ])):=below_setCells ϣ _ 0 _ g;go_wp2_with ((with_reducible refine Ft ?_ 42 (.tmp 6) (.tmp 34) ?_ (w.heap.size+1+1+1) 0 #[Ϗ,ώ,ώ,Ϗ,ώ,ώ,Ϗ,Ϗ,Ϗ,ώ,ώ] ?_ ?_ ?_ ?_ ?_ ?_);exact rfl;exact rfl;exact rfl;exact rfl;exact d.o.1;exact Kr;exact Ϭ);generalize (World.setCells j (w.heap.size+1+1+1) 0 [Ϗ,ώ,ώ,Ϗ,ώ,ώ,Ϗ,Ϗ,Ϗ,ώ,ώ])=W' at S R T⊢;obtain⟨z0,z1,z2,z3,z4,z5,z6,z7,z8,z9,ai⟩:=TU S.o;exact CD (v:=.tuple #[.agg #[Ϗ,ώ,ώ,Ϗ,ώ,ώ,Ϗ,Ϗ,Ϗ,ώ,ώ],ώ,vI W]) (by simp[results,results48,go_sem,z0,z1,z2,z3,z4,z5,z6,z7,z8,z9,ai]) rfl ⟨⟨ex0,ώ,rfl,T.o⟩,R.o⟩
 obtain⟨aq,a3,ap,out,au,aw,rfl⟩:_/\_/\_/\∃out,_/\_/\r=_:=H.elim (λk=>absurd h0 k.1) (λk=>k.2);subst h0
 try dsimp only
 obtain⟨G,az⟩:=nM (UQ t);obtain⟨J,a0⟩:=nM (AaI t);rw[az,a0,HL.o]at ht;obtain⟨rfl,ao⟩:=ht;have al:=KF.o j G J (ϲ L) g ao (by rw[<-HL.o,lMp]) a3 (by have:=a5.o;omega);have ac:ϡ (ch.Bl U=0/\(∀i,i<ϲ U->ch.Lu (ch.Bd e.v) U i=0)):=⟨aq,ap⟩;have ae:ϡ (ch.Bd out=ch.atK (ch.Bd e.v) U (ϲ U)/\(∀c∈out,rowOk c.r)):=⟨au,aw⟩;clear az a0 ao aq ap a3 au aw KF H;obtain⟨v0,v1,v2,v3,v4,v5,v6,v7,v8,v9,Q,aa,ab⟩:=n.o;obtain⟨u0,u1,u2,u3,u4,u5,u6,u7,u8,u9,u10⟩:=m.o;rw[HG.o]at Q;go_wp2_with fail;refine al.mono ?_;rintro o4 w4 ⟨a8,F⟩;rcases a8 with⟨hx,_⟩|⟨_,hx,_⟩|⟨_,_,k,a6,_,a7,_⟩|⟨_,_,_,z,A,C,hk,a2,a4,rfl,an⟩
 ·exact absurd ak.o hx
 ·exact absurd ac.o.1 hx
 ·exact absurd (ac.o.2 k a6) a7
 obtain rfl:z=out:=ch.AbN (ch.Hv a4 a2) ae.o.2 (hk.trans ae.o.1.symm);clear v0 v1 v2 v3 v4 v5 v6 v7 v8 v9 Q aa ab u0 u1 u2 u3 u4 u5 u6 u7 u8 u9 u10 m n hk a2 a4 ae ac ak;have ba:=g.size;replace g:Ϣ w w4:=bT g F;replace d:ϡ (GJ w4 (w.heap.size+1+1+1)/\Am w4 (w+1+1+1) 42):=⟨Ca d.o.1 F,Ak d.o.2 F⟩;obtain⟨q0,q1,q2,q3,q4,q5,q6,q7,q8⟩:=(Ay aj.o F);have T:ϡ (stepEAt w (World.setCells w4 (w.heap.size+1+1+1) 0 (ν l b.l b.r [ώ,vS A (ϲ z) C])) ⟨l,z⟩ ⟨b,A,C⟩ (vS G (ϲ L) J) L):=I1 ⟨q.o.l.below F,q.o.r.below F,q.o.cg.below F,an.mono ba⟩ d.o.2 _ _;clear an F u q aj al;have S:ϡ ((World.setCells w4 (w.heap.size+1+1+1) 0 (ν l b.l b.r [ώ,vS A (ϲ z) C])).rangeAt (w.heap.size+1+1+1) 0 (ν l b.l b.r [ώ,vS A (ϲ z) C])):=Gs d.o.1 rfl;have R:ϡ (Ϣ w (World.setCells w4 (w.heap.size+1+1+1) 0 (ν l b.l b.r [ώ,vS A (ϲ z) C]))):=below_setCells ϣ _ 0 _ g;go_wp2_with ((with_reducible refine Ft ?_ 42 (.tmp 6) (.tmp 66) ?_ (w.heap.size+1+1+1) 0 (ζ l b.l b.r [ώ,vS A (ϲ z) C]) ?_ ?_ ?_ ?_ ?_ ?_);exact rfl;exact rfl;exact rfl;exact rfl;exact d.o.1;exact Kr;exact Ϭ);generalize (World.setCells w4 (w.heap.size+1+1+1) 0 (ν l b.l b.r [ώ,vS A (ϲ z) C]))=W' at S R T⊢;obtain⟨z0,z1,z2,z3,z4,z5,z6,z7,z8,z9,ai⟩:=TU S.o;exact CD (v:=.tuple #[.agg (ζ l b.l b.r [ώ,vS A (ϲ z) C]),vS G (ϲ L) J,Ϗ]) (by simp[results,results48,go_sem,z0,z1,z2,z3,z4,z5,z6,z7,z8,z9,ai]) rfl ⟨⟨⟨b,A,C⟩,_,rfl,L,HL.o,T.o⟩,R.o⟩
def LA{w0':ϟ}(h:stepEAt w0 w e y t L)(a:w0'.heap.size<=w0.heap.size):stepEAt w0' w e y t L:=⟨CL h.l a,CL h.r a,RD h.cg a,h.v.mono a⟩
theorem WA(p:pl.Pln)(x:pl.PA)(e:Eng)(y:EX)(v:Ev)(j:Ϡ)(k X:Nat)(r:Int×Eng×List ch.Chg)(w:ϟ)(hw:pl.wfPlan p)(hp:pl.planAt w p x)(hg:p.grouped=false/\p.kind=1)(aa:boxP w X p x)(h:enAt w e y)(af:wfEn e)(hv:evAt w v j)(hr:FG p e v r):
 χ 47 #[enV e y,evV v j k,ω X] w λo w'=>(∃a t L,o= .returned (.tuple #[enV r.2.1 a,t,vI r.1])/\L.map CO.chg=r.2.2/\stepEAt w w' r.2.1 a t L)/\Ϣ w w':=by
 have i:=hIz (λ(b:ϟ) (m:Ϣ w b)=>ZT p x e y v j k r b hw (pl.Ae hp m) hg (h.below m) af (hv.below m) hr);have lp:=Le aa;obtain⟨C,D,H,I,J,M,O,Q,R,S,E,F,G⟩:=aa;clear hw hp h af hv hr hg;obtain⟨SE,d,SC⟩:=r;dsimp only at i⊢;unfold pl.Ai at i;rw[FQ e y]at i⊢;unfold evV at i⊢;obtain⟨q,ab⟩:=nM v.kind;obtain⟨z,ad⟩:=nM v.side;obtain⟨A,ae⟩:=nM v.time;obtain⟨u,ac⟩:=nM (ϲ v.row);rw[ab,ad,ae,ac]at i⊢;clear ab ad ae ac;go_enter func47,ntmps47;go_upto_region 1 with fail;generalize f:(World.alloc (World.alloc (World.alloc w _) _) _)=V;have l:Ϣ w V:=by rw[<-f];exact(Ϯ.alloc ϥ _).alloc Ϫ _
 have g:ϡ (GJ V (w.heap.size+1+1)/\Am V (w+1+1) 42):=by
  subst f;have Y:=Jb (ϊ (ϊ w (ξ e y) 42) #[vI q,vI z,vI A,vS j u k] 90);have Z:=DE (ϊ (ϊ w (ξ e y) 42) #[vI q,vI z,vI A,vS j u k] 90) (.cells #[Ϗ,ώ,ώ,Ϗ,ώ,ώ,Ϗ,Ϗ,Ϗ,ώ,ώ] 42);rw[D0,D0]at Y Z;exact⟨Y,_,_,Z⟩
 have ag:ϡ (Ek V w.heap.size e y):=by
  subst f;exact B5 (F7 ..) (Ϯ.alloc ϥ _)
 have e0:Δ V (w+1) 0 (vI q):=by subst f;go_simp
 have e1:Δ V (w+1) 1 (vI z):=by subst f;go_simp
 have e2:Δ V (w+1) 2 (vI A):=by subst f;go_simp
 have e3:Δ V (w+1) 3 (vS j u k):=by subst f;go_simp
 clear f;have zz:=Acx l C D H I J M O Q R S E F G;clear C D H I J M O Q R S E F G;obtain⟨C,D,H,I,J,M,O,Q,R,S,E,F,G⟩:=zz;obtain⟨u0,u1,u2,u3,u4,u5,u6,u7,u8,u9,u10⟩:=ag.o;go_wp2_with fail;refine(i.o _ l).mono ?_;rintro o b ⟨⟨a,t,L,rfl,hl,ai⟩,n⟩;have ah:Ϣ w b:=bT l n;replace g:ϡ (GJ b (w.heap.size+1+1)/\Am b (w+1+1) 42):=⟨Ca g.o.1 n,Ak g.o.2 n⟩;have W:ϡ (stepEAt w (World.setCells b (w.heap.size+1+1) 0 (μ d a)) d a t L):=I1 (LA ai l.size) g.o.2 _ _;rw[FQ d a];have U:ϡ ((World.setCells b (w.heap.size+1+1) 0 (μ d a)).rangeAt (w.heap.size+1+1) 0 (μ d a)):=Gs g.o.1 rfl;have T:ϡ (Ϣ w (World.setCells b (w.heap.size+1+1) 0 (μ d a))):=below_setCells ϣ _ 0 _ ah;go_wp2_with ((with_reducible refine Ft ?_ 42 (.tmp 5) (.tmp 12) ?_ (w.heap.size+1+1) 0 (ξ d a) ?_ ?_ ?_ ?_ ?_ ?_);exact rfl;exact rfl;exact rfl;exact rfl;exact g.o.1;exact Kr;exact Ϭ);generalize (World.setCells b (w.heap.size+1+1) 0 (μ d a))=W' at U T W⊢;obtain⟨z0,z1,z2,z3,z4,z5,z6,z7,z8,z9,aj⟩:=TU U.o;exact CD (v:=.tuple #[.agg (ξ d a),t,vI SE]) (by simp[results,results47,go_sem,z0,z1,z2,z3,z4,z5,z6,z7,z8,z9,aj]) rfl ⟨⟨a,t,L,rfl,hl,W.o⟩,T.o⟩
def Uh(s:Jn):Prop:=((∀l∈partsB s.L,ϲ l<=ύ)/\∀y∈Ab s.L,ϲ y.row<=ύ)/\((∀l∈partsB s.R,ϲ l<=ύ)/\∀y∈Ab s.R,ϲ y.row<=ύ)
theorem Ac2(s:Jn)(y z:JX)(w:ϟ)(h:joinAt w s y)(n:joinAt w s z)(d:Uh s):
 χ 42 #[joinV s y,joinV s z] w (ψ w (.bool true)):=by
 have G:ϡ (∀a,Ϣ w a->CT 93 #[.agg (Ω s.L y.l),.agg (Ω s.L z.l)] a (ψ a (.bool true))):=λa b=>TH s.L y.l z.l a (Ao h.l b) (Ao n.l b) d.1.1 d.1.2;have H:ϡ (∀a,Ϣ w a->CT 93 #[.agg (Ω s.R y.r),.agg (Ω s.R z.r)] a (ψ a (.bool true))):=λa b=>TH s.R y.r z.r a (Ao h.r b) (Ao n.r b) d.2.1 d.2.2;rw[AU,AU];clear h n d;go_enter func42,ntmps42;go_upto_region 1 with fail;generalize f:(World.alloc (World.alloc w _) _)=V;have C:Ϣ w V:=by rw[<-f];exact Ϯ.alloc ϥ _
 have l:ϡ (BU V w s y):=by
  subst f;exact Ay (C5 ..) Ϯ
 have m:ϡ (BU V (w+1) s z):=by
  subst f;have:=C5 (ϊ w (Ψ s y) 38) s z 38;rw[D0]at this;exact this
 clear f;obtain⟨u0,u1,u2,u3,u4,u5,u6,u7,u8⟩:=l.o;obtain⟨o,q,r,u,x,A,i,j,k⟩:=m.o;go_wp2_with fail;refine(G.o _ C).mono ?_;rintro e a ⟨rfl,g⟩;have F:Ϣ w a:=bT C g;clear u0 u1 u2 u3 u4 u5 u6 u7 u8 o q r u x A i j k;obtain⟨u0,u1,u2,u3,u4,u5,u6,u7,u8⟩:=Ay l.o g;obtain⟨o,q,r,u,x,A,i,j,k⟩:=Ay m.o g;go_wp2_with fail;refine(H.o _ F).mono ?_;rintro e w2 ⟨rfl,E⟩;have I:Ϣ w w2:=bT F E;have D:Ϣ V w2:=bT g E;clear u0 u1 u2 u3 u4 u5 u6 u7 u8 o q r u x A i j k;obtain⟨_,_,_,_,_,_,u6,u7,u8⟩:=Ay l.o D;obtain⟨_,_,_,_,_,_,i,j,k⟩:=Ay m.o D;go_wp2;go_ret;exact⟨ϥ,I⟩
end jn
namespace cd
open vl bf jn
end cd
namespace cd
open vl bf
variable {B base c : Nat} {w w' w0 w2 : ϟ} {bs : List UInt8} {v : Value}
def u64(n:Int):Nat:=(n % 18446744073709551616).toNat
def AM(n:Int):List UInt8:=be8 (u64 n) 8
def As(n:Int):ϲ (AM n)=8:=DZ _ _
def txt(s:List UInt8):List UInt8:=AM (ϲ s)++s
def keepW(w w':World):Prop:=Below 0 w w'/\∀g e,Am w g e->e≠5->e≠64->w'.heap[g]? =w.heap[g]?
def keepW.refl(w:ϟ):keepW w w:=⟨bR,λ_ _ _ _ _=>rfl⟩
def keepW.trans{a b c:ϟ}(h:keepW a b)(k:keepW b c):keepW a c:=⟨h.1.trans k.1,λg e i d f=>(k.2 g e (A1 i (h.2 g e i d f)) d f).trans (h.2 g e i d f)⟩
def keepW.of(h:Ϣ w w'):keepW w w':=⟨h.mono (At _),λg e a _ _=>h.block g (A7 a)⟩
structure WR(w:World)(base B:Nat)(bs:List UInt8):Prop where
 cell:∃v,Δ w B 0 v/\ownB w base v bs
 frz:Ξ w B 0
 tb:Am w B 64
 low:base<=B
def WR.same(h:WR w base B bs)(h1:w'.heap[B]? =w.heap[B]?)(d:∀g,Am w g 5->w'.heap[g]? =w.heap[g]?):WR w' base B bs:=by
 obtain⟨v,f,b⟩:=h.cell;exact⟨⟨v,(cOb (w:=w) (a:=⟨B,0,none⟩) h1).trans f,A4 b (λg i=>d g (Az b i))⟩,(aG (w:=w) (a:=⟨B,0,none⟩) h1).trans h.frz,A1 h.tb h1,h.low⟩
def WR.below(h:WR w base B bs)(a:Ϣ w w'):WR w' base B bs:=h.same (a.block B (A7 h.tb)) (λg b=>a.block g (A7 b))
def WR.lt(h:WR w base B bs):B<w.heap.size:=A7 h.tb
theorem ZU{M:Array Oper}{o:Oper}{a:Act}{K:Act->World->Prop}{Q:Exit->Act->World->Prop}{E:Prop}(q:o.guard=none)(s x:Operand)
 (C:o.op= .call {callee:=.builtin .append,args:=#[s,x],argTypes:=#[51,51]})
 (base:Nat) (v:Value) (l:List UInt8) (b:UInt8) (X:Value) (n:X=EL b) (i:Nat) (z:ϲ l=i) (d:ϟ) (A:ownB d base v l) (T:i<=100000000000000) (S:base<=d.heap.size)
 (D:a.eval s=v) (F:a.eval x=vS (ϋ d) 1 1)
 (h:∀g f w2,ownB w2 base (vS (ϋ g) (i+1) f) (l++[b])->(d.alloc (.cells #[X] 5)).grownBy w2 v.ownBlock->K (a.put o.dst (vS (ϋ g) (i+1) f)) w2):
 if Region.wanted o (yielded M a.tmps)=true then Oper.wp prog o a (ϊ d #[X] 5) K Q else E:=by
 subst n;subst z;obtain⟨J,r,G,H,I⟩:=IR Tryz.info5;refine step_append_lies _ q s x 51 C base 5 J (.int .u8 0) 1 1 underlying51 r G H I rfl Ϥ v (ϲ l) (l.map EL) D
  (WD A _) ⟨d,0,none⟩ 1 1 [EL b] F rfl (cell_one_new _ _ _) (by intro u j;simp at j;subst j;rfl) Ϥ ϭ ϣ Ϩ (d.heap.size+1) ϥ ?_
 intro g f w2 k m O R;refine h g f w2 ?_ m;unfold ownB;rw[lAp,DQ];exact k
def Ed{b:Option Nat}(a:Ϣ w w0)(d:w0.grownBy w2 b)(f:B<w.heap.size)(g:b≠some B):w2.heap[B]? =w.heap[B]? :=by
 rw[d.block B (by have:=a.size;omega) (λe=>g e.symm)];exact a.block B f
theorem Ac3{bs':List UInt8}{b:Value}(h:WR w base B bs)(m:ownB w base v bs)(j:Ϣ w w0)(l:w0.grownBy w2 v.ownBlock)(q:ownB w2 base b bs')(n:base<=w.heap.size):
 WR (ό w2 B 0 b) base B bs'/\Below base w (ό w2 B 0 b)/\keepW w (ό w2 B 0 b):=by
 have z:∀g e,Am w g e->e≠5->g≠B->(w2.setCell ⟨B,0,none⟩ b).heap[g]? =w.heap[g]? :=λg e f D G=>by
  rw[CB _ _ _ _ G];exact Ed j l (A7 f) (λd=>tyAt_apart f (Az m d) D rfl)
 have i:w2.heap[B]? =w.heap[B]? :=Ed j l h.lt (λd=>tyAt_apart h.tb (Az m d) Ϥ rfl);obtain⟨I,A,_⟩:=h.cell;have C:Δ w2 B 0 I:=(cOb (w:=w) (a:=⟨B,0,none⟩) i).trans A;have E:Ξ w2 B 0:=(aG (w:=w) (a:=⟨B,0,none⟩) i).trans h.frz;have x:b.ownBlock≠some B:=λd=>tyAt_apart (A1 h.tb i) (Az q d) Ϥ rfl;have o:Below base w (ό w2 B 0 b):=(((j.mono n).grown l (B0 n j.size) (λk H=>(aB m k H).1))).setCell h.low b;exact⟨⟨⟨b,cI _ _ _ (by rw[C];rfl),A4 q (λg F=>CB _ _ _ _ (λd=>x ((Bk some (show B=g from d.symm)).symm▸F)))⟩,by rw[aD];exact E,tyAt_set (A1 h.tb i) _ _,h.low⟩,o,o.mono (At _),λg e f r u=>z g e f r (tyAt_apart f h.tb u)⟩
def WB(u j:Nat)(h:j<8):(.int .u8 (IntKind.u8.wrap ((u:Int)/2 ^ (56 - 8 * (j:Int)).toNat)):Value)=EL (Dj u j):=by
 rw[<-Mh u j,show(56 - 8 * (j:Int)).toNat=56 - 8 * j by omega]
 congr 1
def WC(n:Int):u64 n<=18446744073709551615:=by unfold u64;omega
def Ac4(n:Int):IntKind.u64.wrap n=((u64 n:Nat):Int):=by rw[Tc];unfold u64;omega
theorem Cd(base B:Nat)(bs:List UInt8)(n:Int)(w:ϟ)(J:base<=w.heap.size)(h:WR w base B bs)(A:ϲ bs<=10000000000000):
 χ 60 #[ω B,vI n] w λe w'=>e= .returned (.tuple #[])/\WR w' base B (bs++AM n)/\Below base w w'/\keepW w w':=by
 have U:=Ac4 n;obtain⟨u,m⟩:∃u,u64 n=u:=⟨_,rfl⟩;have ac:u<=18446744073709551615:=by rw[<-m];exact WC n
 unfold AM;rw[m]at U⊢;have F:=hV0 A;clear m A;go_enter func60,ntmps60;go_wp2
 go_loopw [4] (λi wr=> ∃j:Nat,j<=8/\i=vI (56 - 8 * (j:Int))/\WR wr base B (bs++be8 u j)/\Below base w wr/\keepW w wr) (λi _=>(intOf i+8).toNat)
 case atStart=>exact⟨0,ϣ,rfl,by simpa[be8]using h,bR,keepW.refl _⟩
 case round=>
  obtain⟨j,hj,rfl,D,l,z⟩:=hrel;have R:=DZ u j;have r:base<=wr.heap.size:=B0 J l.size;have b:ϡ (WR wr base B (bs++be8 u j)/\Below base w wr/\keepW w wr):=⟨D,l,z⟩;clear h D l z;by_cases S:j<8
  ·obtain⟨v,O,C⟩:=b.o.1.cell;have Q:=b.o.1.frz;have k:ϡ (∀W,Ϣ wr W->ownB W base v (bs++be8 u j)):=λW I=>NY C I;have M:=b.o.1.lt;clear C;have E:=hV0 O;have o:ϡ (v.ownBlock≠some B/\Ξ wr B 0):=⟨λG=>tyAt_apart b.o.1.tb (Az (k.o wr bR) G) Ϥ rfl,Q⟩;go_upto_region 3 with fail
   go_region_law (refine ZU (by rfl) (.tmp 13) (.tmp 19) (by rfl) base v (bs++be8 u j) (Dj u j) _ (WB u j S) (ϲ bs+j) (by rw[lAp,R]) wr.drew (k.o _ bR.drew) (by have:=F.o;omega) r (by rfl) (by rfl) ?_;intro f d w2 T x;have q:=Ed (bR.drew.alloc ϥ _) x M o.o.1;have aa:Δ w2 B 0 v:=(cOb (w:=wr) (a:=⟨B,0,none⟩) q).trans E.o;have ab:Ξ w2 B 0:=(aG (w:=wr) (a:=⟨B,0,none⟩) q).trans o.o.2)
   all_goals
    obtain⟨V,X,Y⟩:=Ac3 b.o.1 (k.o wr bR) (bR.drew.alloc ϥ _) x T r;have g:ϡ (WR (ό w2 B 0 (vS (ϋ f) (ϲ bs+j+1) d)) base B (bs++be8 u j++[Dj u j])/\Below base w (ό w2 B 0 (vS (ϋ f) (ϲ bs+j+1) d))/\keepW w (ό w2 B 0 (vS (ϋ f) (ϲ bs+j+1) d))):=⟨V,b.o.2.1.trans X,b.o.2.2.trans Y⟩;generalize w2.setCell ⟨B,0,none⟩ (vS (ϋ f) (ϲ bs+j+1) d)=Z at g⊢;go_wp2;go_roundw;exact⟨j+1,ϣ,by go_num,by rw[NT,<-Bx];exact g.o.1,g.o.2⟩;simp[intOf];omega
  ·have H:j=8:=ϣ;subst H;go_wp2
   go_end0
   exact⟨rfl,b.o⟩
def Agy:prog.underlying 9=some .string:=Ϧ
def Yi{e:TypeId}{s:Nat}{n:Nat}{f:List Value}(h:w.ownsRow base e s v n f):∃b a,v=vS b n a:=by
 rcases h.2 with⟨rfl,d⟩|⟨g,a,i,rfl,_⟩
 ·exact⟨none,0,by rw[d]⟩
 ·exact⟨_,_,rfl⟩
theorem AeS(base B:Nat)(bs:List UInt8)(s:ByteArray)(w:ϟ)(j:base<=w.heap.size)(h:WR w base B bs)(O:ϲ bs<=10000000000000)(Q:s.size<=10000000000000):
 χ 185 #[ω B,.string s] w λe w'=>e= .returned (.tuple #[])/\WR w' base B (bs++s.data.toList)/\Below base w w'/\keepW w w':=by
 obtain⟨C,l,x,z,A⟩:=IR Tryz.info5;have G:=hV0 l;obtain⟨v,r,b⟩:=h.cell;have g:=hV0 h;have f:=hV0 b;have n:ϡ (v.ownBlock≠some B):=λo=>tyAt_apart h.tb (Az b o) Ϥ rfl;have u:=h.frz;clear h b;go_enter func185,ntmps185;have q:=g.o.lt;have d:ϡ (Ξ w B 0/\Δ w B 0 v):=⟨u,r⟩;go_wp2_with (at_builtin;refine Lib.wpList_append_own_string _ rfl (.tmp 8) (.tmp 9) 51 9 rfl base 5 C underlying51 Agy l x z A v (ϲ bs) (bs.map EL) rfl f.o s rfl ϭ ϣ j ?_;intro R w2 m k _;obtain⟨H,I,rfl⟩:=Yi m;have i:=Ed bR k q n.o;have J:Δ w2 B 0 v:=(cOb (w:=w) (a:=⟨B,0,none⟩) i).trans d.o.2;have M:Ξ w2 B 0:=(aG (w:=w) (a:=⟨B,0,none⟩) i).trans d.o.1);obtain⟨D,E,F⟩:=Ac3 (bs':=bs++s.data.toList) g.o f.o bR k (by
  unfold ownB;rw[lAp,A2,DQ];exact m) j
 go_end0
 exact⟨rfl,D,E,F⟩
def WO(base B:Nat)(w:World)(bs:List UInt8)(e:Ending)(w':World):Prop:=e= .returned (.tuple #[])/\WR w' base B bs/\Below base w w'/\keepW w w'
def JA(s:List UInt8):ϲ (txt s)=8+ϲ s:=by unfold txt;rw[lAp,As]
theorem Ui(base B:Nat)(bs:List UInt8)(s:ByteArray)(w:ϟ)(d:base<=w.heap.size)(h:WR w base B bs)(q:ϲ bs+s.size<=9999900000000):
 χ 113 #[ω B,.string s] w (WO base B w (bs++txt s.data.toList)):=by
 have f:ϡ (CT 60 #[ω B,vI s.size] w (WO base B w (bs++AM s.size))):=Cd base B bs s.size w d h ϣ;have g:ϡ (∀a,Below base w a->WR a base B (bs++AM s.size)->CT 185 #[ω B,.string s] a (WO base B a (bs++AM s.size++s.data.toList))):=λa b i=>AeS base B _ s a (B0 d b.size) i (by rw[lAp,As];omega) ϣ;have o:=h.lt;clear h;unfold txt;rw[A2];go_enter func113,ntmps113;go_wp2_with fail;refine f.o.mono ?_;rintro e a ⟨rfl,m,b,k⟩;go_wp2_with fail;refine(g.o a b m).mono ?_;rintro e w2 ⟨rfl,n,j,l⟩;go_wp2
 go_end0
 exact⟨rfl,by rw[<-Bx];exact n,b.trans j,k.trans l⟩
def Ck(r:List Cel):List UInt8:=txt (encR r)
theorem Iv(base B:Nat)(bs:List UInt8)(a:Ϡ)(cap:Nat)(r:List Cel)(w:ϟ)(i:base<=w.heap.size)(h:WR w base B bs)(A:ϲ bs<=9999000000000)(k:vl.rowAt w a r)(l:B8 r)(C:ϲ r<=8)(f:Aq r=0):
 χ 59 #[ω B,vS a (ϲ r) cap] w (WO base B w (bs++Ck r)):=by
 have g:ϡ (CT 112 #[vS a (ϲ r) cap] w (ψ w (.tuple #[.string ⟨(encR r).toArray⟩,Ϗ]))):=by
  have:=J2 a cap r w k l ϣ;unfold FY at this;rw[AE f,f]at this;exact this
 have z:ϲ (encR r)<=1048:=by
  have:=DU r (IU (by have:=f;unfold Aq at this;rw[AC ϣ]at this;exact this));omega
 have m:ϡ (∀b,Ϣ w b->CT 113 #[ω B,.string ⟨(encR r).toArray⟩] b (WO base B b (bs++Ck r))):=λb d=>Ui base B bs ⟨(encR r).toArray⟩ b (B0 i d.size) (h.below d) (by show (ϲ bs)+(encR r).toArray.size<=_;rw[St];omega);have x:=h.lt;obtain⟨n,j⟩:=nM (ϲ r);rw[j]at g⊢;clear h k l j;go_enter func59,ntmps59;go_wp2_with fail;refine g.o.mono ?_;rintro e b ⟨rfl,d⟩;go_wp2_with fail;refine(m.o b d).mono ?_;rintro e w2 ⟨rfl,u,o,q⟩;go_wp2
 go_end0
 exact⟨rfl,u,(d.mono i).trans o,(keepW.of d).trans q⟩
def Hm(b:Bool):List UInt8:=AM (if b then 1 else 0)
def Ac5(base B:Nat)(bs:List UInt8)(is:Bool)(w:ϟ)(b:base<=w.heap.size)(h:WR w base B bs)(g:ϲ bs<=10000000000000):
 χ 243 #[ω B,.bool is] w (WO base B w (bs++Hm is)):=by
 have a:=hIz (λn=>Cd base B bs n w b h ϣ);clear h g
 cases is
 all_goals
  go_enter func243,ntmps243;go_wp2_with fail;refine(a.o _).mono ?_;rintro e j ⟨rfl,i,d,f⟩;go_wp2
  go_end0
  exact⟨rfl,i,d,f⟩
def LC(w:World):Prop:=∀j,j<16->Δ w 0 j (.int .u32 (Se.getD j 0:Nat))
def FL(h:LC w)(a:Ϣ w w'):LC w':=λj b=>cLz a (h j b)
def Ac6(c:Nat)(b:UInt8):Nat:=nibS (nibS (c ^^^ b.toNat))
def Sk(l:List UInt8):Nat:=l.foldl Ac6 4294967295
def crc(l:List UInt8):Nat:=Sk l ^^^ 4294967295
def Jk{a b:Nat}(ha:a<4294967296)(d:b<4294967296):a ^^^ b<4294967296:=Nat.xor_lt_two_pow (n:=32) ha d
def Yj:∀l,l<16->Se.getD l 0<4294967296:=Ϥ
def Sl(h:c<4294967296):nibS c<4294967296:=by
 unfold nibS;exact Jk (Nat.lt_of_le_of_lt (Nat.shiftRight_le _ _) h) (Yj _ (gA _ Ϥ))
def AeT(h:c<4294967296)(b:UInt8):Ac6 c b<4294967296:=Sl (Sl (Jk h (by have:=b.toNat_lt;omega)))
theorem QD:∀(l:List UInt8) (c:Nat),c<4294967296->l.foldl Ac6 c<4294967296
 |[],_,h=>h
 |b::l,c,h=>QD l _ (AeT h b)
def Yk(l:List UInt8):Sk l<4294967296:=QD l _ Ϥ
def Ac7(l:List UInt8):crc l<4294967296:=Jk (Yk l) Ϥ
def ZV(l:List UInt8)(b:UInt8):Sk (l++[b])=Ac6 (Sk l) b:=by unfold Sk;rw[gB];rfl
def ofInt32(x:Nat)(a:x<4294967296):(BitVec.ofInt IntKind.u32.bits (x:Int)).toNat=x:=by
 rw[bM];show((x:Int) % 4294967296).toNat=x;rw[dF ϣ ϣ];rfl
def N0(x:Nat)(a:x<4294967296):IntKind.u32.wrap (x:Int)=x:=by
 simp[IntKind.wrap,IntKind.signed,IntKind.bits];omega
def Ac8(a b:Nat)(ha:a<4294967296)(d:b<4294967296):bits BinOp.xor IntKind.u32 (a:Int) (b:Int)=((a ^^^ b:Nat):Int):=by
 unfold bits;simp only[];rw[dT,ofInt32 a ha,ofInt32 b d];exact N0 _ (Jk ha d)
def AfO(a:Nat)(ha:a<4294967296):bits BinOp.and IntKind.u32 (a:Int) 15=((a % 16:Nat):Int):=by
 unfold bits;simp only[];have e:(BitVec.ofInt IntKind.u32.bits 15).toNat=15:=ofInt32 15 Ϥ;rw[BitVec.toNat_and,ofInt32 a ha,e,show(15:Nat)=2 ^ 4 - 1 from rfl,Nat.and_two_pow_sub_one_eq_mod];exact N0 _ (by have:=gA a (show 0<2 ^ 4 by decide);omega)
def AfP{d m t:Nat}(b:d<4294967296)(a:d % 16=m)(ht:Se.getD m 0=t):bits BinOp.xor IntKind.u32 ((d:Int)/16) (t:Int)=((nibS d:Nat):Int):=by
 have e:(d:Int)/(16:Int)=((d>>>4:Nat):Int):=by rw[Nat.shiftRight_eq_div_pow];omega
 rw[e,Ac8 _ _ (Nat.lt_of_le_of_lt (Nat.shiftRight_le _ _) b) (by rw[<-ht,<-a];exact Yj _ (gA _ Ϥ))];unfold nibS;rw[a,ht]
def Ahb(c:Nat)(h:c<4294967296):bits BinOp.xor IntKind.u32 IntKind.u32.max (c:Int)=((c ^^^ 4294967295:Nat):Int):=by
 have:=Ac8 4294967295 c Ϥ h;rw[Nat.xor_comm]at this;exact this
theorem Sm(s:ByteArray)(w:ϟ)(h:LC w)(W:s.size<=100000000):
 χ 12 #[.string s] w λe w'=>e= .returned (.int .u32 (crc s.data.toList:Nat))/\w'=w:=by
 have C:ϡ (LC w):=h;have T:=bLt _ _ (h 0 Ϥ);clear h;go_enter func12,ntmps12;go_wp2
 go_loopw [3,4,7] (λu t i wr=> ∃k:Nat,k<=s.size/\i=vI k/\u= .int .u32 (Sk (s.data.toList.take k):Nat)/\wr=w) (λ_ _ i _=>s.size - (intOf i).toNat)
 case atStart=>exact⟨0,At _,rfl,rfl,rfl⟩
 case round=>
  obtain⟨k,V,rfl,rfl,Q⟩:=hrel;obtain⟨c,l⟩:=nM (Sk (s.data.toList.take k));have r:=hV0 l;have x:c<4294967296:=by rw[<-l];exact Yk _
  rw[l];clear l;by_cases O:k<s.size
  ·have X:=nn0 k;have R:(k:Int)<(s.size:Int):=ϣ;have U:=s[k].toNat_lt;go_upto_region 6 with fail;rw[Ac8 c s[k].toNat x ϣ];obtain⟨d,n⟩:=nM (c ^^^ s[k].toNat);have z:d<4294967296:=by rw[<-n];exact Jk x ϣ
   have G:=hV0 n;rw[n];clear n;obtain⟨m,b⟩:=nM (d % 16);have q:m<16:=ϣ;have ha:bits BinOp.and IntKind.u32 (d:Int) 15=(m:Int):=by rw[AfO d z,b]
   have j:=C.o m q;obtain⟨t,f⟩:=nM (Se.getD m 0);rw[f]at j;have F:(m:Int)<16:=ϣ;have E:=nn0 m;subst Q;go_upto_region 7 with fail;rw[AfP z b f];have A:ϡ (nibS d=nibS d):=rfl;obtain⟨a,o⟩:=nM (nibS d);have D:a<4294967296:=by rw[<-o];exact Sl z
   replace A:=hV0 o;rw[o];clear o j ha b f F E q;obtain⟨g,b⟩:=nM (a % 16);have q:g<16:=ϣ;have ha:bits BinOp.and IntKind.u32 (a:Int) 15=(g:Int):=by rw[AfO a D,b]
   have j:=C.o g q;obtain⟨S,f⟩:=nM (Se.getD g 0);rw[f]at j;have F:(g:Int)<16:=ϣ;have E:=nn0 g;have J:ϡ (bits BinOp.xor IntKind.u32 ((a:Int)/16) (S:Int)=((nibS a:Nat):Int)):=AfP D b f;have I:ϡ (Sk (s.data.toList.take (k+1))=nibS a):=by
    show _=_;rw[Dk s k O,ZV,r.o];unfold Ac6;rw[G.o,A.o]
   clear b f;go_wp2;go_roundw;exact⟨k+1,ϣ,by go_num,by rw[I.o,J.o],trivial⟩;simp[intOf];omega
  ·have M:k=s.size:=ϣ;subst M;rw[KI (by rw[A2];exact HU _)]at r;have R:¬((s.size:Int)<(s.size:Int)):=ϣ;have H:ϡ (bits BinOp.xor IntKind.u32 IntKind.u32.max (c:Int)=((crc s.data.toList:Nat):Int)):=by
    show _=_;rw[Ahb c x,<-r.o];rfl
   go_wp2;go_ret;exact⟨Ad H.o,rfl⟩
def w4(n:Nat):List UInt8:=[UInt8.ofNat (n/16777216),UInt8.ofNat (n/65536),UInt8.ofNat (n/256),UInt8.ofNat n]
def WE(n:Nat):ϲ (w4 n)=4:=rfl
theorem Ahc(n:Nat)(w:ϟ)(a:n<4294967296):(convert 51 9 (vS (ϋ w) 4 4)).run prog (ϊ w #[.int .u8 ((n:Int)/16777216),.int .u8 ((n:Int)/65536 % 256),.int .u8 ((n:Int)/256 % 256),.int .u8 ((n:Int) % 256)] 5)= .ok (.string ⟨(w4 n).toArray⟩) (ϊ w #[.int .u8 ((n:Int)/16777216),.int .u8 ((n:Int)/65536 % 256),.int .u8 ((n:Int)/256 % 256),.int .u8 ((n:Int) % 256)] 5):=by
 refine IQ (base:=w.heap.size) ?_;have e:(w4 n).map EL=[.int .u8 ((n:Int)/16777216),.int .u8 ((n:Int)/65536 % 256),.int .u8 ((n:Int)/256 % 256),.int .u8 ((n:Int) % 256)]:=by
  unfold w4 EL;simp only[P3,map_nil,gC]
  congr 1
  ·congr 1;omega
 unfold ownB;rw[e];exact World.ownsRow_lit w _ 4 nR Ϥ rfl
def Uj(n:Nat)(w:ϟ)(a:n<4294967296):
 χ 25 #[.int .u32 n] w (ψ w (.string ⟨(w4 n).toArray⟩)):=by
 have b:=Ahc n w a;go_enter func25,ntmps25;go_wp2;go_ret;exact⟨rfl,Ϯ⟩
end cd
namespace jn
open vl bf
def Ac9(w:World)(a:Option Addr)(l:List Ent):Prop:=
 ∀i,i<ϲ l->∃b off ra rc,a=some ⟨b,off,none⟩/\Δ w b (off+i * 5) (.string (l.getD i ϰ).key)/\Δ w b (off+i * 5+1) (vI (l.getD i ϰ).time)/\
  Ϛ w b (off+i * 5+1+1) (vI (l.getD i ϰ).seq) (vS ra (ϲ (l.getD i ϰ).row) rc) (.bool (l.getD i ϰ).met) (vl.rowAt w ra (l.getD i ϰ).row)
def OE.entsAt{w:ϟ}{base:Nat}{d:Hdr}{k:List EM}{l:List Ent}(h:OE w base (hdV d) k l):d.2.1=ϲ l/\Ac9 w d.1 l/\(ϲ l)<=ύ:=by
 obtain⟨⟨g,u⟩,j⟩:=GU (p:=(d,k)) h;dsimp only at g u j;have z:=h.len;refine⟨g.trans z,λi x=>?_,ϣ⟩;obtain⟨b,o,e,m,n,q,f,r⟩:=j i ϣ;have a:=h.ers.2 i x;rw[a.key]at m;rw[a.time]at n;rw[a.seq]at q;rw[a.met]at r;unfold hdV at f;rw[a.len]at f;exact⟨b,o,_,_,e,m,n,q,f,r,a.row⟩
end jn
