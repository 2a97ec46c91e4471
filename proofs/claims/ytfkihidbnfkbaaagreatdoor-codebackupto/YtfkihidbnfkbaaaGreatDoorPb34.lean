import Derived.Test.YtfkihidbnfkbaaaGreatDoorPb33
set_option linter.all false
set_option maxHeartbeats 8000000
set_option maxRecDepth 100000
open Go.ChangeShapes Go.WideShapes Go.ChangeAt Go.RowKit List
namespace Go.Proofs.YtfkihidbnfkbaaaGreatDoor
open Go.Proofs.Tryz
namespace jn
open vl bf
attribute [local go_sem] Oper.semAt_some
theorem Q4{w0 w0' w:ϙ}{s:Jn}{y:JX}{t:Value}{L:List CO}(h:stepAt w0 w s y t L)(a:w0'.heap.size<=w0.heap.size):stepAt w0' w s y t L:=⟨Ct h.l a,Ct h.r a,P0 h.cg a⟩
end jn
namespace jn
open vl bf
variable {w w' wr : ϙ} {s s0 : Jn} {t : TypeId} {base : Nat} {v : Value} {y y0 : JX} {L : List CO}
instance:Inhabited Ev:=⟨⟨0,0,0,[]⟩⟩
abbrev RX:=Option Addr×Nat
def Jp(w:World)(a:Option Addr)(l:List Ev)(xs:List RX):Prop:=
 ∀i,i<l.length->∃b off,a=some ⟨b,off,none⟩/\Δ w b (off+i * 4) (vI (l.getD i default).kind)/\Δ w b (off+i * 4+1) (vI (l.getD i default).side)/\
  Δ w b (off+i * 4+1+1) (vI (l.getD i default).time)/\Δ w b (off+i * 4+1+1+1) (vS (xs.getD i (none,0)).1 (l.getD i default).row.length (xs.getD i (none,0)).2)/\evAt w (l.getD i default) (xs.getD i (none,0)).1
theorem Q5{a:Ϛ}{l:List Ev}{f:List RX}(h:Jp w a l f)(d:Ϝ w w'):Jp w' a l f:=λi j=>by
 obtain⟨b,k,g,m,n,o,q,r⟩:=h i j;exact⟨b,k,g,cLz d m,cLz d n,cLz d o,cLz d q,r.below d⟩
theorem AaU{p:pl.Pln}(h:goodJ p s):wfJ s:=by
 have a:=h.ok.L.all;have b:=h.ok.R.all;have d:=h.ok.sq;exact⟨⟨λy hy=>h.wf y (mem_append.2 (.inl hy)),ϝ⟩,⟨λy hy=>h.wf y (mem_append.2 (.inr hy)),ϝ⟩,by constructor<;>omega⟩
theorem Mi{α β:Type}(f:α->List β)(n:Nat)(b:∀a,(f a).length<=n):∀l:List α,(l.flatMap f).length<=n * l.length
 |[]=>by simp
 |a::l=>by
  have:=Mi f n b l;have:=b a;rw[flatMap_cons,lAp,length_cons,Nat.mul_succ];omega
theorem AaV(p:pl.Pln)(s:Jn)(v:Ev)(a:okB s.L)(g:okB s.R):(JL p s v).length<=10000:=by
 have h:∀fr b,(BU p s v fr b).length<=4096:=λfr b=>Kj (by unfold Ak;split;exact g;exact a);unfold JL;split
 ·split
  ·unfold I7;split
   ·simp
   ·split<;>simp
  ·unfold I8;refine Nat.le_trans (Mi _ 2 (λe=>?_) _) ?_
   ·split
    ·simp
    ·split<;>simp
   ·have d:(Ee p s v).length<=4096:=by
     unfold Ee;refine Nat.le_trans (length_filter_le ..) ?_;split
     ·unfold CZ;rw[(BL _).length_eq];exact Nat.le_trans (length_filter_le ..) a.all
     ·exact Nat.zero_le _
    omega
 ·rw[QY];unfold pairT;rw[lAp];have d:=Mi (toldOf p v) 2 (λe=>by unfold toldOf;split<;>simp) (BU p s v (DO p v) (toJ p v));have i:=h (DO p v) (toJ p v);have f:∀(c:Prop) [Decidable c] (z:ch.Chg),(if c then [z]else []).length<=1:=λc _ z=>by split<;>simp
  have j:=f ((BU p s v (DO p v) (toJ p v)).isEmpty=true/\C6 p.mode v.side=true) ⟨1,AY p v.side v.row⟩;omega
theorem Q6(p:pl.Pln)(s:Jn)(v:Ev):(stepJ p s v).2.2.length<=10000:=by
 unfold stepJ;split
 ·simp
 ·rename_i h;split
  ·simp
  ·split
   ·simp
   ·have a:=Dl (p:=p) (s:=s) (by simpa using h);rw[UX];exact AaV p s v a.2.L a.2.R
def Lt(t:TypeId)(w w':World):Prop:=Below 0 w w'/\∀g e,Ai w g e->e≠t->w'.heap[g]? =w.heap[g]?
theorem Kv{b w2:ϙ}{s n:Nat}{l:List Value}(h:b.ownsRow base t s v n l)(a:b.grownBy w2 v.ownBlock):Lt t b w2:=⟨⟨a.os,a.tape,a.output,a.size,λk j=>absurd j (Nat.not_lt_zero k)⟩,λg e d i=>a.block g (A2 d) (λf=>tyAt_apart d (Av h f.symm) i rfl)⟩
def jAt(s0:Jn)(y0:JX)(w wr:World)(s:Jn)(y:JX):Prop:=Ϝ w wr/\(((s=s0/\y=y0)/\joinAt w s y)\/(OB wr w.heap.size y.l s.L/\OB wr w.heap.size y.r s.R))
theorem jAt.at(h:jAt s0 y0 w wr s y):joinAt wr s y:=by
 rcases h.2 with a|a
 ·exact a.2.below h.1
 ·exact⟨a.1.at,a.2.at⟩
theorem jAt.below(h:jAt s0 y0 w wr s y)(a:Ϝ wr w'):jAt s0 y0 w w' s y:=⟨h.1.trans (a.mono h.1.size),h.2.imp id (λk=>⟨k.1.below a,k.2.below a⟩)⟩
theorem jAt.keep(h:jAt s0 y0 w wr s y)(a:Lt t wr w')(j:Ϝ w w')(d:t≠166)(f:t≠119)(i:t≠33):jAt s0 y0 w w' s y:=by
 have b:∀{Z:BX} {B:Buf},OB wr w Z B->OB w' w Z B:=λk=>OB.other k a.1.size (λg l=>l.elim (λq=>a.2 g _ q d.symm) (λq=>a.2 g _ q f.symm)) (λg q=>a.2 g _ q i.symm);exact⟨j,h.2.imp id (λk=>⟨b k.1,b k.2⟩)⟩
structure TG(w:World)(base:Nat)(v:Value)(L:List CO):Prop where
 own:w.ownsRow base 217 2 v L.length (ch.Bi (L.map CO.pair))
 rows:∀c∈L,∃bs,AA w bs c.rv c.row
theorem TG.below(h:TG w base v L)(a:Ϝ w w'):TG w' base v L:=⟨own_below h.own a,λc b=>by
 obtain⟨bs,k⟩:=h.rows c b;exact⟨bs,own_below k a⟩⟩
theorem TG.keep(h:TG w base v L)(b:Lt t w w')(d:t≠217)(f:t≠119):TG w' base v L:=⟨A4 h.own (λg a=>b.2 g _ (Av h.own a) d.symm),λc i=>by
 obtain⟨bs,k⟩:=h.rows c i;exact⟨bs,A4 k (λg a=>b.2 g _ (Av k a) f.symm)⟩⟩
theorem Adh(w:ϙ)(base:Nat):TG w base (vS none 0 0) []:=⟨World.ownsRow_nil _ _ _ _,λc a=>absurd a not_mem_nil⟩
theorem CG.rows(h:CG w base v L):∀c∈L,∃bs,AA w bs c.rv c.row:=λc a=>⟨base,bt.Est.own h (Ca c.rv c.row) (mem_cons_of_mem _ (mem_map.2 ⟨c,a,rfl⟩))⟩
theorem TG.app{d:Value}{M:List CO}(h:TG w base v L)(f:∀c∈M,∃bs,AA w bs c.rv c.row)(j:Lt 217 w w')(l:w'.ownsRow base 217 2 d (L.length+M.length) (ch.Bi (L.map CO.pair)++ch.Bi (M.map CO.pair))):TG w' base d (L++M):=by
 refine⟨by rw[lAp,map_append,ch.OJ];exact l,λc a=>?_⟩;have b:(∃bs,AA w bs c.rv c.row)->∃bs,AA w' bs c.rv c.row:=λ⟨bs,k⟩=>⟨bs,A4 k (λg i=>j.2 g _ (Av k i) Ϟ)⟩;rcases mem_append.1 a with a|a
 ·exact b (h.rows c a)
 ·exact b (f c a)
end jn
namespace jn
open Go
variable {P : Program} {w : ϙ}
theorem LD(base:Nat)(t h e:TypeId)(i:TypeInfo)(size:Nat)(b:P.underlying t=some (.slice e))(a:P.info? e=some i)
 (v:Value) (n:Nat) (j:List Value) (f:w.ownsRow base e size v n j) (ad:Ϛ) (c:Nat):
 (Builtin.append_ #[t,t] h #[v,vS ad 0 c]).run P w= .ok v w:=by
 rcases f.2 with⟨rfl,rfl⟩|⟨g,k,l,rfl,_,_,d,_⟩<;>cases ad
 ·simp[Builtin.append_,run_underlying b,sizeOf,typeInfo,a,Builtin.lenOf,Builtin.firstCells]
 ·simp[Builtin.append_,run_underlying b,sizeOf,typeInfo,a,Builtin.lenOf,Builtin.firstCells,loadCells,loadCellsFrom]
 ·simp[Builtin.append_,run_underlying b,sizeOf,typeInfo,a,Builtin.lenOf,Builtin.firstCells,d,storeCells]
 ·simp[Builtin.append_,run_underlying b,sizeOf,typeInfo,a,Builtin.lenOf,Builtin.firstCells,d,storeCells,loadCells,loadCellsFrom]
theorem IL{b:Array Oper}{rest:List Oper}{o:Oper}{a:Act}{Q:Exit->Act->World->Prop}(g:o.guard=none)(s x:Operand)(t:TypeId)
 (k:o.op= .call {callee:=.builtin .append,args:=#[s,x],argTypes:=#[t,t]})
 (base:Nat) (e:TypeId) (i:TypeInfo) (size:Nat) (r:P.underlying t=some (.slice e)) (j:P.info? e=some i)
 (v:Value) (n:Nat) (d:List Value) (q:a.eval s=v) (l:w.ownsRow base e size v n d) (ad:Ϛ) (c:Nat) (u:a.eval x=vS ad 0 c)
 (h:wpList P b Q rest (a.put o.dst v) w):wpList P b Q (o::rest) a w:=by
 refine wpList_plain g λK f=>?_;have m:=LD (P:=P) (w:=w) base t o.type e i size r j v n d l ad c;unfold Oper.wp;simp[execOp,k,resolve,invoke,builtin,q,u,m,Result.andThen];exact f _ _ h
end jn
namespace jn
open vl bf
variable {w w' : ϙ}
theorem VW{b:Nat}{s:Jn}{y:JX}(h:Cb w b s y)(f:w'.heap[b]? =w.heap[b]?):Cb w' b s y:=by
 have d:∀{i:Nat} {v:Value},Δ w b i v->Δ w' b i v:=λ{i v} g=>(cOb (w:=w) (a:=⟨b,i,none⟩) f).trans g;obtain⟨u0,u1,u2,u3,u4,u5,u6,u7,u8⟩:=h;exact⟨d u0,d u1,d u2,d u3,d u4,d u5,d u6,d u7,d u8⟩
theorem Q7{base:Nat}{e:TypeId}{s n:Nat}{v:Value}{g:List Value}(h:w.ownsRow base e s v n g)(a:w.grownBy w' v.ownBlock)(d:base<=w.heap.size):Below base w w':=
 ⟨a.os,a.tape,a.output,a.size,λk f=>a.block k (Nat.lt_of_lt_of_le f d) (λb=>by have:=(ch.AE h b.symm).1;omega)⟩
theorem Q8{R:Array Oper}{rest:List Oper}{o:Oper}{a:Act}{Q:Exit->Act->World->Prop}(C:o.guard=none)(s x:Operand)
 (F:o.op= .call {callee:=.builtin .append,args:=#[s,x],argTypes:=#[53,53]})
 (base T:Nat) (v t:Value) (L M:List CO) (b:ϙ) (H:a.eval s=v) (J:a.eval x=t) (d:TG b base v L) (r:CG b T t M) (hl:L.length+M.length<=1000000000) (A:base<=b.heap.size)
 (h:∀S w2,TG w2 base S (L++M)->Lt 217 b w2->Below base b w2->wpList Tryz.prog R Q rest (a.put o.dst S) w2):
 wpList Tryz.prog R Q (o::rest) a b:=by
 obtain⟨O,D,Y,Z,aa⟩:=info_parts ch.ZP;have n:=CG.own r;have G:=CG.rows r;rcases Nat.eq_zero_or_pos M.length with f|f
 ·obtain rfl:=length_eq_zero_iff.1 f;have q:∃i c,t=vS i 0 c:=by
   rcases n.2 with⟨rfl,_⟩|⟨g,l,U,rfl,_⟩
   ·exact⟨_,_,rfl⟩
   ·exact⟨_,_,rfl⟩
  obtain⟨i,c,rfl⟩:=q;refine IL C s x 53 F base 217 O 2 underlying53 D v L.length _ H d.own i c J ?_;exact h v b (by rw[append_nil];exact d) ⟨bR,λ_ _ _ _=>rfl⟩ bR
 ·obtain⟨g,l,rfl,ac,ae⟩:=World.ownsRow.form n f;have X:∀u∈ch.Bi (M.map CO.pair),u.oneCell'=true:=ch.Xs (λz q=>by
   obtain⟨c,W,rfl⟩:=mem_map.1 q;obtain⟨bs,k⟩:=G c W;rcases k.2 with⟨k,_⟩|⟨g,l,U,k,_⟩<;>(show c.rv.oneCell'=true;rw[k];rfl))
  have E:(ch.Bi (M.map CO.pair)).length=M.length * 2:=by rw[ch.Xr,lMp]
  refine wpList_append_lies _ C s x 53 F base 217 O (.agg #[ω,ψ]) 2 32 underlying53 D Y Z aa rfl Ϟ v L.length _ H d.own
   ⟨g,0,none⟩ M.length l (ch.Bi (M.map CO.pair)) J E (λj u I=>?_) X f ϧ ϝ A b.heap.size rfl ?_
  ·rw[ch.addr_add,Nat.zero_add,n.cellAt j (by rw[<-E];exact(List.getElem?_eq_some_iff.1 I).1)];exact I
  ·intro g' ab w2 V m h4 h5;exact h _ w2 (d.app G (Kv d.own m) V) (Kv d.own m) (Q7 d.own m A)
end jn
namespace jn
open vl bf
attribute [local go_sem] Oper.semAt_some
variable {p : pl.Pln}
theorem Kw(h:pl.Ag p=0):C5 p=⟨⟨p.limit,[],[]⟩,⟨p.limit,[],[]⟩,noMark,noMark,0⟩:=if_pos h
theorem Pk(h:pl.Ag p=0)(w:ϙ):joinAt w (C5 p) jx0:=by
 rw[Kw h];exact jAt.at (s0:=j0) (y0:=jx0) (w:=w) (wr:=w) ⟨bR,.inr ⟨D3 (E4 nR),D3 (E4 nR)⟩⟩
theorem TG.mono{w:ϙ}{base a:Nat}{v:Value}{L:List CO}(h:TG w base v L)(b:a<=base):TG w a v L:=⟨World.ownsRow.mono h.own b,h.rows⟩
end jn
namespace jn
open vl bf
variable {p : pl.Pln} {s : Jn} {v : Ev} {K : ByteArray}
def rw2(a b:Int):List Cel:=[⟨2,a,⟨#[]⟩⟩,⟨2,b,⟨#[]⟩⟩]
theorem Em{a b:Int}(ha: -9223372036854775808<=a/\a<=9223372036854775807)(f: -9223372036854775808<=b/\b<=9223372036854775807):B9 (rw2 a b):=by
 intro c d;simp only[rw2,mem_cons,not_mem_nil,or_false]at d;rcases d with rfl|rfl
 ·exact⟨ha,Nat.zero_le _⟩
 ·exact⟨f,Nat.zero_le _⟩
def ev1:Ev:=⟨1,1,1,rw2 7 1⟩
def ev2:Ev:=⟨1,2,2,rw2 7 2⟩
def ev3:Ev:=⟨2,1,4,[]⟩
def ev4:Ev:=⟨1,1,4,rw2 7 3⟩
def ev5:Ev:=⟨1,1,5,rw2 7 4⟩
def IM:List Ev:=[ev1,ev2,ev3,ev4,ev5]
structure begP(p:pl.Pln)(K:ByteArray):Prop where
 err:pl.Ag p=0
 kind:p.kind=1
 mode:p.mode=4
 low:p.low= -5
 high:p.high=5
 limit:p.limit=2
 l:(pl.AD p 1).length=2
 r:(pl.AD p 2).length=2
 e1:pl.Bn p 1 (rw2 7 1)=0
 e2:pl.Bn p 2 (rw2 7 2)=0
 e3:pl.Bn p 1 (rw2 7 3)=0
 e4:pl.Bn p 1 (rw2 7 4)=0
 h1:pl.hasB p 1 (rw2 7 1)=true
 h2:pl.hasB p 2 (rw2 7 2)=true
 h4:pl.hasB p 1 (rw2 7 4)=true
 k1:pl.As p 1 (rw2 7 1)=K
 k2:pl.As p 2 (rw2 7 2)=K
 k4:pl.As p 1 (rw2 7 4)=K
 gone:pl.O4 p 2 4= -1
theorem SL:begP pl.FF (pl.As pl.FF 1 (rw2 7 1)):=⟨pl.C2,rfl,rfl,rfl,rfl,rfl,rfl,rfl,Ϡ,Ϡ,Ϡ,Ϡ,Ϡ,Ϡ,Ϡ,rfl,Ϡ,Ϡ,Ϡ⟩
theorem Q9{n:Int}(h:1<=n/\n<=64):okB ⟨n,[],[]⟩:=⟨h,Ϣ,by simp[Ac,partsB],by simp[partsB],by simp[partsB],ϟ,by simp[Ac,partsB]⟩
theorem good_start(h:pl.Ag p=0):goodJ p (C5 p):=by
 have a:=(pl.Bf h).2.1.2.2;have e0:Ac ⟨p.limit,[],[]⟩=[]:=by simp[Ac,partsB]
 rw[Kw h];refine⟨⟨Q9 a,Q9 a,by simp[Ei],by simp[Ei],ϟ,rfl,rfl,?_,?_,?_,?_⟩,?_⟩
 ·intro y hy;rw[e0]at hy;cases hy
 ·rw[e0];exact nodup_nil
 ·intro y hy;rw[e0]at hy;cases hy
 ·intro y hy;rw[e0]at hy;cases hy
 ·intro y hy;rw[e0]at hy;cases hy
theorem En(a:pl.Ag p=0)(h:goodJ p s)(v:Ev):stepJ p s v=if A8 p s v≠0 then(A8 p s v,j0,[])else if v.kind=2 then(0,CC p (Ek s v.side v.time),[])else(0,Hc p s v):=by
 have e:AQ p s=0:=h.ok.none a;unfold stepJ;rw[if_neg (by rw[e];exact λk=>k rfl)]
def St1(K:ByteArray):Jn:=⟨⟨2,[⟨K,1,0,rw2 7 1,false⟩],[]⟩,⟨2,[],[]⟩,noMark,noMark,1⟩
def St2(K:ByteArray):Jn:=⟨⟨2,[⟨K,1,0,rw2 7 1,true⟩],[]⟩,⟨2,[⟨K,2,1,rw2 7 2,true⟩],[]⟩,noMark,noMark,2⟩
def St3(K:ByteArray):Jn:=⟨⟨2,[⟨K,1,0,rw2 7 1,true⟩],[]⟩,⟨2,[⟨K,2,1,rw2 7 2,true⟩],[]⟩,4,noMark,2⟩
def ch1:ch.Chg:=⟨1,rw2 7 1++bt.CN 2⟩
def ch2:ch.Chg:=⟨3,rw2 7 1++bt.CN 2⟩
def ch3:ch.Chg:=⟨4,rw2 7 1++rw2 7 2⟩
def ch4:ch.Chg:=⟨1,rw2 7 4++rw2 7 2⟩
theorem VX:El []=[]:=by simp[El]
theorem Jq(y:Ent):El [y]=[y]:=by simp[El]
theorem Gu{side:Int}(h:B8 s (3 - side)=noMark):C8 p s side=noMark:=if_pos h
theorem Mj(met:Bool)(a:pl.hasB p v.side v.row=true)(b:C8 p s v.side<v.time):Ef p s v met=⟨(A7 s v.side (CK (Ak s v.side) ⟨pl.As p v.side v.row,v.time,s.seq,v.row,met⟩)).L,(A7 s v.side (CK (Ak s v.side) ⟨pl.As p v.side v.row,v.time,s.seq,v.row,met⟩)).R,(A7 s v.side (CK (Ak s v.side) ⟨pl.As p v.side v.row,v.time,s.seq,v.row,met⟩)).lm,(A7 s v.side (CK (Ak s v.side) ⟨pl.As p v.side v.row,v.time,s.seq,v.row,met⟩)).rm,(A7 s v.side (CK (Ak s v.side) ⟨pl.As p v.side v.row,v.time,s.seq,v.row,met⟩)).seq+1⟩:=by
 unfold Ef;rw[if_pos ⟨a,b⟩]
def St0:Jn:=⟨⟨2,[],[]⟩,⟨2,[],[]⟩,noMark,noMark,0⟩
theorem Jr(y:Ent):CK ⟨2,[],[]⟩ y=⟨2,[y],[]⟩:=by
 unfold CK;rw[show El (([]:List Ent)++[y])=[y]from Jq y];rfl
theorem Js(a:p.kind=1):Hc p s v=(Ef p (BW p s v) v (!(partners p s v).isEmpty),Cv p s v):=by
 unfold Hc;rw[if_neg (by rw[a];decide)]
theorem Ml(side:Int):C6 4 side=true:=rfl
theorem Adi(h:begP p K):stepJ p (C5 p) ev1=(0,St1 K,[ch1]):=by
 rw[En h.err (good_start h.err),Kw h.err,h.limit];show(if A8 p St0 ev1≠0 then(A8 p St0 ev1,j0,[])else if ev1.kind=2 then(0,CC p (Ek St0 ev1.side ev1.time),[])else(0,Hc p St0 ev1))=_;have e:A8 p St0 ev1=0:=by
  simp[A8,ev1,pl.Bm,tm.Br,h.e1,B8,noMark,Ak,Ac,partsB,St0]
 have a:partners p St0 ev1=[]:=by
  simp[partners,ev1,h.h1,CZ,Ak,Ac,partsB,VX,St0]
 have b:BW p St0 ev1=St0:=by
  unfold BW;rw[a];rfl
 rw[if_neg (by rw[e];exact λk=>k rfl),if_neg Ϟ,Js h.kind,b,a,Mj _ h.h1 (by rw[Gu rfl];decide)];unfold Cv;rw[a,h.mode];show(0,_,_)=_;have d:pl.As p ev1.side ev1.row=K:=h.k1;rw[d];simp only[ev1,Ak,A7,St0,Jr,Ml,AY,Ba];simp[St1,ch1,h.r,Jr]
theorem U5(h:begP p K):goodJ p (St1 K):=by
 have:=good_step (p:=p) (s:=C5 p) (v:=ev1) (good_start h.err).wf ⟨Em Ϟ Ϟ,Ϟ⟩ (by rw[Adi h]);rw[Adi h]at this;exact this
theorem Adj(h:begP p K):stepJ p (St1 K) ev2=(0,St2 K,[ch2,ch3]):=by
 rw[En h.err (U5 h)];have e:A8 p (St1 K) ev2=0:=by
  simp[A8,ev2,pl.Bm,tm.Br,h.e2,B8,noMark,Ak,Ac,partsB,St1]
 have a:partners p (St1 K) ev2=[⟨K,1,0,rw2 7 1,false⟩]:=by
  simp[partners,ev2,h.h2,CZ,Ak,Ac,partsB,Jq,St1,h.k2,DO,toJ,h.kind,h.low,h.high]
 have b:BW p (St1 K) ev2=⟨⟨2,[⟨K,1,0,rw2 7 1,true⟩],[]⟩,⟨2,[],[]⟩,noMark,noMark,1⟩:=by
  unfold BW;rw[a];rfl
 rw[if_neg (by rw[e];exact λk=>k rfl),if_neg Ϟ,Js h.kind,b,a,Mj _ h.h2 (by rw[Gu rfl];decide)];unfold Cv;rw[a,h.mode];have d:pl.As p ev2.side ev2.row=K:=h.k2;rw[d];simp only[ev2,Ak,A7,Jr,Ml,AY,Ba];simp[St2,ch2,ch3,h.r,Jr]
theorem U6(h:begP p K):goodJ p (St2 K):=by
 have:=good_step (p:=p) (s:=St1 K) (v:=ev2) (U5 h).wf ⟨Em Ϟ Ϟ,Ϟ⟩ (by rw[Adj h]);rw[Adj h]at this;exact this
theorem Adk(h:begP p K):stepJ p (St2 K) ev3=(0,St3 K,[]):=by
 rw[En h.err (U6 h)];have e:A8 p (St2 K) ev3=0:=by
  simp[A8,ev3,pl.Bm,tm.Br,B8,noMark,St2]
 rw[if_neg (by rw[e];exact λk=>k rfl),if_pos (show ev3.kind=2 from rfl)];have a:C8 p (St3 K) 1=noMark:=Gu rfl;have b:C8 p (St3 K) 2= -1:=by
  unfold C8;rw[if_neg (show B8 (St3 K) (3 - 2)≠noMark from show(4:Int)≠noMark by decide)];exact h.gone
 have d:Ek (St2 K) ev3.side ev3.time=St3 K:=rfl;rw[d];simp only[CC,h.kind,FL,a,b];simp[St3,CY,Ec,noMark,DK]
theorem Mm(h:begP p K):goodJ p (St3 K):=by
 have:=good_step (p:=p) (s:=St2 K) (v:=ev3) (U6 h).wf ⟨λc a=>(by cases a),Ϟ⟩ (by rw[Adk h]);rw[Adk h]at this;exact this
theorem beg4(h:begP p K):stepJ p (St3 K) ev4=(7,j0,[]):=by
 rw[En h.err (Mm h)];have e:A8 p (St3 K) ev4=7:=by
  simp[A8,ev4,pl.Bm,tm.Br,h.e3,B8,noMark,St3]
 rw[if_pos (by rw[e];decide),e]
theorem beg5(h:begP p K):∃s,stepJ p (St3 K) ev5=(0,s,[ch4])/\s.lm=4/\s.rm=noMark/\s.seq=3/\goodJ p s:=by
 have e:A8 p (St3 K) ev5=0:=by
  simp[A8,ev5,pl.Bm,tm.Br,h.e4,B8,noMark,Ak,Ac,partsB,St3]
 have d:partners p (St3 K) ev5=[⟨K,2,1,rw2 7 2,true⟩]:=by
  simp[partners,ev5,h.h4,CZ,Ak,Ac,partsB,Jq,St3,h.k4,DO,toJ,h.kind,h.low,h.high]
 have a:stepJ p (St3 K) ev5=(0,Hc p (St3 K) ev5):=by
  rw[En h.err (Mm h),if_neg (by rw[e];exact λk=>k rfl),if_neg Ϟ]
 have f:(Hc p (St3 K) ev5).2=[ch4]:=by
  simp only[Hc,h.kind,Cv,d];simp[ev5,C6,h.mode,Ba,ch4]
 have b:(Hc p (St3 K) ev5).1=Ef p (BW p (St3 K) ev5) ev5 true:=by
  simp only[Hc,h.kind,d];simp
 have g:=good_step (p:=p) (s:=St3 K) (v:=ev5) (Mm h).wf ⟨Em Ϟ Ϟ,Ϟ⟩ (by rw[a]);refine⟨(Hc p (St3 K) ev5).1,?_,?_,?_,?_,?_⟩
 ·rw[a,<-f]
 ·rw[b];unfold Ef;dsimp only;split<;>simp[A7,BW,ev5,St3]
 ·rw[b];unfold Ef;dsimp only;split<;>simp[A7,BW,ev5,St3]
 ·rw[b];unfold Ef;dsimp only;split<;>simp[A7,BW,ev5,St3]
 ·rw[a]at g;exact g
end jn
namespace jn
open vl bf
attribute [local go_sem] Oper.semAt_some
variable {w w0 : ϙ} {N : Nat} {t : Value} {e : Eng} {y : EX} {L : List CO}
structure stepEAt(w0 w':World)(e:Eng)(y:EX)(t:Value)(L:List CO):Prop where
 l:OB w' w0.heap.size y.y.l e.j.L
 r:OB w' w0.heap.size y.y.r e.j.R
 cg:CG w' w0.heap.size t L
 v:ch.VO w' w0.heap.size (vS y.va e.v.length y.vc) e.v
theorem He:calmT 42:=⟨Ϟ,Ϟ,Ϟ⟩
theorem On{g:Nat}{T:TypeId}{t:TypeId}(a:Ai w N T)(b:Ai w g t)(h:t≠T)(o:Nat)(u:Value):(w.setCell ⟨N,o,none⟩ u).heap[g]? =w.heap[g]? :=heap_setCell_other _ _ _ _ (tyAt_apart b a h)
theorem Mn{base N:Nat}{v:Value}{L:List CO}:∀(l:List Value) (o:Nat) (w:ϙ),CG w base v L->Ai w N 42->CG (w.setCells N o l) base v L
 |[],_,_,h,_=>h
 |u::l,o,w,h,hN=>Mn l (o+1) _ (Nv h hN Ϟ Ϟ o u) (A6 hN _ _)
theorem Hf{base N:Nat}{v:Value}{out:List ch.Cnt}:∀(l:List Value) (o:Nat) (w:ϙ),ch.VO w base v out->Ai w N 42->ch.VO (w.setCells N o l) base v out
 |[],_,_,h,_=>h
 |u::l,o,w,h,hN=>Hf l (o+1) _ (h.other (λg a=>a.elim (λk=>On hN k Ϟ o u) (λk=>On hN k Ϟ o u))) (A6 hN _ _)
theorem Gv(h:stepEAt w0 w e y t L)(a:Ai w N 42)(l:List Value)(o:Nat):stepEAt w0 (w.setCells N o l) e y t L:=⟨Bt He _ _ _ h.l a,Bt He _ _ _ h.r a,Mn _ _ _ h.cg a,Hf _ _ _ h.v a⟩
theorem Pm(w0:ϙ)(h:w0.heap.size<=w.heap.size):stepEAt w0 w e0 ex0 (vS none 0 0) []:=⟨D3 (E4 h),D3 (E4 h),CG.start h,ch.VO.nil h⟩
def E5(p:pl.Pln)(e:Eng)(v:Ev)(r:Int×Eng×List ch.Chg):Prop:=Dt p e=0/\(((stepJ p e.j v).1≠0/\r=((stepJ p e.j v).1,e0,[]))\/
 ((stepJ p e.j v).1=0/\ch.AW (stepJ p e.j v).2.2=0/\ch.Fi (stepJ p e.j v).2.2/\(∀i,i<(stepJ p e.j v).2.2.length->ch.Ko (ch.AJ e.v) (stepJ p e.j v).2.2 i=0)/\
   ∃out,ch.AJ out=ch.atK (ch.AJ e.v) (stepJ p e.j v).2.2 (stepJ p e.j v).2.2.length/\(∀c∈out,rowOk c.r)/\r=(0,⟨(stepJ p e.j v).2.1,out⟩,(stepJ p e.j v).2.2)))
theorem Pn{p:pl.Pln}(h:Dt p e=0):AQ p e.j=0/\ch.Ar e.v=0:=by
 unfold Dt at h;split at h
 ·rename_i k;exact absurd h k
 ·rename_i k;split at h
  ·rename_i a;exact absurd h a
  ·rename_i a;exact⟨Decidable.not_not.1 k,Decidable.not_not.1 a⟩
theorem VY(p:pl.Pln)(x:pl.PA)(e:Eng)(y:EX)(v:Ev)(Q:Ϛ)(Z:Nat)(r:Int×Eng×List ch.Chg)(w:ϙ)(hw:pl.wfPlan p)(hp:pl.planAt w p x)(hg:p.grouped=false)(h:enAt w e y)(Y:wfEn e)(hv:evAt w v Q)(hr:E5 p e v r):
 η 48 #[pl.Ap p x,enV e y,evV v Q Z] w λo w'=>(∃a t L,o= .returned (.tuple #[enV r.2.1 a,t,vI r.1])/\L.map CO.chg=r.2.2/\stepEAt w w' r.2.1 a t L)/\Ϝ w w':=by
 have KC:ϛ (∀g,Ϝ w g->CT 27 #[pl.Ap p x,enV e y] g (θ g (vI 0))):=λg G=>by
  have:=TJ p x e y g hw (pl.Ae hp G) hg (h.below G) Y;rw[hr.1]at this;exact this
 have F:=hIz (λ(g:ϙ) (G:Ϝ w g)=>YZ p x e.j y.y v Q Z g hw (pl.Ae hp G) (h.j.below G) Y.j (hv.below G));have KF:ϛ (∀g I M tn,Ϝ w g->ch.Fh g I (stepJ p e.j v).2.2->tn=(stepJ p e.j v).2.2.length->ch.Fi (stepJ p e.j v).2.2->tn<=9223372036854775807->CT 98 #[vS y.va e.v.length y.vc,vS I tn M] g λo w'=>ch.Sg g.heap.size e.v (stepJ p e.j v).2.2 o w'/\Ϝ g w'):=λg I M tn G hc hn bb hl=>by
  subst hn;exact ch.X8 y.va I y.vc M e.v _ g (ch.Bg h.v G) Y.v Y.n hc bb hl
 have ak:ϛ (ch.Ar e.v=0):=(Pn hr.1).2;have HG:=hqz hg;have ae:ϛ ((stepJ p e.j v).2.2.length<=10000):=Q6 p e.j v;obtain⟨ST,am⟩:=nM (stepJ p e.j v);have J:ϛ _:=hr.2;replace J:=J.o;rw[am]at F KF J ae;obtain⟨W,b,U⟩:=ST;dsimp only at F KF J ae;clear hg;clear hw hp h Y hv am hr;unfold pl.Ap at KC F⊢;rw[ET]at KC⊢;rw[AK]at F;unfold evV at F⊢;obtain⟨kd,ar⟩:=nM v.kind;obtain⟨sd,ax⟩:=nM v.side;obtain⟨ai,a1⟩:=nM v.time;obtain⟨rl,av⟩:=nM v.row.length;rw[ar,ax,a1,av]at F⊢;clear ar ax a1 av;go_enter func48,ntmps48;go_upto_region 1 with fail;generalize O:(World.alloc (World.alloc (World.alloc (World.alloc w _) _) _) _)=V;have ah:Ϝ w V:=by rw[<-O];exact((Ϩ.alloc ϟ _).alloc Ϥ _).alloc Ϥ _
 have q:ϛ (Bh V w p x):=by
  subst O;exact Ah (Cg ..) ((Ϩ.alloc ϟ _).alloc Ϥ _)
 have n:ϛ (Dp V (w.heap.size+1) e y):=by
  subst O;have:=Ey (ξ w (Φ p x) 32) e y 42;rw[World.size_alloc]at this;exact Bl this (Ϩ.alloc ϟ _)
 have HV:ϛ (ύ V (w+1+1) (vI kd) (vI sd) (vI ai) (vS Q rl Z)):=by
  subst O;refine⟨?_,?_,?_,?_⟩<;>go_simp
 have j:ϛ (Fx V (w.heap.size+1+1+1)/\Ai V (w+1+1+1) 42):=by
  subst O;have h1:=Hu (ξ (ξ (ξ w (Φ p x) 32) #[vI e.j.L.lim,vS y.y.l.m.1.1 y.y.l.m.1.2.1 y.y.l.m.1.2.2,vS y.y.l.ra y.y.l.rs.length y.y.l.rc,vI e.j.R.lim,vS y.y.r.m.1.1 y.y.r.m.1.2.1 y.y.r.m.1.2.2,vS y.y.r.ra y.y.r.rs.length y.y.r.rc,vI e.j.lm,vI e.j.rm,vI e.j.seq,ψ,vS y.va e.v.length y.vc] 42) #[vI kd,vI sd,vI ai,vS Q rl Z] 90);have h2:=World.alloc_heap_new (ξ (ξ (ξ w (Φ p x) 32) #[vI e.j.L.lim,vS y.y.l.m.1.1 y.y.l.m.1.2.1 y.y.l.m.1.2.2,vS y.y.l.ra y.y.l.rs.length y.y.l.rc,vI e.j.R.lim,vS y.y.r.m.1.1 y.y.r.m.1.2.1 y.y.r.m.1.2.2,vS y.y.r.ra y.y.r.rs.length y.y.r.rc,vI e.j.lm,vI e.j.rm,vI e.j.seq,ψ,vS y.va e.v.length y.vc] 42) #[vI kd,vI sd,vI ai,vS Q rl Z] 90) (.cells #[ω,ψ,ψ,ω,ψ,ψ,ω,ω,ω,ψ,ψ] 42);rw[World.size_alloc,World.size_alloc,World.size_alloc]at h1 h2;exact⟨h1,_,_,h2⟩
 clear O;obtain⟨v0,v1,v2,v3,v4,v5,v6,v7,v8,v9,R,aa,ab⟩:=q.o;obtain⟨u0,u1,u2,u3,u4,u5,u6,u7,u8,u9,u10⟩:=n.o;go_wp2_with fail;refine(KC.o _ ah).mono ?_;rintro o1 g ⟨rfl,u⟩;have l:Ϝ w g:=bT ah u;replace q:ϛ (Bh g w p x):=Ah q.o u;replace n:ϛ (Dp g (w.heap.size+1) e y):=Bl n.o u;replace j:ϛ (Fx g (w.heap.size+1+1+1)/\Ai g (w+1+1+1) 42):=⟨BK j.o.1 u,Ad j.o.2 u⟩;obtain⟨f0,f1,f2,f3⟩:=HV.o;replace f0:=cLz u f0;replace f1:=cLz u f1;replace f2:=cLz u f2;replace f3:=cLz u f3;clear v0 v1 v2 v3 v4 v5 v6 v7 v8 v9 R aa ab u0 u1 u2 u3 u4 u5 u6 u7 u8 u9 u10 u ah KC HV;obtain⟨v0,v1,v2,v3,v4,v5,v6,v7,v8,v9,R,aa,ab⟩:=q.o;obtain⟨u0,u1,u2,u3,u4,u5,u6,u7,u8,u9,u10⟩:=n.o;go_wp2_with fail;refine(F.o _ l).mono ?_;rintro o2 w2 ⟨⟨a,t,L,rfl,hl,ay⟩,X⟩;have a9:=l.size;replace l:Ϝ w w2:=bT l X;have HL:=hqz hl;replace q:ϛ (Bh w2 w p x):=Ah q.o X;replace n:ϛ (Dp w2 (w.heap.size+1) e y):=Bl n.o X;replace j:ϛ (Fx w2 (w.heap.size+1+1+1)/\Ai w2 (w+1+1+1) 42):=⟨BK j.o.1 X,Ad j.o.2 X⟩;have z:ϛ (stepAt w w2 b a t L):=Q4 ay a9;clear v0 v1 v2 v3 v4 v5 v6 v7 v8 v9 R aa ab u0 u1 u2 u3 u4 u5 u6 u7 u8 u9 u10 f0 f1 f2 f3 hl ay F;rw[AK];have a5:ϛ (L.length<=10000):=by show L.length<=10000;rw[<-lMp (f:=CO.chg),HL.o];exact ae.o
 go_upto_region 5 with fail;generalize ag:(World.alloc w2 _)=m;have A:Ϝ w2 m:=by rw[<-ag];exact Ϩ
 have aj:ϛ (Cb m w2 b a):=by
  subst ag;exact Cs ..
 clear ag;replace l:Ϝ w m:=bT l A;replace n:ϛ (Dp m (w.heap.size+1) e y):=Bl n.o A;replace q:ϛ (Bh m w p x):=Ah q.o A;replace j:ϛ (Fx m (w.heap.size+1+1+1)/\Ai m (w+1+1+1) 42):=⟨BK j.o.1 A,Ad j.o.2 A⟩;replace z:ϛ (stepAt w m b a t L):=⟨z.o.l.below A,z.o.r.below A,z.o.cg.below A⟩;have ht:=CG.chgs z.o.cg;by_cases h0:W=0
 rotate_left
 ·have bc:(W !=0)=true:=by simpa using h0
  obtain⟨_,rfl⟩:W≠0/\r=(W,e0,[]):=J.elim id (λk=>absurd k.1 h0);clear ht;go_upto_region 6 with fail;have T:ϛ (stepEAt w (World.setCells m (w.heap.size+1+1+1) 0 [ω,ψ,ψ,ω,ψ,ψ,ω,ω,ω,ψ,ψ]) e0 ex0 (vS none 0 0) []):=Gv (Pm w l.size) j.o.2 _ _
  try dsimp only
  have d:ϛ ((World.setCells m (w.heap.size+1+1+1) 0 [ω,ψ,ψ,ω,ψ,ψ,ω,ω,ω,ψ,ψ]).rangeAt (w.heap.size+1+1+1) 0 [ω,ψ,ψ,ω,ψ,ψ,ω,ω,ω,ψ,ψ]):=Fs j.o.1 rfl;have S:ϛ (Ϝ w (World.setCells m (w.heap.size+1+1+1) 0 [ω,ψ,ψ,ω,ψ,ψ,ω,ω,ω,ψ,ψ])):=below_setCells ϝ _ 0 _ l;go_wp2_with ((with_reducible refine wpList_store_mid ?_ 42 (.tmp 6) (.tmp 34) ?_ (w.heap.size+1+1+1) 0 #[ω,ψ,ψ,ω,ψ,ψ,ω,ω,ω,ψ,ψ] ?_ ?_ ?_ ?_ ?_ ?_);exact rfl;exact rfl;exact rfl;exact rfl;exact j.o.1;exact Jg;exact Ϧ);generalize (World.setCells m (w.heap.size+1+1+1) 0 [ω,ψ,ψ,ω,ψ,ψ,ω,ω,ω,ψ,ψ])=W' at d S T⊢;have z0:=d.o 0 _ rfl;have z1:=d.o 1 _ rfl;have z2:=d.o 2 _ rfl;have z3:=d.o 3 _ rfl;have z4:=d.o 4 _ rfl;have z5:=d.o 5 _ rfl;have z6:=d.o 6 _ rfl;have z7:=d.o 7 _ rfl;have z8:=d.o 8 _ rfl;have z9:=d.o 9 _ rfl;have ac:=d.o 10 _ rfl;simp only[Nat.zero_add]at z0 z1 z2 z3 z4 z5 z6 z7 z8 z9 ac;exact bodyPost_ret (v:=.tuple #[.agg #[ω,ψ,ψ,ω,ψ,ψ,ω,ω,ω,ψ,ψ],ψ,vI W]) (by simp[results,results48,go_sem,z0,z1,z2,z3,z4,z5,z6,z7,z8,z9,ac]) rfl ⟨⟨ex0,ψ,rfl,T.o⟩,S.o⟩
 obtain⟨aq,a3,ap,out,au,aw,rfl⟩:_/\_/\_/\∃out,_/\_/\r=_:=J.elim (λk=>absurd h0 k.1) (λk=>k.2);subst h0
 try dsimp only
 obtain⟨I,az⟩:=nM (Qt t);obtain⟨M,a0⟩:=nM (Uy t);rw[az,a0,HL.o]at ht;obtain⟨rfl,ao⟩:=ht;have al:=KF.o m I M L.length l ao (by rw[<-HL.o,lMp]) a3 (by have:=a5.o;omega);have ad:ϛ (ch.AW U=0/\(∀i,i<U.length->ch.Ko (ch.AJ e.v) U i=0)):=⟨aq,ap⟩;have af:ϛ (ch.AJ out=ch.atK (ch.AJ e.v) U U.length/\(∀c∈out,rowOk c.r)):=⟨au,aw⟩;clear az a0 ao aq ap a3 au aw KF J;obtain⟨v0,v1,v2,v3,v4,v5,v6,v7,v8,v9,R,aa,ab⟩:=q.o;obtain⟨u0,u1,u2,u3,u4,u5,u6,u7,u8,u9,u10⟩:=n.o;rw[HG.o]at R;go_wp2_with fail;refine al.mono ?_;rintro o4 w4 ⟨a8,H⟩;rcases a8 with⟨hx,_⟩|⟨_,hx,_⟩|⟨_,_,k,a6,_,a7,_⟩|⟨_,_,_,C,D,E,hk,a2,a4,rfl,an⟩
 ·exact absurd ak.o hx
 ·exact absurd ad.o.1 hx
 ·exact absurd (ad.o.2 k a6) a7
 obtain rfl:C=out:=ch.Aa5 (ch.Gr a4 a2) af.o.2 (hk.trans af.o.1.symm);clear v0 v1 v2 v3 v4 v5 v6 v7 v8 v9 R aa ab u0 u1 u2 u3 u4 u5 u6 u7 u8 u9 u10 n q hk a2 a4 af ad ak;have ba:=l.size;replace l:Ϝ w w4:=bT l H;replace j:ϛ (Fx w4 (w.heap.size+1+1+1)/\Ai w4 (w+1+1+1) 42):=⟨BK j.o.1 H,Ad j.o.2 H⟩;obtain⟨q0,q1,q2,q3,q4,q5,q6,q7,q8⟩:=(Az aj.o H);have T:ϛ (stepEAt w (World.setCells w4 (w.heap.size+1+1+1) 0 [vI b.L.lim,vS a.l.m.1.1 a.l.m.1.2.1 a.l.m.1.2.2,vS a.l.ra a.l.rs.length a.l.rc,vI b.R.lim,vS a.r.m.1.1 a.r.m.1.2.1 a.r.m.1.2.2,vS a.r.ra a.r.rs.length a.r.rc,vI b.lm,vI b.rm,vI b.seq,ψ,vS D C.length E]) ⟨b,C⟩ ⟨a,D,E⟩ (vS I L.length M) L):=Gv ⟨z.o.l.below H,z.o.r.below H,z.o.cg.below H,an.mono ba⟩ j.o.2 _ _;clear an H A z aj al;have d:ϛ ((World.setCells w4 (w.heap.size+1+1+1) 0 [vI b.L.lim,vS a.l.m.1.1 a.l.m.1.2.1 a.l.m.1.2.2,vS a.l.ra a.l.rs.length a.l.rc,vI b.R.lim,vS a.r.m.1.1 a.r.m.1.2.1 a.r.m.1.2.2,vS a.r.ra a.r.rs.length a.r.rc,vI b.lm,vI b.rm,vI b.seq,ψ,vS D C.length E]).rangeAt (w.heap.size+1+1+1) 0 [vI b.L.lim,vS a.l.m.1.1 a.l.m.1.2.1 a.l.m.1.2.2,vS a.l.ra a.l.rs.length a.l.rc,vI b.R.lim,vS a.r.m.1.1 a.r.m.1.2.1 a.r.m.1.2.2,vS a.r.ra a.r.rs.length a.r.rc,vI b.lm,vI b.rm,vI b.seq,ψ,vS D C.length E]):=Fs j.o.1 rfl;have S:ϛ (Ϝ w (World.setCells w4 (w.heap.size+1+1+1) 0 [vI b.L.lim,vS a.l.m.1.1 a.l.m.1.2.1 a.l.m.1.2.2,vS a.l.ra a.l.rs.length a.l.rc,vI b.R.lim,vS a.r.m.1.1 a.r.m.1.2.1 a.r.m.1.2.2,vS a.r.ra a.r.rs.length a.r.rc,vI b.lm,vI b.rm,vI b.seq,ψ,vS D C.length E])):=below_setCells ϝ _ 0 _ l
 go_wp2_with ((with_reducible refine wpList_store_mid ?_ 42 (.tmp 6) (.tmp 66) ?_ (w.heap.size+1+1+1) 0 #[vI b.L.lim,vS a.l.m.1.1 a.l.m.1.2.1 a.l.m.1.2.2,vS a.l.ra a.l.rs.length a.l.rc,vI b.R.lim,vS a.r.m.1.1 a.r.m.1.2.1 a.r.m.1.2.2,vS a.r.ra a.r.rs.length a.r.rc,vI b.lm,vI b.rm,vI b.seq,ψ,vS D C.length E] ?_ ?_ ?_ ?_ ?_ ?_);exact rfl;exact rfl;exact rfl;exact rfl;exact j.o.1;exact Jg;exact Ϧ);generalize (World.setCells w4 (w.heap.size+1+1+1) 0 [vI b.L.lim,vS a.l.m.1.1 a.l.m.1.2.1 a.l.m.1.2.2,vS a.l.ra a.l.rs.length a.l.rc,vI b.R.lim,vS a.r.m.1.1 a.r.m.1.2.1 a.r.m.1.2.2,vS a.r.ra a.r.rs.length a.r.rc,vI b.lm,vI b.rm,vI b.seq,ψ,vS D C.length E])=W' at d S T⊢;have z0:=d.o 0 _ rfl;have z1:=d.o 1 _ rfl;have z2:=d.o 2 _ rfl;have z3:=d.o 3 _ rfl;have z4:=d.o 4 _ rfl;have z5:=d.o 5 _ rfl;have z6:=d.o 6 _ rfl;have z7:=d.o 7 _ rfl;have z8:=d.o 8 _ rfl;have z9:=d.o 9 _ rfl;have ac:=d.o 10 _ rfl;simp only[Nat.zero_add]at z0 z1 z2 z3 z4 z5 z6 z7 z8 z9 ac;exact bodyPost_ret (v:=.tuple #[.agg #[vI b.L.lim,vS a.l.m.1.1 a.l.m.1.2.1 a.l.m.1.2.2,vS a.l.ra a.l.rs.length a.l.rc,vI b.R.lim,vS a.r.m.1.1 a.r.m.1.2.1 a.r.m.1.2.2,vS a.r.ra a.r.rs.length a.r.rc,vI b.lm,vI b.rm,vI b.seq,ψ,vS D C.length E],vS I L.length M,ω]) (by simp[results,results48,go_sem,z0,z1,z2,z3,z4,z5,z6,z7,z8,z9,ac]) rfl ⟨⟨⟨a,D,E⟩,_,rfl,L,HL.o,T.o⟩,S.o⟩
theorem Jt{w0':ϙ}(h:stepEAt w0 w e y t L)(a:w0'.heap.size<=w0.heap.size):stepEAt w0' w e y t L:=⟨Ct h.l a,Ct h.r a,P0 h.cg a,h.v.mono a⟩
theorem SO(p:pl.Pln)(x:pl.PA)(e:Eng)(y:EX)(v:Ev)(l:Ϛ)(m F:Nat)(r:Int×Eng×List ch.Chg)(w:ϙ)(W:pl.wfPlan p)(O:pl.planAt w p x)(J:p.grouped=false)(I:Bh w F p x)(h:enAt w e y)(X:wfEn e)(U:evAt w v l)(Q:E5 p e v r):
 η 47 #[enV e y,evV v l m,μ F] w λo w'=>(∃a t L,o= .returned (.tuple #[enV r.2.1 a,t,vI r.1])/\L.map CO.chg=r.2.2/\stepEAt w w' r.2.1 a t L)/\Ϝ w w':=by
 have k:=hIz (λ(g:ϙ) (n:Ϝ w g)=>VY p x e y v l m r g W (pl.Ae O n) J (h.below n) X (U.below n) Q);have lp:=PM I;obtain⟨Y,Z,v2,v3,v4,v5,v6,v7,v8,v9,aa,ab,ac⟩:=I;clear W O h X U Q J;obtain⟨SE,b,SC⟩:=r;dsimp only at k⊢;unfold pl.Ap at k;rw[ET e y]at k⊢;unfold evV at k⊢;obtain⟨u,M⟩:=nM v.kind;obtain⟨A,S⟩:=nM v.side;obtain⟨C,T⟩:=nM v.time;obtain⟨z,R⟩:=nM v.row.length;rw[M,S,T,R]at k⊢;clear M S T R;go_enter func47,ntmps47;go_upto_region 1 with fail;generalize i:(World.alloc (World.alloc (World.alloc w _) _) _)=V;have d:Ϝ w V:=by rw[<-i];exact(Ϩ.alloc ϟ _).alloc Ϥ _
 have j:ϛ (Fx V (w.heap.size+1+1)/\Ai V (w+1+1) 42):=by
  subst i;have G:=Hu (ξ (ξ w #[vI e.j.L.lim,vS y.y.l.m.1.1 y.y.l.m.1.2.1 y.y.l.m.1.2.2,vS y.y.l.ra y.y.l.rs.length y.y.l.rc,vI e.j.R.lim,vS y.y.r.m.1.1 y.y.r.m.1.2.1 y.y.r.m.1.2.2,vS y.y.r.ra y.y.r.rs.length y.y.r.rc,vI e.j.lm,vI e.j.rm,vI e.j.seq,ψ,vS y.va e.v.length y.vc] 42) #[vI u,vI A,vI C,vS l z m] 90);have H:=World.alloc_heap_new (ξ (ξ w #[vI e.j.L.lim,vS y.y.l.m.1.1 y.y.l.m.1.2.1 y.y.l.m.1.2.2,vS y.y.l.ra y.y.l.rs.length y.y.l.rc,vI e.j.R.lim,vS y.y.r.m.1.1 y.y.r.m.1.2.1 y.y.r.m.1.2.2,vS y.y.r.ra y.y.r.rs.length y.y.r.rc,vI e.j.lm,vI e.j.rm,vI e.j.seq,ψ,vS y.va e.v.length y.vc] 42) #[vI u,vI A,vI C,vS l z m] 90) (.cells #[ω,ψ,ψ,ω,ψ,ψ,ω,ω,ω,ψ,ψ] 42);rw[World.size_alloc,World.size_alloc]at G H;exact⟨G,_,_,H⟩
 have ae:ϛ (Dp V w.heap.size e y):=by
  subst i;exact Bl (Ey ..) (Ϩ.alloc ϟ _)
 have e0:Δ V (w+1) 0 (vI u):=by subst i;go_simp
 have e1:Δ V (w+1) 1 (vI A):=by subst i;go_simp
 have e2:Δ V (w+1) 2 (vI C):=by subst i;go_simp
 have e3:Δ V (w+1) 3 (vS l z m):=by subst i;go_simp
 clear i;replace Y:=cLz d Y;replace Z:=cLz d Z;replace v2:=cLz d v2;replace v3:=cLz d v3;replace v4:=cLz d v4;replace v5:=cLz d v5;replace v6:=cLz d v6;replace v7:=cLz d v7;replace v8:=cLz d v8;replace v9:=cLz d v9;replace aa:=cLz d aa;replace ab:=cLz d ab;replace ac:=cLz d ac;obtain⟨u0,u1,u2,u3,u4,u5,u6,u7,u8,u9,u10⟩:=ae.o;go_wp2_with fail;refine(k.o _ d).mono ?_;rintro o g ⟨⟨a,t,L,rfl,hl,ag⟩,q⟩;have af:Ϝ w g:=bT d q;replace j:ϛ (Fx g (w.heap.size+1+1)/\Ai g (w+1+1) 42):=⟨BK j.o.1 q,Ad j.o.2 q⟩;have E:ϛ (stepEAt w (World.setCells g (w.heap.size+1+1) 0 [vI b.j.L.lim,vS a.y.l.m.1.1 a.y.l.m.1.2.1 a.y.l.m.1.2.2,vS a.y.l.ra a.y.l.rs.length a.y.l.rc,vI b.j.R.lim,vS a.y.r.m.1.1 a.y.r.m.1.2.1 a.y.r.m.1.2.2,vS a.y.r.ra a.y.r.rs.length a.y.r.rc,vI b.j.lm,vI b.j.rm,vI b.j.seq,ψ,vS a.va b.v.length a.vc]) b a t L):=Gv (Jt ag d.size) j.o.2 _ _;rw[ET b a];have f:ϛ ((World.setCells g (w.heap.size+1+1) 0 [vI b.j.L.lim,vS a.y.l.m.1.1 a.y.l.m.1.2.1 a.y.l.m.1.2.2,vS a.y.l.ra a.y.l.rs.length a.y.l.rc,vI b.j.R.lim,vS a.y.r.m.1.1 a.y.r.m.1.2.1 a.y.r.m.1.2.2,vS a.y.r.ra a.y.r.rs.length a.y.r.rc,vI b.j.lm,vI b.j.rm,vI b.j.seq,ψ,vS a.va b.v.length a.vc]).rangeAt (w.heap.size+1+1) 0 [vI b.j.L.lim,vS a.y.l.m.1.1 a.y.l.m.1.2.1 a.y.l.m.1.2.2,vS a.y.l.ra a.y.l.rs.length a.y.l.rc,vI b.j.R.lim,vS a.y.r.m.1.1 a.y.r.m.1.2.1 a.y.r.m.1.2.2,vS a.y.r.ra a.y.r.rs.length a.y.r.rc,vI b.j.lm,vI b.j.rm,vI b.j.seq,ψ,vS a.va b.v.length a.vc]):=Fs j.o.1 rfl;have D:ϛ (Ϝ w (World.setCells g (w.heap.size+1+1) 0 [vI b.j.L.lim,vS a.y.l.m.1.1 a.y.l.m.1.2.1 a.y.l.m.1.2.2,vS a.y.l.ra a.y.l.rs.length a.y.l.rc,vI b.j.R.lim,vS a.y.r.m.1.1 a.y.r.m.1.2.1 a.y.r.m.1.2.2,vS a.y.r.ra a.y.r.rs.length a.y.r.rc,vI b.j.lm,vI b.j.rm,vI b.j.seq,ψ,vS a.va b.v.length a.vc])):=below_setCells ϝ _ 0 _ af
 go_wp2_with ((with_reducible refine wpList_store_mid ?_ 42 (.tmp 5) (.tmp 12) ?_ (w.heap.size+1+1) 0 #[vI b.j.L.lim,vS a.y.l.m.1.1 a.y.l.m.1.2.1 a.y.l.m.1.2.2,vS a.y.l.ra a.y.l.rs.length a.y.l.rc,vI b.j.R.lim,vS a.y.r.m.1.1 a.y.r.m.1.2.1 a.y.r.m.1.2.2,vS a.y.r.ra a.y.r.rs.length a.y.r.rc,vI b.j.lm,vI b.j.rm,vI b.j.seq,ψ,vS a.va b.v.length a.vc] ?_ ?_ ?_ ?_ ?_ ?_);exact rfl;exact rfl;exact rfl;exact rfl;exact j.o.1;exact Jg;exact Ϧ);generalize (World.setCells g (w.heap.size+1+1) 0 [vI b.j.L.lim,vS a.y.l.m.1.1 a.y.l.m.1.2.1 a.y.l.m.1.2.2,vS a.y.l.ra a.y.l.rs.length a.y.l.rc,vI b.j.R.lim,vS a.y.r.m.1.1 a.y.r.m.1.2.1 a.y.r.m.1.2.2,vS a.y.r.ra a.y.r.rs.length a.y.r.rc,vI b.j.lm,vI b.j.rm,vI b.j.seq,ψ,vS a.va b.v.length a.vc])=W' at f D E⊢;have z0:=f.o 0 _ rfl;have z1:=f.o 1 _ rfl;have z2:=f.o 2 _ rfl;have z3:=f.o 3 _ rfl;have z4:=f.o 4 _ rfl;have z5:=f.o 5 _ rfl;have z6:=f.o 6 _ rfl;have z7:=f.o 7 _ rfl;have z8:=f.o 8 _ rfl;have z9:=f.o 9 _ rfl;have ad:=f.o 10 _ rfl;simp only[Nat.zero_add]at z0 z1 z2 z3 z4 z5 z6 z7 z8 z9 ad;exact bodyPost_ret (v:=.tuple #[.agg #[vI b.j.L.lim,vS a.y.l.m.1.1 a.y.l.m.1.2.1 a.y.l.m.1.2.2,vS a.y.l.ra a.y.l.rs.length a.y.l.rc,vI b.j.R.lim,vS a.y.r.m.1.1 a.y.r.m.1.2.1 a.y.r.m.1.2.2,vS a.y.r.ra a.y.r.rs.length a.y.r.rc,vI b.j.lm,vI b.j.rm,vI b.j.seq,ψ,vS a.va b.v.length a.vc],t,vI SE]) (by simp[results,results47,go_sem,z0,z1,z2,z3,z4,z5,z6,z7,z8,z9,ad]) rfl ⟨⟨a,t,L,rfl,hl,E.o⟩,D.o⟩
def U7(s:Jn):Prop:=((∀l∈partsB s.L,l.length<=χ)/\∀y∈Ac s.L,y.row.length<=χ)/\((∀l∈partsB s.R,l.length<=χ)/\∀y∈Ac s.R,y.row.length<=χ)
theorem Y2(s:Jn)(y z:JX)(w:ϙ)(h:joinAt w s y)(n:joinAt w s z)(d:U7 s):
 η 42 #[joinV s y,joinV s z] w (θ w (.bool true)):=by
 have G:ϛ (∀a,Ϝ w a->CT 93 #[.agg (Ω s.L y.l),.agg (Ω s.L z.l)] a (θ a (.bool true))):=λa b=>R6 s.L y.l z.l a (An h.l b) (An n.l b) d.1.1 d.1.2;have H:ϛ (∀a,Ϝ w a->CT 93 #[.agg (Ω s.R y.r),.agg (Ω s.R z.r)] a (θ a (.bool true))):=λa b=>R6 s.R y.r z.r a (An h.r b) (An n.r b) d.2.1 d.2.2;rw[AK,AK];clear h n d;go_enter func42,ntmps42;go_upto_region 1 with fail;generalize f:(World.alloc (World.alloc w _) _)=V;have C:Ϝ w V:=by rw[<-f];exact Ϩ.alloc ϟ _
 have l:ϛ (Cb V w s y):=by
  subst f;exact Az (Cs ..) Ϩ
 have m:ϛ (Cb V (w+1) s z):=by
  subst f;have:=Cs (ξ w (Ψ s y) 38) s z 38;rw[World.size_alloc]at this;exact this
 clear f;obtain⟨u0,u1,u2,u3,u4,u5,u6,u7,u8⟩:=l.o;obtain⟨o,q,r,u,x,A,i,j,k⟩:=m.o;go_wp2_with fail;refine(G.o _ C).mono ?_;rintro e a ⟨rfl,g⟩;have F:Ϝ w a:=bT C g;clear u0 u1 u2 u3 u4 u5 u6 u7 u8 o q r u x A i j k;obtain⟨u0,u1,u2,u3,u4,u5,u6,u7,u8⟩:=Az l.o g;obtain⟨o,q,r,u,x,A,i,j,k⟩:=Az m.o g;go_wp2_with fail;refine(H.o _ F).mono ?_;rintro e w2 ⟨rfl,E⟩;have I:Ϝ w w2:=bT F E;have D:Ϝ V w2:=bT g E;clear u0 u1 u2 u3 u4 u5 u6 u7 u8 o q r u x A i j k;obtain⟨_,_,_,_,_,_,u6,u7,u8⟩:=Az l.o D;obtain⟨_,_,_,_,_,_,i,j,k⟩:=Az m.o D;go_wp2;go_ret;exact⟨ϟ,I⟩
end jn
namespace cd
open vl bf
variable {B base c : Nat} {w w' w0 w2 : ϙ} {bs : List UInt8} {v : Value}
def u64(n:Int):Nat:=(n % 18446744073709551616).toNat
def AU(n:Int):List UInt8:=be8 (u64 n) 8
theorem Am(n:Int):(AU n).length=8:=E9 _ _
def txt(s:List UInt8):List UInt8:=AU s.length++s
def keepW(w w':World):Prop:=Below 0 w w'/\∀g e,Ai w g e->e≠5->e≠64->w'.heap[g]? =w.heap[g]?
theorem keepW.refl(w:ϙ):keepW w w:=⟨bR,λ_ _ _ _ _=>rfl⟩
theorem keepW.trans{a b c:ϙ}(h:keepW a b)(k:keepW b c):keepW a c:=⟨h.1.trans k.1,λg e i d f=>(k.2 g e (A0 i (h.2 g e i d f)) d f).trans (h.2 g e i d f)⟩
theorem keepW.of(h:Ϝ w w'):keepW w w':=⟨h.mono (Nat.zero_le _),λg e a _ _=>h.block g (A2 a)⟩
structure WR(w:World)(base B:Nat)(bs:List UInt8):Prop where
 cell:∃v,Δ w B 0 v/\ownB w base v bs
 frz:Ξ w B 0
 tb:Ai w B 64
 low:base<=B
theorem WR.same(h:WR w base B bs)(b:w'.heap[B]? =w.heap[B]?)(f:∀g,Ai w g 5->w'.heap[g]? =w.heap[g]?):WR w' base B bs:=by
 obtain⟨v,i,d⟩:=h.cell;exact⟨⟨v,(cOb (w:=w) (a:=⟨B,0,none⟩) b).trans i,A4 d (λg j=>f g (Av d j))⟩,(World.frozen?_of_block (w:=w) (a:=⟨B,0,none⟩) b).trans h.frz,A0 h.tb b,h.low⟩
theorem WR.below(h:WR w base B bs)(a:Ϝ w w'):WR w' base B bs:=h.same (a.block B (A2 h.tb)) (λg b=>a.block g (A2 b))
theorem WR.lt(h:WR w base B bs):B<w.heap.size:=A2 h.tb
theorem VZ{M:Array Oper}{o:Oper}{a:Act}{K:Act->World->Prop}{Q:Exit->Act->World->Prop}{E:Prop}(q:o.guard=none)(s x:Operand)
 (C:o.op= .call {callee:=.builtin .append,args:=#[s,x],argTypes:=#[51,51]})
 (base:Nat) (v:Value) (l:List UInt8) (b:UInt8) (X:Value) (n:X=EW b) (i:Nat) (z:l.length=i) (d:ϙ) (A:ownB d base v l) (T:i<=100000000000000) (S:base<=d.heap.size)
 (D:a.eval s=v) (F:a.eval x=vS (τ d) 1 1)
 (h:∀g f w2,ownB w2 base (vS (τ g) (i+1) f) (l++[b])->(d.alloc (.cells #[X] 5)).grownBy w2 v.ownBlock->K (a.put o.dst (vS (τ g) (i+1) f)) w2):
 if Region.wanted o (yielded M a.tmps)=true then Oper.wp Tryz.prog o a (ξ d #[X] 5) K Q else E:=by
 subst n;subst z;obtain⟨J,r,G,H,I⟩:=info_parts Tryz.info5;refine step_append_lies _ q s x 51 C base 5 J (.int .u8 0) 1 1 underlying51 r G H I rfl Ϟ v l.length (l.map EW) D
  (World.ownsRow.alloc A _) ⟨d,0,none⟩ 1 1 [EW b] F rfl (cell_one_new _ _ _) (by intro u j;simp at j;subst j;rfl) Ϟ ϧ ϝ Ϣ (d.heap.size+1) ϟ ?_
 intro g f w2 k m O R;refine h g f w2 ?_ m;unfold ownB;rw[lAp,map_append];exact k
theorem Eo{b:Option Nat}(a:Ϝ w w0)(d:w0.grownBy w2 b)(f:B<w.heap.size)(g:b≠some B):w2.heap[B]? =w.heap[B]? :=by
 rw[d.block B (by have:=a.size;omega) (λe=>g e.symm)];exact a.block B f
theorem Y3{bs':List UInt8}{b:Value}(h:WR w base B bs)(m:ownB w base v bs)(j:Ϝ w w0)(l:w0.grownBy w2 v.ownBlock)(q:ownB w2 base b bs')(n:base<=w.heap.size):
 WR (φ w2 B 0 b) base B bs'/\Below base w (φ w2 B 0 b)/\keepW w (φ w2 B 0 b):=by
 have z:∀g e,Ai w g e->e≠5->g≠B->(w2.setCell ⟨B,0,none⟩ b).heap[g]? =w.heap[g]? :=λg e f D G=>by
  rw[heap_setCell_other _ _ _ _ G];exact Eo j l (A2 f) (λd=>tyAt_apart f (Av m d) D rfl)
 have i:w2.heap[B]? =w.heap[B]? :=Eo j l h.lt (λd=>tyAt_apart h.tb (Av m d) Ϟ rfl);obtain⟨I,A,_⟩:=h.cell;have C:Δ w2 B 0 I:=(cOb (w:=w) (a:=⟨B,0,none⟩) i).trans A;have E:Ξ w2 B 0:=(World.frozen?_of_block (w:=w) (a:=⟨B,0,none⟩) i).trans h.frz;have x:b.ownBlock≠some B:=λd=>tyAt_apart (A0 h.tb i) (Av q d) Ϟ rfl;have o:Below base w (φ w2 B 0 b):=(((j.mono n).grown l (Nat.le_trans n j.size) (λk H=>(World.ownsRow.lt m k H).1))).setCell h.low b;exact⟨⟨⟨b,World.cell?_setCell_same' _ _ _ (by rw[C];rfl),A4 q (λg F=>heap_setCell_other _ _ _ _ (λd=>x ((congrArg some (show B=g from d.symm)).symm▸F)))⟩,by rw[World.frozen?_setCell];exact E,A6 (A0 h.tb i) _ _,h.low⟩,o,o.mono (Nat.zero_le _),λg e f r u=>z g e f r (tyAt_apart f h.tb u)⟩
theorem SP(u j:Nat)(h:j<8):(.int .u8 (IntKind.u8.wrap ((u:Int)/2 ^ (56 - 8 * (j:Int)).toNat)):Value)=EW (Dd u j):=by
 rw[<-ON u j,show(56 - 8 * (j:Int)).toNat=56 - 8 * j by omega]
 congr 1
theorem SQ(n:Int):u64 n<=18446744073709551615:=by unfold u64;omega
theorem Y4(n:Int):IntKind.u64.wrap n=((u64 n:Nat):Int):=by rw[Va];unfold u64;omega
theorem BI(base B:Nat)(bs:List UInt8)(n:Int)(w:ϙ)(J:base<=w.heap.size)(h:WR w base B bs)(A:bs.length<=10000000000000):
 η 60 #[μ B,vI n] w λe w'=>e= .returned (.tuple #[])/\WR w' base B (bs++AU n)/\Below base w w'/\keepW w w':=by
 have U:=Y4 n;obtain⟨u,m⟩:∃u,u64 n=u:=⟨_,rfl⟩;have ac:u<=18446744073709551615:=by rw[<-m];exact SQ n
 unfold AU;rw[m]at U⊢;have F:=hqz A;clear m A;go_enter func60,ntmps60;go_wp2
 go_loopw [4] (λi wr=> ∃j:Nat,j<=8/\i=vI (56 - 8 * (j:Int))/\WR wr base B (bs++be8 u j)/\Below base w wr/\keepW w wr) (λi _=>(intOf i+8).toNat)
 case atStart=>exact⟨0,ϝ,rfl,by simpa[be8]using h,bR,keepW.refl _⟩
 case round=>
  obtain⟨j,hj,rfl,D,l,z⟩:=hrel;have R:=E9 u j;have r:base<=wr.heap.size:=Nat.le_trans J l.size;have b:ϛ (WR wr base B (bs++be8 u j)/\Below base w wr/\keepW w wr):=⟨D,l,z⟩;clear h D l z;by_cases S:j<8
  ·obtain⟨v,O,C⟩:=b.o.1.cell;have Q:=b.o.1.frz;have k:ϛ (∀W,Ϝ wr W->ownB W base v (bs++be8 u j)):=λW I=>Nl C I;have M:=b.o.1.lt;clear C;have E:=hqz O;have o:ϛ (v.ownBlock≠some B/\Ξ wr B 0):=⟨λG=>tyAt_apart b.o.1.tb (Av (k.o wr bR) G) Ϟ rfl,Q⟩;go_upto_region 3 with fail
   go_region_law (refine VZ (by rfl) (.tmp 13) (.tmp 19) (by rfl) base v (bs++be8 u j) (Dd u j) _ (SP u j S) (bs.length+j) (by rw[lAp,R]) wr.drew (k.o _ bR.drew) (by have:=F.o;omega) r (by rfl) (by rfl) ?_;intro f d w2 T x;have q:=Eo (bR.drew.alloc ϟ _) x M o.o.1;have aa:Δ w2 B 0 v:=(cOb (w:=wr) (a:=⟨B,0,none⟩) q).trans E.o;have ab:Ξ w2 B 0:=(World.frozen?_of_block (w:=wr) (a:=⟨B,0,none⟩) q).trans o.o.2)
   all_goals
    obtain⟨V,X,Y⟩:=Y3 b.o.1 (k.o wr bR) (bR.drew.alloc ϟ _) x T r;have g:ϛ (WR (φ w2 B 0 (vS (τ f) (bs.length+j+1) d)) base B (bs++be8 u j++[Dd u j])/\Below base w (φ w2 B 0 (vS (τ f) (bs.length+j+1) d))/\keepW w (φ w2 B 0 (vS (τ f) (bs.length+j+1) d))):=⟨V,b.o.2.1.trans X,b.o.2.2.trans Y⟩;generalize w2.setCell ⟨B,0,none⟩ (vS (τ f) (bs.length+j+1) d)=Z at g⊢;go_wp2;go_roundw
    case rel=>exact⟨j+1,ϝ,by go_num,by rw[RU,<-append_assoc];exact g.o.1,g.o.2⟩
    case measure=>simp[intOf];omega
  ·have H:j=8:=ϝ;subst H;go_wp2
   go_end0
   exact⟨rfl,b.o⟩
theorem Adl:Tryz.prog.underlying 9=some .string:=Ϡ
theorem U8{e:TypeId}{s:Nat}{n:Nat}{f:List Value}(h:w.ownsRow base e s v n f):∃b a,v=vS b n a:=by
 rcases h.2 with⟨rfl,d⟩|⟨g,a,i,rfl,_⟩
 ·exact⟨none,0,by rw[d]⟩
 ·exact⟨_,_,rfl⟩
theorem AaW(base B:Nat)(bs:List UInt8)(s:ByteArray)(w:ϙ)(j:base<=w.heap.size)(h:WR w base B bs)(O:bs.length<=10000000000000)(Q:s.size<=10000000000000):
 η 185 #[μ B,.string s] w λe w'=>e= .returned (.tuple #[])/\WR w' base B (bs++s.data.toList)/\Below base w w'/\keepW w w':=by
 obtain⟨C,l,x,z,A⟩:=info_parts Tryz.info5;have G:=hqz l;obtain⟨v,r,b⟩:=h.cell;have g:=hqz h;have f:=hqz b;have n:ϛ (v.ownBlock≠some B):=λo=>tyAt_apart h.tb (Av b o) Ϟ rfl;have u:=h.frz;clear h b;go_enter func185,ntmps185;have q:=g.o.lt;have d:ϛ (Ξ w B 0/\Δ w B 0 v):=⟨u,r⟩;go_wp2_with (at_builtin;refine Lib.wpList_append_own_string _ rfl (.tmp 8) (.tmp 9) 51 9 rfl base 5 C underlying51 Adl l x z A v bs.length (bs.map EW) rfl f.o s rfl ϧ ϝ j ?_;intro R w2 m k _;obtain⟨H,I,rfl⟩:=U8 m;have i:=Eo bR k q n.o;have J:Δ w2 B 0 v:=(cOb (w:=w) (a:=⟨B,0,none⟩) i).trans d.o.2;have M:Ξ w2 B 0:=(World.frozen?_of_block (w:=w) (a:=⟨B,0,none⟩) i).trans d.o.1);obtain⟨D,E,F⟩:=Y3 (bs':=bs++s.data.toList) g.o f.o bR k (by
  unfold ownB;rw[lAp,AL,map_append];exact m) j
 go_end0
 exact⟨rfl,D,E,F⟩
def Ju(w:World):Prop:=∀j,j<16->Δ w 0 j (.int .u32 (P8.getD j 0:Nat))
theorem EC(h:Ju w)(a:Ϝ w w'):Ju w':=λj b=>cLz a (h j b)
def Y5(c:Nat)(b:UInt8):Nat:=nibS (nibS (c ^^^ b.toNat))
def Po(l:List UInt8):Nat:=l.foldl Y5 4294967295
def crc(l:List UInt8):Nat:=Po l ^^^ 4294967295
theorem Hg{a b:Nat}(ha:a<4294967296)(d:b<4294967296):a ^^^ b<4294967296:=Nat.xor_lt_two_pow (n:=32) ha d
theorem U9:∀l,l<16->P8.getD l 0<4294967296:=Ϟ
theorem Pp(h:c<4294967296):nibS c<4294967296:=by
 unfold nibS;exact Hg (Nat.lt_of_le_of_lt (Nat.shiftRight_le _ _) h) (U9 _ (Nat.mod_lt _ Ϟ))
theorem AaX(h:c<4294967296)(b:UInt8):Y5 c b<4294967296:=Pp (Pp (Hg h (by have:=b.toNat_lt;omega)))
theorem Oo:∀(l:List UInt8) (c:Nat),c<4294967296->l.foldl Y5 c<4294967296
 |[],_,h=>h
 |b::l,c,h=>Oo l _ (AaX h b)
theorem UA(l:List UInt8):Po l<4294967296:=Oo l _ Ϟ
theorem Y6(l:List UInt8):crc l<4294967296:=Hg (UA l) Ϟ
theorem Wa(l:List UInt8)(b:UInt8):Po (l++[b])=Y5 (Po l) b:=by unfold Po;rw[foldl_append];rfl
theorem ofInt32(x:Nat)(a:x<4294967296):(BitVec.ofInt IntKind.u32.bits (x:Int)).toNat=x:=by
 rw[BitVec.toNat_ofInt];show((x:Int) % 4294967296).toNat=x;rw[Int.emod_eq_of_lt ϝ ϝ];rfl
theorem LI(x:Nat)(a:x<4294967296):IntKind.u32.wrap (x:Int)=x:=by
 simp[IntKind.wrap,IntKind.signed,IntKind.bits];omega
theorem Y7(a b:Nat)(ha:a<4294967296)(d:b<4294967296):bits BinOp.xor IntKind.u32 (a:Int) (b:Int)=((a ^^^ b:Nat):Int):=by
 unfold bits;simp only[];rw[BitVec.toNat_xor,ofInt32 a ha,ofInt32 b d];exact LI _ (Hg ha d)
theorem AcG(a:Nat)(ha:a<4294967296):bits BinOp.and IntKind.u32 (a:Int) 15=((a % 16:Nat):Int):=by
 unfold bits;simp only[];have e:(BitVec.ofInt IntKind.u32.bits 15).toNat=15:=ofInt32 15 Ϟ;rw[BitVec.toNat_and,ofInt32 a ha,e,show(15:Nat)=2 ^ 4 - 1 from rfl,Nat.and_two_pow_sub_one_eq_mod];exact LI _ (by have:=Nat.mod_lt a (show 0<2 ^ 4 by decide);omega)
theorem AcH{d m t:Nat}(f:d<4294967296)(a:d % 16=m)(b:P8.getD m 0=t):bits BinOp.xor IntKind.u32 ((d:Int)/16) (t:Int)=((nibS d:Nat):Int):=by
 have e:(d:Int)/(16:Int)=((d>>>4:Nat):Int):=by rw[Nat.shiftRight_eq_div_pow];omega
 rw[e,Y7 _ _ (Nat.lt_of_le_of_lt (Nat.shiftRight_le _ _) f) (by rw[<-b,<-a];exact U9 _ (Nat.mod_lt _ Ϟ))];unfold nibS;rw[a,b]
theorem Aef(c:Nat)(h:c<4294967296):bits BinOp.xor IntKind.u32 IntKind.u32.max (c:Int)=((c ^^^ 4294967295:Nat):Int):=by
 have:=Y7 4294967295 c Ϟ h;rw[Nat.xor_comm]at this;exact this
theorem Pq(s:ByteArray)(w:ϙ)(h:Ju w)(W:s.size<=100000000):
 η 12 #[.string s] w λe w'=>e= .returned (.int .u32 (crc s.data.toList:Nat))/\w'=w:=by
 have C:ϛ (Ju w):=h;have T:=bLt _ _ (h 0 Ϟ);clear h;go_enter func12,ntmps12;go_wp2
 go_loopw [3,4,7] (λu t i wr=> ∃k:Nat,k<=s.size/\i=vI k/\u= .int .u32 (Po (s.data.toList.take k):Nat)/\wr=w) (λ_ _ i _=>s.size - (intOf i).toNat)
 case atStart=>exact⟨0,Nat.zero_le _,rfl,rfl,rfl⟩
 case round=>
  obtain⟨k,V,rfl,rfl,Q⟩:=hrel;obtain⟨c,l⟩:=nM (Po (s.data.toList.take k));have r:=hqz l;have x:c<4294967296:=by rw[<-l];exact UA _
  rw[l];clear l;by_cases O:k<s.size
  ·have X:(0:Int)<=(k:Int):=ϝ;have R:(k:Int)<(s.size:Int):=ϝ;have U:=s[k].toNat_lt;go_upto_region 6 with fail;rw[Y7 c s[k].toNat x ϝ];obtain⟨d,n⟩:=nM (c ^^^ s[k].toNat);have z:d<4294967296:=by rw[<-n];exact Hg x ϝ
   have G:=hqz n;rw[n];clear n;obtain⟨m,b⟩:=nM (d % 16);have q:m<16:=ϝ;have ha:bits BinOp.and IntKind.u32 (d:Int) 15=(m:Int):=by rw[AcG d z,b]
   have j:=C.o m q;obtain⟨t,f⟩:=nM (P8.getD m 0);rw[f]at j;have F:(m:Int)<16:=ϝ;have E:(0:Int)<=(m:Int):=ϝ;subst Q;go_upto_region 7 with fail;rw[AcH z b f];have A:ϛ (nibS d=nibS d):=rfl;obtain⟨a,o⟩:=nM (nibS d);have D:a<4294967296:=by rw[<-o];exact Pp z
   replace A:=hqz o;rw[o];clear o j ha b f F E q;obtain⟨g,b⟩:=nM (a % 16);have q:g<16:=ϝ;have ha:bits BinOp.and IntKind.u32 (a:Int) 15=(g:Int):=by rw[AcG a D,b]
   have j:=C.o g q;obtain⟨S,f⟩:=nM (P8.getD g 0);rw[f]at j;have F:(g:Int)<16:=ϝ;have E:(0:Int)<=(g:Int):=ϝ;have J:ϛ (bits BinOp.xor IntKind.u32 ((a:Int)/16) (S:Int)=((nibS a:Nat):Int)):=AcH D b f;have I:ϛ (Po (s.data.toList.take (k+1))=nibS a):=by
    show _=_;rw[Iw s k O,Wa,r.o];unfold Y5;rw[G.o,A.o]
   clear b f;go_wp2;go_roundw
   case rel=>exact⟨k+1,ϝ,by go_num,by rw[I.o,J.o],trivial⟩
   case measure=>simp[intOf];omega
  ·have M:k=s.size:=ϝ;subst M;rw[take_of_length_le (by rw[AL];exact Nat.le_refl _)]at r;have R:¬((s.size:Int)<(s.size:Int)):=ϝ;have H:ϛ (bits BinOp.xor IntKind.u32 IntKind.u32.max (c:Int)=((crc s.data.toList:Nat):Int)):=by
    show _=_;rw[Aef c x,<-r.o];rfl
   go_wp2;go_ret;exact⟨Aj H.o,rfl⟩
def w4(n:Nat):List UInt8:=[UInt8.ofNat (n/16777216),UInt8.ofNat (n/65536),UInt8.ofNat (n/256),UInt8.ofNat n]
theorem SR(n:Nat):(w4 n).length=4:=rfl
theorem Aeg(n:Nat)(w:ϙ)(a:n<4294967296):(convert 51 9 (vS (τ w) 4 4)).run Tryz.prog (ξ w #[.int .u8 ((n:Int)/16777216),.int .u8 ((n:Int)/65536 % 256),.int .u8 ((n:Int)/256 % 256),.int .u8 ((n:Int) % 256)] 5)= .ok (.string ⟨(w4 n).toArray⟩) (ξ w #[.int .u8 ((n:Int)/16777216),.int .u8 ((n:Int)/65536 % 256),.int .u8 ((n:Int)/256 % 256),.int .u8 ((n:Int) % 256)] 5):=by
 refine Kd (base:=w.heap.size) ?_;have e:(w4 n).map EW=[.int .u8 ((n:Int)/16777216),.int .u8 ((n:Int)/65536 % 256),.int .u8 ((n:Int)/256 % 256),.int .u8 ((n:Int) % 256)]:=by
  unfold w4 EW;simp only[map_cons,map_nil,UInt8.toNat_ofNat']
  congr 1
  ·congr 1;omega
 unfold ownB;rw[e];exact World.ownsRow_lit w _ 4 nR Ϟ rfl
theorem QA(n:Nat)(w:ϙ)(a:n<4294967296):
 η 25 #[.int .u32 n] w (θ w (.string ⟨(w4 n).toArray⟩)):=by
 have b:=Aeg n w a;go_enter func25,ntmps25;go_wp2;go_ret;exact⟨rfl,Ϩ⟩
end cd
end Go.Proofs.YtfkihidbnfkbaaaGreatDoor
