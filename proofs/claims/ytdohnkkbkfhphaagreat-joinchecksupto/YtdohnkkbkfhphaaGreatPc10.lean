import Derived.Test.YtdohnkkbkfhphaaGreatPc9
set_option linter.all false
set_option maxHeartbeats 4000000
namespace Go.Proofs.YtdohnkkbkfhphaaGreat
open Go.Proofs.Tryz
namespace bf
open Go.ChangeShapes Go.WideShapes Go.ChangeAt Go.RowKit
open vl
variable {W w w' w1 w2 : World} {C NB b base base' cap2 g n s size : Nat} {e t : TypeId} {v : Value} {xs : List Value} {x : Ent} {l : List Ent} {o : Obj} {p : Part}
theorem P7:(Tryz.prog.info? 63).map (fun i=>(i.zero,i.size,i.bytes))=some (some (.agg #[.string ⟨#[]⟩,.int .i64 0,.int .i64 0,.slice none 0 0,.bool false]),5,64):=by kernel_rfl
theorem A0(h:w.ownsRow base e size v n xs)(hb:∀g,v.ownBlock=some g->w'.heap[g]? =w.heap[g]?):w'.ownsRow base e size v n xs:=by
 refine⟨h.1,?_⟩
 rcases h.2 with h0|⟨g,cap,cur,hv,h1,hg,h2⟩
 ·exact .inl h0
 ·exact .inr ⟨g,cap,cur,hv,h1,by rw[hb g (by rw[hv];rfl)];exact hg,h2⟩
theorem AD(h:w.ownsRow base e size v n xs)(hg:v.ownBlock=some g):base<=g/\g<w.heap.size:=World.ownsRow.lt h g hg
theorem own_below(h:w.ownsRow base e size v n xs)(hb:Bwz w w'):w'.ownsRow base e size v n xs:=
 A0 h (fun g hg=>hb.block g (AD h hg).2)
theorem C5(h:w.ownsRow base e size v n xs)(hb:base'<=base):w.ownsRow base' e size v n xs:=by
 refine⟨h.1,?_⟩
 rcases h.2 with h0|⟨g,cap,cur,hv,h1,hg,h2⟩
 ·exact .inl h0
 ·exact .inr ⟨g,cap,cur,hv,Nat.le_trans hb h1,hg,h2⟩
theorem Gy{e':TypeId}{s':Nat}{v':Value}{n':Nat}{xs':List Value}(h:w.ownsRow base e s v n xs)(h':w.ownsRow base' e' s' v' n' xs')(he:e≠e')(hg:v.ownBlock=some g):v'.ownBlock≠some g:=fun hg'=>by
 rcases h.2 with⟨rfl,_⟩|⟨b,cap,cur,rfl,_,hb,_⟩
 ·cases hg
 ·rcases h'.2 with⟨rfl,_⟩|⟨b',cap',cur',rfl,_,hb',_⟩
  ·cases hg'
  ·cases hg
   cases hg'
   rw[hb]at hb'
   injection hb' with e1
   injection e1 with _ e2 _
   exact he e2
theorem Cl(b off j:Nat):(⟨b,off,none⟩:Addr).add j=⟨b,off+j,none⟩:=by unfold Addr.add;split<;>simp_all
theorem DX{off:Nat}{r:List Cel}(h:vl.rowAt w (some ⟨b,off,none⟩) r):∀j u,(celCells r)[j]? =some u->w.cell? ((⟨b,off,none⟩:Addr).add j)=some u:=by
 intro j u hu
 have hlen:j<(celCells r).length:=by
  rcases Nat.lt_or_ge j (celCells r).length with h|h
  ·exact h
  ·rw[List.getElem?_eq_none h]at hu;cases hu
 rw[CQ]at hlen
 have hi:j/3<r.length:=by omega
 obtain⟨b',o',e,x1,x2,x3⟩:=h (j/3) hi
 cases e
 obtain⟨y1,y2,y3⟩:=FR r (j/3) hi
 rw[Cl]
 have hj:j=j/3 * 3\/j=j/3 * 3+1\/j=j/3 * 3+1+1:=by omega
 rcases hj with e|e|e
 ·rw[e]at hu⊢;rw[y1]at hu;rw[<-hu];exact x1
 ·rw[e]at hu⊢;rw[y2]at hu;rw[<-hu];exact x2
 ·rw[e]at hu⊢;rw[y3]at hu;rw[<-hu];exact x3
theorem DA(r:List Cel):∀u∈celCells r,u.oneCell'=true:=by
 intro u hu
 unfold celCells at hu
 obtain⟨c,_,hc⟩:=List.mem_flatMap.1 hu
 simp at hc
 rcases hc with rfl|rfl|rfl<;>rfl
def EM.to(e:EM)(h:Hdr):EM:=⟨e.key,e.time,e.seq,h,e.met⟩
def An(l:List EM):List Value:=l.flatMap fun e=>[.string e.key,.int .i64 e.time,.int .i64 e.seq,hdV e.row,.bool e.met]
theorem DD(l:List EM):(An l).length=l.length * 5:=by
 induction l with
 |nil=>rfl
 |cons c r ih=>show([_,_,_,_,_]++An r).length=_;rw[lAp,ih,List.length_cons];simp;omega
theorem GM(l:List EM)(e:EM):An (l++[e])=An l++[.string e.key,.int .i64 e.time,.int .i64 e.seq,hdV e.row,.bool e.met]:=by
 unfold An;rw[List.flatMap_append];simp
theorem FZ(r:List EM)(i:Nat)(h:i<r.length):(An r)[i * 5]? =some (.string (r.getD i default).key)/\(An r)[i * 5+1]? =some (.int .i64 (r.getD i default).time)/\(An r)[i * 5+2]? =some (.int .i64 (r.getD i default).seq)/\(An r)[i * 5+3]? =some (hdV (r.getD i default).row)/\(An r)[i * 5+4]? =some (.bool (r.getD i default).met):=by
 induction r generalizing i with
 |nil=>exact absurd h (Nat.not_lt_zero i)
 |cons c r ih=>
  have e:An (c::r)= .string c.key:: .int .i64 c.time:: .int .i64 c.seq::hdV c.row:: .bool c.met::An r:=rfl
  rw[e]
  cases i with
  |zero=>exact⟨rfl,rfl,rfl,rfl,rfl⟩
  |succ i=>
   have:=ih i (by simpa using h)
   rw[show(i+1) * 5=i * 5+1+1+1+1+1 by omega]
   simpa using this
structure OR(w:World)(base:Nat)(e:EM)(x:Ent):Prop where
 key:e.key=x.key
 time:e.time=x.time
 seq:e.seq=x.seq
 met:e.met=x.met
 len:e.row.2.1=x.row.length
 row:AA w base (hdV e.row) x.row
theorem OR.er{e:EM}(h:OR w base e x):ER w e x:=⟨h.key,h.time,h.seq,h.met,h.len,by
 have hr:=h.row
 have hl:=h.len
 obtain⟨k1,t1,s1,⟨a1,n1,c1⟩,m1⟩:=e
 unfold hdV at hr
 dsimp only at hr hl⊢
 rw[hl]at hr
 exact D7 hr⟩
structure OE(w:World)(base:Nat)(v:Value)(es:List EM)(l:List Ent):Prop where
 low:base<=w.heap.size
 own:w.ownsRow base 63 5 v es.length (An es)
 len:es.length=l.length
 rows:∀i,i<l.length->OR w base (es.getD i default) (l.getD i default)
theorem CA(h:base<=w.heap.size):OE w base (.slice none 0 0) [] []:=⟨h,World.ownsRow_nil _ _ _ _,rfl,fun i hi=>absurd hi (Nat.not_lt_zero i)⟩
theorem OE.form{es:List EM}(h:OE w base v es l):∃ad cap,v= .slice ad es.length cap:=by
 rcases h.own.2 with⟨rfl,h0⟩|⟨g,cap,cur,rfl,_⟩
 ·exact⟨none,0,by rw[h0]⟩
 ·exact⟨_,_,rfl⟩
theorem OE.ers{es:List EM}(h:OE w base v es l):ERs w es l:=⟨h.len,fun i hi=>(h.rows i hi).er⟩
theorem OE.at{cap:Nat}{ad:Option Addr}{es:List EM}(h:OE w base (.slice ad es.length cap) es l):BD w ad es:=by
 intro i hi
 rcases h.own.2 with⟨hv,h0⟩|⟨g,cap',cur,hv,h1,hg,h2⟩
 ·omega
 ·cases hv
  have hc:=World.ownsRow.cells h.own (g:=g) rfl
  obtain⟨x1,x2,x3,x4,x5⟩:=FZ es i hi
  refine⟨g,0,rfl,?_,?_,?_,?_,?_⟩
  ·have:=hc _ _ x1;rw[Cl]at this;exact this
  ·have:=hc _ _ x2;rw[Cl]at this;exact this
  ·have:=hc _ _ x3;rw[Cl]at this;exact this
  ·have:=hc _ _ x4;rw[Cl]at this;exact this
  ·have:=hc _ _ x5;rw[Cl]at this;exact this
theorem OE.below{es:List EM}(h:OE w base v es l)(hb:Bwz w w'):OE w' base v es l:=
 ⟨Nat.le_trans h.low hb.size,own_below h.own hb,h.len,fun i hi=>by
  obtain⟨a1,a2,a3,a4,a5,a6⟩:=h.rows i hi
  exact⟨a1,a2,a3,a4,a5,own_below a6 hb⟩⟩
theorem OE.mono{es:List EM}(h:OE w base v es l)(hb:base'<=base):OE w base' v es l:=
 ⟨Nat.le_trans hb h.low,C5 h.own hb,h.len,fun i hi=>by
  obtain⟨a1,a2,a3,a4,a5,a6⟩:=h.rows i hi
  exact⟨a1,a2,a3,a4,a5,C5 a6 hb⟩⟩
theorem OE.same{es:List EM}(h:OE w base v es l)(hs:w.heap.size<=w'.heap.size)(hb:∀g cur t,w.heap[g]? =some (.cells cur t (0,0))->(v.ownBlock=some g/\t=63)\/t=103->w'.heap[g]? =w.heap[g]?):OE w' base v es l:=
 ⟨Nat.le_trans h.low hs,A0 h.own (fun g hg=>by
  rcases h.own.2 with⟨rfl,_⟩|⟨b,cap,cur,rfl,_,hb',_⟩
  ·cases hg
  ·cases hg
   exact hb _ _ _ hb' (.inl ⟨rfl,rfl⟩)),h.len,fun i hi=>by
  obtain⟨a1,a2,a3,a4,a5,a6⟩:=h.rows i hi
  refine⟨a1,a2,a3,a4,a5,A0 a6 (fun g hg=>?_)⟩
  rcases a6.2 with⟨e,_⟩|⟨b,cap,cur,e,_,hb',_⟩
  ·rw[e]at hg;cases hg
  ·rw[e]at hg;cases hg
   exact hb _ _ _ hb' (.inr rfl)⟩
theorem JM{es:List EM}{e:EM}(h:OE w base v es l)(hb1:Bwz w w1)(hx:OR w1 base e x)
 (hown2:w2.ownsRow base 63 5 (.slice (some ⟨g,0,none⟩) (es.length+1) cap2) (es.length+1) (An es++[.string e.key,.int .i64 e.time,.int .i64 e.seq,hdV e.row,.bool e.met])) (hg2:(w1.alloc o).grownBy w2 v.ownBlock):
 OE w2 base (.slice (some ⟨g,0,none⟩) (es.length+1) cap2) (es++[e]) (l++[x])/\Below base w w2:=by
 have h1:=h.below hb1
 have hs2:w1.heap.size<=w2.heap.size:=by have:=hg2.size;simp at this;omega
 have hbl:∀b,b<w1.heap.size->v.ownBlock≠some b->w2.heap[b]? =w1.heap[b]? :=fun b hb ho=>by
  rw[hg2.block b (by simp;omega) (fun e=>ho e.symm)]
  exact Below.heap_alloc _ _ b hb
 have hkeep:∀{e':EM} {x':Ent},OR w1 base e' x'->OR w2 base e' x':=fun {e' x'} k=>by
  obtain⟨a1,a2,a3,a4,a5,a6⟩:=k
  refine⟨a1,a2,a3,a4,a5,A0 a6 (fun b hb=>hbl b (AD a6 hb).2 (fun hv=>?_))⟩
  exact Gy h1.own a6 (by decide) hv hb
 refine⟨⟨Nat.le_trans h1.low hs2,?_,by rw[lAp,lAp,h.len];rfl,fun i hi=>?_⟩,?_⟩
 ·rw[lAp,GM];exact hown2
 ·rw[lAp]at hi
  by_cases hl:i<l.length
  ·rw[AE (by rw[h.len];exact hl),AE hl];exact hkeep (h1.rows i hl)
  ·have:i=l.length:=by simp at hi;omega
   subst this
   rw[AL (by rw[h.len];exact Nat.le_refl _),AL nR,h.len,Nat.sub_self]
   exact hkeep hx
 ·exact((hb1.mono h.low).alloc h1.low o).grown hg2 (by simp;have:=h1.low;omega) (fun b hb=>(AD h1.own hb).1)
theorem J6(base:Nat)(t ty e:TypeId)(i:TypeInfo)(size c:Nat)(ht:Tryz.prog.underlying t=some (.slice e))(hi:Tryz.prog.info? e=some i)
 (v:Value) (n:Nat) (xs:List Value) (hown:w.ownsRow base e size v n xs):(Builtin.append_ #[t,t] ty #[v,.slice none 0 c]).run Tryz.prog w= .ok v w:=by
 rcases hown.2 with⟨rfl,rfl⟩|⟨g,cap,cur,rfl,_,_,hnc,_⟩
 ·simp[Builtin.append_,run_underlying ht,sizeOf,typeInfo,hi,Builtin.lenOf,Builtin.firstCells]
 ·simp[Builtin.append_,run_underlying ht,sizeOf,typeInfo,hi,Builtin.lenOf,Builtin.firstCells,hnc,storeCells]
theorem E7{ops:Array Oper}{rest:List Oper}{o:Oper}{a:Act}{Q:Exit->Act->World->Prop}(hgd:o.guard=none)(s x:Operand)(t:TypeId)
 (ho:o.op= .call {callee:=.builtin .append,args:=#[s,x],argTypes:=#[t,t]}) (base:Nat) (e:TypeId) (i:TypeInfo) (size c:Nat) (ht:Tryz.prog.underlying t=some (.slice e)) (hi:Tryz.prog.info? e=some i)
 (v:Value) (n:Nat) (xs:List Value) (hs:a.eval s=v) (hown:w.ownsRow base e size v n xs) (hx:a.eval x= .slice none 0 c)
 (h:wpList Tryz.prog ops Q rest (a.put o.dst v) w):wpList Tryz.prog ops Q (o::rest) a w:=by
 refine wpList_plain hgd fun K hK=>?_
 have hrun:=J6 (w:=w) base t o.type e i size c ht hi v n xs hown
 unfold Oper.wp
 simp[execOp,ho,resolve,invoke,builtin,hs,hx,hrun,Result.andThen]
 exact hK _ _ h
theorem Rk(h:w.grownBy w' none):Bwz w w':=bR.grown h nR (fun b hb=>by cases hb)
theorem Fg(e:EM)(x:Ent)(w:World)(h:ER w e x)(hl:x.row.length<=1000000):
 Calls Tryz.prog 114 #[e.val] w fun r w'=>(∃ad c,r= .returned (e.to (ad,x.row.length,c)).val/\AA w' w.heap.size (.slice ad x.row.length c) x.row)/\Bwz w w':=by
 obtain⟨i0,hi,hz0,hz1,hz2⟩:=info_parts Tryz.infoV
 have HI:Hid (Tryz.prog.info? 103=some i0/\i0.zero=some (.agg #[.int .i64 0,.int .i64 0,.string ⟨#[]⟩])/\i0.size=3/\i0.bytes=32):=⟨hi,hz0,hz1,hz2⟩
 clear hi hz0 hz1 hz2
 obtain⟨k1,t1,s1,⟨a1,n1,c1⟩,m1⟩:=e
 have hrow:=h.row
 have hlen:=h.len
 dsimp only at hrow hlen
 subst hlen
 unfold EM.val EM.to hdV
 dsimp only
 obtain⟨r,hr⟩:=nM x.row
 rw[hr]at hrow hl⊢
 clear h hr
 obtain⟨n,hn⟩:∃n,r.length=n:=⟨_,rfl⟩
 have HN:Hid (r.length=n):=hn
 have b0:((w.alloc (.cells #[.string k1,.int .i64 t1,.int .i64 s1,.slice a1 r.length c1,.bool m1] 63)).alloc (.cells #[.string ⟨#[]⟩,.int .i64 0,.int .i64 0,.slice none 0 0,.bool false] 63)).cell? ⟨w.heap.size,0,none⟩=some (.string k1):=by go_simp
 have b1:((w.alloc (.cells #[.string k1,.int .i64 t1,.int .i64 s1,.slice a1 r.length c1,.bool m1] 63)).alloc (.cells #[.string ⟨#[]⟩,.int .i64 0,.int .i64 0,.slice none 0 0,.bool false] 63)).cell? ⟨w.heap.size,1,none⟩=some (.int .i64 t1):=by go_simp
 have b2:((w.alloc (.cells #[.string k1,.int .i64 t1,.int .i64 s1,.slice a1 r.length c1,.bool m1] 63)).alloc (.cells #[.string ⟨#[]⟩,.int .i64 0,.int .i64 0,.slice none 0 0,.bool false] 63)).cell? ⟨w.heap.size,2,none⟩=some (.int .i64 s1):=by go_simp
 have b3:((w.alloc (.cells #[.string k1,.int .i64 t1,.int .i64 s1,.slice a1 r.length c1,.bool m1] 63)).alloc (.cells #[.string ⟨#[]⟩,.int .i64 0,.int .i64 0,.slice none 0 0,.bool false] 63)).cell? ⟨w.heap.size,3,none⟩=some (.slice a1 r.length c1):=by go_simp
 have b4:((w.alloc (.cells #[.string k1,.int .i64 t1,.int .i64 s1,.slice a1 r.length c1,.bool m1] 63)).alloc (.cells #[.string ⟨#[]⟩,.int .i64 0,.int .i64 0,.slice none 0 0,.bool false] 63)).cell? ⟨w.heap.size,4,none⟩=some (.bool m1):=by go_simp
 have g0:((w.alloc (.cells #[.string k1,.int .i64 t1,.int .i64 s1,.slice a1 r.length c1,.bool m1] 63)).alloc (.cells #[.string ⟨#[]⟩,.int .i64 0,.int .i64 0,.slice none 0 0,.bool false] 63)).cell? ⟨w.heap.size+1,0,none⟩=some (.string ⟨#[]⟩):=by go_simp
 have g1:((w.alloc (.cells #[.string k1,.int .i64 t1,.int .i64 s1,.slice a1 r.length c1,.bool m1] 63)).alloc (.cells #[.string ⟨#[]⟩,.int .i64 0,.int .i64 0,.slice none 0 0,.bool false] 63)).cell? ⟨w.heap.size+1,1,none⟩=some (.int .i64 0):=by go_simp
 have g2:((w.alloc (.cells #[.string k1,.int .i64 t1,.int .i64 s1,.slice a1 r.length c1,.bool m1] 63)).alloc (.cells #[.string ⟨#[]⟩,.int .i64 0,.int .i64 0,.slice none 0 0,.bool false] 63)).cell? ⟨w.heap.size+1,2,none⟩=some (.int .i64 0):=by go_simp
 have g3:((w.alloc (.cells #[.string k1,.int .i64 t1,.int .i64 s1,.slice a1 r.length c1,.bool m1] 63)).alloc (.cells #[.string ⟨#[]⟩,.int .i64 0,.int .i64 0,.slice none 0 0,.bool false] 63)).cell? ⟨w.heap.size+1,3,none⟩=some (.slice none 0 0):=by go_simp
 have g4:((w.alloc (.cells #[.string k1,.int .i64 t1,.int .i64 s1,.slice a1 r.length c1,.bool m1] 63)).alloc (.cells #[.string ⟨#[]⟩,.int .i64 0,.int .i64 0,.slice none 0 0,.bool false] 63)).cell? ⟨w.heap.size+1,4,none⟩=some (.bool false):=by go_simp
 have f0:((w.alloc (.cells #[.string k1,.int .i64 t1,.int .i64 s1,.slice a1 r.length c1,.bool m1] 63)).alloc (.cells #[.string ⟨#[]⟩,.int .i64 0,.int .i64 0,.slice none 0 0,.bool false] 63)).frozen? ⟨w.heap.size,3,none⟩=false:=by go_simp
 have f1:((w.alloc (.cells #[.string k1,.int .i64 t1,.int .i64 s1,.slice a1 r.length c1,.bool m1] 63)).alloc (.cells #[.string ⟨#[]⟩,.int .i64 0,.int .i64 0,.slice none 0 0,.bool false] 63)).frozen? ⟨w.heap.size+1,0,none⟩=false:=by go_simp
 have f11:((w.alloc (.cells #[.string k1,.int .i64 t1,.int .i64 s1,.slice a1 r.length c1,.bool m1] 63)).alloc (.cells #[.string ⟨#[]⟩,.int .i64 0,.int .i64 0,.slice none 0 0,.bool false] 63)).frozen? ⟨w.heap.size+1,1,none⟩=false:=by go_simp
 have f12:((w.alloc (.cells #[.string k1,.int .i64 t1,.int .i64 s1,.slice a1 r.length c1,.bool m1] 63)).alloc (.cells #[.string ⟨#[]⟩,.int .i64 0,.int .i64 0,.slice none 0 0,.bool false] 63)).frozen? ⟨w.heap.size+1,2,none⟩=false:=by go_simp
 have f13:((w.alloc (.cells #[.string k1,.int .i64 t1,.int .i64 s1,.slice a1 r.length c1,.bool m1] 63)).alloc (.cells #[.string ⟨#[]⟩,.int .i64 0,.int .i64 0,.slice none 0 0,.bool false] 63)).frozen? ⟨w.heap.size+1,3,none⟩=false:=by go_simp
 have f14:((w.alloc (.cells #[.string k1,.int .i64 t1,.int .i64 s1,.slice a1 r.length c1,.bool m1] 63)).alloc (.cells #[.string ⟨#[]⟩,.int .i64 0,.int .i64 0,.slice none 0 0,.bool false] 63)).frozen? ⟨w.heap.size+1,4,none⟩=false:=by go_simp
 have hbV:Bwz w ((w.alloc (.cells #[.string k1,.int .i64 t1,.int .i64 s1,.slice a1 r.length c1,.bool m1] 63)).alloc (.cells #[.string ⟨#[]⟩,.int .i64 0,.int .i64 0,.slice none 0 0,.bool false] 63)):=by
  repeat (first|exact bR|(refine Below.alloc ?_ (by simp<;>omega) _))
 have hsV:((w.alloc (.cells #[.string k1,.int .i64 t1,.int .i64 s1,.slice a1 r.length c1,.bool m1] 63)).alloc (.cells #[.string ⟨#[]⟩,.int .i64 0,.int .i64 0,.slice none 0 0,.bool false] 63)).heap.size=w.heap.size+1+1:=by simp
 cases a1 with
 |none=>
  have h0:r=[]:=by
   cases r with
   |nil=>rfl
   |cons c r=>
    obtain⟨_,_,e,_⟩:=hrow 0 (by simp)
    cases e
  subst h0
  simp only[List.length_nil]at b3⊢
  clear hrow hl hn HN
  go_enter func114,ntmps114
  go_wp2_with (at_builtin;refine E7 rfl (.const (.slice none 0 0)) (.tmp 4) 41 rfl w.heap.size 103 i0 3 c1 underlying41 HI.out.1 _ _ _ rfl (World.ownsRow_nil _ _ _ _) rfl ?_)
  exact bodyPost_ret (v:=.agg #[.string k1,.int .i64 t1,.int .i64 s1,.slice none 0 0,.bool m1]) (by simp[results,results114,go_sem]) rfl ⟨⟨none,0,rfl,World.ownsRow_nil _ _ _ _⟩,by
   repeat (first|exact bR|(refine Below.alloc ?_ (by simp<;>omega) _))⟩
 |some ad=>
  have HCE:Hid (∀j u,(celCells r)[j]? =some u->((w.alloc (.cells #[.string k1,.int .i64 t1,.int .i64 s1,.slice (some ad) n c1,.bool m1] 63)).alloc (.cells #[.string ⟨#[]⟩,.int .i64 0,.int .i64 0,.slice none 0 0,.bool false] 63)).cell? (ad.add j)=some u):=by
   intro j u hu
   rw[hn]at hbV
   have hlen:0<r.length:=by
    rcases Nat.eq_zero_or_pos r.length with h|h
    ·rw[List.length_eq_zero_iff.1 h]at hu;cases hu
    ·exact h
   obtain⟨b,o,e,_⟩:=hrow 0 hlen
   cases e
   exact cLz hbV (DX hrow j u hu)
  rw[hn]at hl b0 b1 b2 b3 b4 g0 g1 g2 g3 g4 f0 f1 f11 f12 f13 f14 hbV hsV⊢
  clear hrow hn
  go_enter func114,ntmps114
  go_wp2_with (at_builtin;refine wpList_append_own _ rfl (.const (.slice none 0 0)) (.tmp 4) 41 rfl (w.heap.size+1+1) 103 i0 (.agg #[.int .i64 0,.int .i64 0,.string ⟨#[]⟩]) 3 32 underlying41 HI.out.1 HI.out.2.1 HI.out.2.2.1 HI.out.2.2.2 rfl (by decide) _ _ _ rfl (World.ownsRow_nil _ _ _ _) ad n c1 (celCells r) rfl (by rw[CQ,HN.out]) HCE.out (DA r) (by unfold maxLen;omega) (by omega) (by simp) ?_;intro v2 w3 hown3 hgrow3 hnil3;have hb3:Below ((w.alloc (.cells #[.string k1,.int .i64 t1,.int .i64 s1,.slice (some ad) n c1,.bool m1] 63)).alloc (.cells #[.string ⟨#[]⟩,.int .i64 0,.int .i64 0,.slice none 0 0,.bool false] 63)).heap.size ((w.alloc (.cells #[.string k1,.int .i64 t1,.int .i64 s1,.slice (some ad) n c1,.bool m1] 63)).alloc (.cells #[.string ⟨#[]⟩,.int .i64 0,.int .i64 0,.slice none 0 0,.bool false] 63)) w3:=Rk hgrow3;have y0:=cLz hb3 b0;have y1:=cLz hb3 b1;have y2:=cLz hb3 b2;have y3:=cLz hb3 b3;have y4:=cLz hb3 b4;have z0:=cLz hb3 g0;have z1:=cLz hb3 g1;have z2:=cLz hb3 g2;have z3:=cLz hb3 g3;have z4:=cLz hb3 g4;rw[Nat.zero_add,List.nil_append]at hown3;obtain⟨a2,c2,hv2⟩:=Gq (show AA w3 _ v2 r from(by unfold AA;rw[HN.out];exact hown3));rw[HN.out]at hv2;subst hv2;have h0:w3.frozen? ⟨w.heap.size,3,none⟩=false:=(by rw[hb3.frozen (p:=⟨w.heap.size,3,none⟩) (by dsimp only;omega)];exact f0);have h1:w3.frozen? ⟨w.heap.size+1,0,none⟩=false:=(by rw[hb3.frozen (p:=⟨w.heap.size+1,0,none⟩) (by dsimp only;omega)];exact f1);have h11:w3.frozen? ⟨w.heap.size+1,1,none⟩=false:=(by rw[hb3.frozen (p:=⟨w.heap.size+1,1,none⟩) (by dsimp only;omega)];exact f11);have h12:w3.frozen? ⟨w.heap.size+1,2,none⟩=false:=(by rw[hb3.frozen (p:=⟨w.heap.size+1,2,none⟩) (by dsimp only;omega)];exact f12);have h13:w3.frozen? ⟨w.heap.size+1,3,none⟩=false:=(by rw[hb3.frozen (p:=⟨w.heap.size+1,3,none⟩) (by dsimp only;omega)];exact f13);have h14:w3.frozen? ⟨w.heap.size+1,4,none⟩=false:=(by rw[hb3.frozen (p:=⟨w.heap.size+1,4,none⟩) (by dsimp only;omega)];exact f14))
  have hbW:Bwz w w3:=hbV.trans (hb3.mono hbV.size)
  refine bodyPost_ret (v:=.agg #[.string k1,.int .i64 t1,.int .i64 s1,.slice a2 n c2,.bool m1]) (by simp[results,results114,go_sem,y0,y1,y2,y3,y4,z0,z1,z2,z3,z4]) rfl ⟨⟨a2,c2,rfl,?_⟩,by
   repeat (first|exact hbW|(refine Below.setCell ?_ (by dsimp only;omega) _))⟩
  unfold AA
  rw[HN.out]
  refine C5 (A0 hown3 (fun g hg=>?_)) (by omega)
  have hg2:=(AD hown3 hg).1
  repeat rw[heap_setCell_other _ _ _ _ (by dsimp only;omega)]
theorem Db(w:World)(a b c d e:Value)(t:TypeId):∀j u,[a,b,c,d,e][j]? =some u->(w.alloc (.cells #[a,b,c,d,e] t)).cell? ((⟨w.heap.size,0,none⟩:Addr).add j)=some u:=by
 intro j u hu
 rw[Cl]
 match j,hu with
 |0,hu=>simp at hu;subst hu;simp[go_sem]
 |1,hu=>simp at hu;subst hu;simp[go_sem]
 |2,hu=>simp at hu;subst hu;simp[go_sem]
 |3,hu=>simp at hu;subst hu;simp[go_sem]
 |4,hu=>simp at hu;subst hu;simp[go_sem]
 |(n+5),hu=>simp at hu
theorem J0{P:Ent->Bool}{k:Nat}(h:k<l.length):(l.take (k+1)).filter P=(l.take k).filter P++(if P (l.getD k default)=true then [l.getD k default]else []):=by
 rw[List.take_succ_eq_append_getElem h,List.filter_append]
 have e:l.getD k default=l[k]:=by rw[gDe,gEe h];rfl
 rw[e]
 congr 1
 simp only[List.filter_cons,List.filter_nil]
theorem Rl(fn:FuncId)(eg:∀args w,(callFunc fn args).run Tryz.prog w= .ok (.enter fn args) w)(caps:Array Value)(P:Ent->Bool)(a:Option Addr)(cap:Nat)(es:List EM)(l:List Ent)(w:World)(hl:l.length<=100000)(ha:BD w a es)(hr:ERs w es l)(hrow:∀x∈l,x.row.length<=1000000)
 (H:∀i w1,i<l.length->Bwz w w1->Calls Tryz.prog fn (#[(es.getD i default).val]++caps) w1 fun e w'=>e= .returned (.bool (P (l.getD i default)))/\Bwz w1 w'):
 Calls Tryz.prog 189 #[.slice a l.length cap,.func (.func fn) #[] caps] w fun e w'=>(∃v es',e= .returned v/\OE w' w.heap.size v es' (l.filter P))/\Bwz w w':=by
 obtain⟨i0,hi0,hz0,hz1,hz2⟩:=info_parts P7
 have HI:Hid (Tryz.prog.info? 63=some i0/\i0.zero=some (.agg #[.string ⟨#[]⟩,.int .i64 0,.int .i64 0,.slice none 0 0,.bool false])/\i0.size=5/\i0.bytes=64):=⟨hi0,hz0,hz1,hz2⟩
 clear hi0 hz0 hz1 hz2
 have HH:Hid (∀i w1,i<l.length->Bwz w w1->CTz fn (#[(es.getD i default).val]++caps) w1 fun e w'=>e= .returned (.bool (P (l.getD i default)))/\Bwz w1 w'):=H
 have HR:Hid (BD w a es/\ERs w es l/\∀x∈l,x.row.length<=1000000):=⟨ha,hr,hrow⟩
 clear H ha hr hrow
 obtain⟨n,hn⟩:∃n,l.length=n:=⟨_,rfl⟩
 have HN:Hid (l.length=n):=hn
 rw[hn]at hl⊢
 clear hn
 go_enter func189,ntmps189
 go_wp2
 go_loopw [5,10] (fun x i wr=> ∃(k:Nat) (es':List EM),k<=n/\i= .int .i64 k/\OE wr w.heap.size x es' ((l.take k).filter P)/\Bwz w wr) (fun _ i _=>n - (intOf i).toNat)
 case atStart=>exact⟨0,[],Nat.zero_le _,rfl,CA nR,bR⟩
 case round=>
  obtain⟨k,es',hk,rfl,hoe,hnx⟩:=hrel
  have HOE:Hid (OE wr w.heap.size u5 es' ((l.take k).filter P)):=hoe
  clear hoe
  by_cases hlt:k<n
  ·have hkl:k<l.length:=by rw[HN.out];exact hlt
   obtain⟨b,o,e,x1,x2,x3,x4,x5⟩:=HR.out.1 k (by rw[HR.out.2.1.1];exact hkl)
   subst e
   have q1:=cLz hnx x1
   have q2:=cLz hnx x2
   have q3:=cLz hnx x3
   have q4:=cLz hnx x4
   have q5:=cLz hnx x5
   clear x1 x2 x3 x4 x5
   have i1:(0:Int)<=(k:Int):=by omega
   have i2:(k:Int)<(n:Int):=by omega
   have KK:Hid (∀w1,Bwz wr w1->CTz fn (#[(es.getD k default).val]++caps) w1 fun e w'=>e= .returned (.bool (P (l.getD k default)))/\Bwz w1 w'):=fun w1 hb=>HH.out k w1 hkl (hnx.trans (hb.mono hnx.size))
   have her:ER w (es.getD k default) (l.getD k default):=HR.out.2.1.2 k hkl
   have hrl:(l.getD k default).row.length<=1000000:=HR.out.2.2 _ (by rw[gDe,gEe hkl];exact List.getElem_mem hkl)
   have KF:Hid (∀w1,Bwz wr w1->CTz 114 #[(es.getD k default).val] w1 fun r w'=>(∃ad c,r= .returned ((es.getD k default).to (ad,(l.getD k default).row.length,c)).val/\AA w' w1.heap.size (.slice ad (l.getD k default).row.length c) (l.getD k default).row)/\Bwz w1 w'):=fun w1 hb=>Fg _ _ w1 (her.below (hnx.trans (hb.mono hnx.size))) hrl
   have HF:Hid ((l.take (k+1)).filter P=(l.take k).filter P++(if P (l.getD k default)=true then [l.getD k default]else [])):=J0 hkl
   have HER:Hid (ER w (es.getD k default) (l.getD k default)):=her
   have hel:es'.length<=100000:=by
    have h1:=HOE.out.len
    have h2:=List.length_filter_le P (l.take k)
    rw[List.length_take]at h2
    omega
   obtain⟨xx,hxx⟩:=nM (l.getD k default)
   rw[hxx]at KK KF HF HER
   obtain⟨⟨ek,et,es1,⟨r1,r2,r3⟩,em⟩,hz⟩:∃z,es.getD k default=z:=⟨_,rfl⟩
   rw[hz]at q1 q2 q3 q4 q5 KK KF HER
   unfold EM.val EM.to hdV at KF
   unfold EM.val hdV at KK
   unfold hdV at q4
   dsimp only at q1 q2 q3 q4 q5 KK KF
   clear hz hxx her hrl
   have hsz:=hnx.size
   obtain⟨rl,hrl⟩:=nM xx.row.length
   have HRL:Hid (xx.row.length=rl):=hrl
   rw[hrl]at KF
   clear hrl
   cases hp:P xx with
   |false=>
    rw[hp]at KK HF
    go_wp2_with (go_at_fn fn;refine(KK.out _ (bR.alloc nR _)).mono ?_;rintro e w1 ⟨rfl,hb1⟩;have hbx:Bwz wr w1:=(bR.alloc nR _).trans (hb1.mono (by simp)))
    go_roundw
    case rel=>exact⟨k+1,es',by omega,by go_num,by rw[HF.out];simpa using HOE.out.below hbx,hnx.trans (hbx.mono hsz)⟩
    case measure=>simp[intOf];omega
   |true=>
    rw[hp]at KK HF
    obtain⟨en,hen⟩:=nM es'.length
    have HEN:Hid (es'.length=en):=hen
    rw[hen]at hel
    clear hen
    go_wp2_with (first
     |(go_at_fn fn;refine(KK.out _ (bR.alloc nR _)).mono ?_;rintro e w1 ⟨rfl,hb1⟩;have hbx:Bwz wr w1:=(bR.alloc nR _).trans (hb1.mono (by simp));have y1:w1.cell? ⟨wr.heap.size,0,none⟩=some (.string ek):=cLz hb1 (by go_simp);have y2:w1.cell? ⟨wr.heap.size,1,none⟩=some (.int .i64 et):=cLz hb1 (by go_simp);have y3:w1.cell? ⟨wr.heap.size,2,none⟩=some (.int .i64 es1):=cLz hb1 (by go_simp);have y4:w1.cell? ⟨wr.heap.size,3,none⟩=some (.slice r1 r2 r3):=cLz hb1 (by go_simp);have y5:w1.cell? ⟨wr.heap.size,4,none⟩=some (.bool em):=cLz hb1 (by go_simp))
     |(go_at_call 114;refine(KF.out _ hbx).mono ?_;rintro e w2 ⟨⟨ad2,c2,rfl,hov⟩,hb2⟩;have hb12:Bwz wr w2:=hbx.trans (hb2.mono hbx.size);have HO2:Hid (w2.ownsRow w.heap.size 63 5 u5 en (An es')):=(by have h:=own_below HOE.out.own hb12;rw[HEN.out]at h;exact h);have hs2:w.heap.size<=w2.heap.size:=Nat.le_trans hsz hb12.size)
     |(at_builtin;refine wpList_append_own _ rfl (.tmp 17) (.tmp 20) 26 rfl w.heap.size 63 i0 (.agg #[.string ⟨#[]⟩,.int .i64 0,.int .i64 0,.slice none 0 0,.bool false]) 5 64 underlying26 HI.out.1 HI.out.2.1 HI.out.2.2.1 HI.out.2.2.2 rfl (by decide) _ _ _ rfl (World.ownsRow.alloc HO2.out _) ⟨w2.heap.size,0,none⟩ 1 1 [.string ek,.int .i64 et,.int .i64 es1,.slice ad2 rl c2,.bool em] rfl rfl (Db _ _ _ _ _ _ _) (by intro u hu;simp at hu;rcases hu with rfl|rfl|rfl|rfl|rfl<;>rfl) (by unfold maxLen;omega) (by omega) (by simp;omega) ?_;intro v3 w3 hown3 hgrow3 hnil3))
    obtain⟨g3,c3,hv3⟩:∃g c,v3= .slice (some ⟨g,0,none⟩) (en+1) c:=by
     rcases hown3.2 with⟨_,h0⟩|⟨g,cap,cur,rfl,_⟩
     ·exact absurd h0 (by omega)
     ·exact⟨_,_,rfl⟩
    subst hv3
    have HST:=JM (e:=⟨ek,et,es1,(ad2,rl,c2),em⟩) (x:=xx) (g:=g3) (cap2:=c3) HOE.out hb12 ⟨HER.out.key,HER.out.time,HER.out.seq,HER.out.met,HRL.out.symm,by unfold hdV;dsimp only;exact C5 hov (by have:=hbx.size;omega)⟩ (by rw[HEN.out];exact hown3) hgrow3
    rw[HEN.out]at HST
    go_roundw
    case rel=>exact⟨k+1,_,by omega,by go_num,by rw[HF.out];simpa using HST.1,hnx.trans HST.2⟩
    case measure=>simp[intOf];omega
  ·have HT:Hid (l.take k=l):=List.take_of_length_le (by rw[HN.out];omega)
   go_wp2
   go_ret
   exact⟨⟨_,es',rfl,by have:=HOE.out;rw[HT.out]at this;exact this⟩,hnx⟩
def Ar(w:World)(b:Nat)(t:TypeId):Prop:=∃cur f,w.heap[b]? =some (.cells cur t f)
theorem AH(h:Ar w b t)(hb:w'.heap[b]? =w.heap[b]?):Ar w' b t:=by
 obtain⟨c,f,h⟩:=h
 exact⟨c,f,hb.trans h⟩
theorem AY(h:Ar w b t):b<w.heap.size:=by
 obtain⟨c,f,h⟩:=h
 exact(Array.getElem?_eq_some_iff.1 h).1
theorem Ah(h:Ar w b t)(hb:Bwz w w'):Ar w' b t:=AH h (hb.block b (AY h))
theorem tyAt_apart{b':Nat}{t':TypeId}(h:Ar w b t)(h':Ar w b' t')(ht:t≠t'):b≠b':=by
 rintro rfl
 obtain⟨c,f,h⟩:=h
 obtain⟨c',f',h'⟩:=h'
 rw[h]at h'
 injection h' with e
 injection e with _ e2 _
 exact ht e2
theorem AM(h:Ar w b t)(p:Addr)(v:Value):Ar (w.setCell p v) b t:=by
 obtain⟨c,f,h⟩:=h
 by_cases e:p.block=b
 ·subst e
  exact⟨if p.spot.isSome=true then c else c.setIfInBounds p.off v,f,by simp[World.setCell,Array.getElem?_modify,h]⟩
 ·exact⟨c,f,(heap_setCell_other w p b v (fun h=>e h.symm)).trans h⟩
theorem A8(h:w.ownsRow base e s v n xs)(hg:v.ownBlock=some g):Ar w g e:=by
 rcases h.2 with⟨rfl,_⟩|⟨b,cap,cur,rfl,_,hb,_⟩
 ·cases hg
 ·cases hg;exact⟨_,_,hb⟩
theorem OE.other{es:List EM}(h:OE w base v es l)(hs:w.heap.size<=w'.heap.size)(hb:∀g,Ar w g 63\/Ar w g 103->w'.heap[g]? =w.heap[g]?):OE w' base v es l:=
 h.same hs (fun g cur t hg ht=>by
  rcases ht with⟨_,rfl⟩|rfl
  ·exact hb g (.inl ⟨_,_,hg⟩)
  ·exact hb g (.inr ⟨_,_,hg⟩))
def apB(a b:Value):Prop:=∀g,a.ownBlock=some g->b.ownBlock≠some g
structure OB(w:World)(base:Nat)(x:BX)(b:Buf):Prop where
 low:base<=w.heap.size
 mem:OE w base (hdV x.m.1) x.m.2 b.mem
 hds:w.ownsRow base 26 1 (.slice x.ra x.rs.length x.rc) x.rs.length (x.rs.map fun p=>hdV p.1)
 rlen:x.rs.length=b.runs.length
 runs:∀i,i<b.runs.length->OE w base (hdV (x.rs.getD i default).1) (x.rs.getD i default).2 (b.runs.getD i default)
 two:((x.m::x.rs).map fun p=>hdV p.1).Pairwise apB
theorem OB.below{x:BX}{b:Buf}(h:OB w base x b)(hb:Bwz w w'):OB w' base x b:=
 ⟨Nat.le_trans h.low hb.size,h.mem.below hb,own_below h.hds hb,h.rlen,fun i hi=>(h.runs i hi).below hb,h.two⟩
def BX.more(x:BX)(g cap:Nat)(p:Part):BX:=⟨some ⟨g,0,none⟩,cap,x.m,x.rs++[p]⟩
def Buf.more(b:Buf)(l:List Ent):Buf:=⟨b.lim,b.mem,b.runs++[l]⟩
theorem XS{x:BX}{b:Buf}(h:OB w base x b)(hb1:Bwz w w1)(hp:OE w1 w.heap.size (hdV p.1) p.2 l)
 (hown2:w2.ownsRow base 26 1 (.slice (some ⟨g,0,none⟩) (x.rs.length+1) cap2) (x.rs.length+1) ((x.rs.map fun p=>hdV p.1)++[hdV p.1])) (hs:w1.heap.size<=w2.heap.size)
 (hch:∀b,Ar w1 b 63\/Ar w1 b 103->w2.heap[b]? =w1.heap[b]?):OB w2 base (x.more g cap2 p) (b.more l):=by
 have h1:=h.below hb1
 refine⟨Nat.le_trans h1.low hs,h1.mem.other hs hch,?_,?_,fun i hi=>?_,?_⟩
 ·unfold BX.more
  dsimp only
  rw[lAp,List.map_append]
  exact hown2
 ·unfold BX.more Buf.more
  dsimp only
  rw[lAp,lAp,h.rlen];rfl
 ·unfold BX.more Buf.more at *
  dsimp only at *
  rw[lAp]at hi
  by_cases hl:i<b.runs.length
  ·rw[AE (by rw[h.rlen];exact hl),AE hl]
   exact(h1.runs i hl).other hs hch
  ·have:i=b.runs.length:=by simp at hi;omega
   subst this
   rw[AL (by rw[h.rlen];exact Nat.le_refl _),AL nR,h.rlen,Nat.sub_self]
   exact(hp.other hs hch).mono h.low
 ·unfold BX.more
  dsimp only
  rw[show(x.m::(x.rs++[p]))=(x.m::x.rs)++[p]from rfl,List.map_append]
  refine List.pairwise_append.2 ⟨h.two,by simp,fun a ha c hc g hg=>?_⟩
  have hc':c=hdV p.1:=by simpa using hc
  subst hc'
  intro hg2
  have hge:=(AD hp.own hg2).1
  obtain⟨q,hq,rfl⟩:=List.mem_map.1 ha
  rcases List.mem_cons.1 hq with rfl|hq
  ·have:=(AD h.mem.own hg).2;omega
  ·obtain⟨i,hi,rfl⟩:=List.getElem_of_mem hq
   have hr:=h.runs i (by rw[<-h.rlen];exact hi)
   have e:x.rs.getD i default=x.rs[i]:=by rw[gDe,gEe hi];rfl
   rw[e]at hr
   have:=(AD hr.own hg).2;omega
structure KSt(W:World)(C NB base:Nat)(x:BX)(b:Buf):Prop where
 ob:OB W base x b
 c0:W.cell? ⟨NB,0,none⟩=some (.int .i64 b.lim)
 c1:W.cell? ⟨NB,1,none⟩=some (hdV x.m.1)
 c2:W.cell? ⟨NB,2,none⟩=some (.slice x.ra x.rs.length x.rc)
 f2:W.frozen? ⟨NB,2,none⟩=false
 ty:Ar W NB 29
 r0:W.cell? ⟨C,0,none⟩=some (.int .i64 0)
 r1:W.cell? ⟨C,1,none⟩=some (.slice none 0 0)
 r2:W.cell? ⟨C,2,none⟩=some (.slice none 0 0)
 g0:W.frozen? ⟨C,0,none⟩=false
 g1:W.frozen? ⟨C,1,none⟩=false
 g2:W.frozen? ⟨C,2,none⟩=false
 rt:Ar W C 29
 ne:C<NB
 up:base<=C
theorem KSt.below{W':World}{x:BX}{b:Buf}(h:KSt W C NB base x b)(hb:Bwz W W'):KSt W' C NB base x b:=by
 have l1:=AY h.ty
 have l2:=AY h.rt
 exact⟨h.ob.below hb,cLz hb h.c0,cLz hb h.c1,cLz hb h.c2,(hb.frozen (p:=⟨NB,2,none⟩) l1).trans h.f2,Ah h.ty hb,cLz hb h.r0,cLz hb h.r1,cLz hb h.r2,(hb.frozen (p:=⟨C,0,none⟩) l2).trans h.g0,(hb.frozen (p:=⟨C,1,none⟩) l2).trans h.g1,(hb.frozen (p:=⟨C,2,none⟩) l2).trans h.g2,Ah h.rt hb,h.ne,h.up⟩
theorem AC{p:Addr}(h:w'.heap[p.block]? =w.heap[p.block]?):w'.frozen? p=w.frozen? p:=by
 unfold World.frozen?
 rw[h]
theorem Wu{W1 W2:World}{x:BX}{b:Buf}(h:KSt W C NB base x b)(hb1:Bwz W W1)(hp:OE W1 W.heap.size (hdV p.1) p.2 l)
 (hown2:W2.ownsRow base 26 1 (.slice (some ⟨g,0,none⟩) (x.rs.length+1) cap2) (x.rs.length+1) ((x.rs.map fun p=>hdV p.1)++[hdV p.1])) (hg2:(W1.alloc o).grownBy W2 (Value.slice x.ra x.rs.length x.rc).ownBlock):
 KSt (W2.setCell ⟨NB,2,none⟩ (.slice (some ⟨g,0,none⟩) (x.rs.length+1) cap2)) C NB base (x.more g cap2 p) (b.more l)/\Below base W (W2.setCell ⟨NB,2,none⟩ (.slice (some ⟨g,0,none⟩) (x.rs.length+1) cap2)):=by
 have h1:=h.below hb1
 have hs2:W1.heap.size<=W2.heap.size:=by have:=hg2.size;simp at this;omega
 have hbl:∀c t,Ar W1 c t->t≠26->W2.heap[c]? =W1.heap[c]? :=fun c t hc ht=>by
  have hlt:=AY hc
  rw[hg2.block c (by simp;omega) (fun e=>?_)]
  ·exact Below.heap_alloc _ _ c hlt
  ·exact tyAt_apart hc (A8 h1.ob.hds e.symm) ht rfl
 have eN:=hbl NB _ h1.ty (by decide)
 have eC:=hbl C _ h1.rt (by decide)
 have c0:=(cOb (a:=⟨NB,0,none⟩) eN).trans h1.c0
 have c1:=(cOb (a:=⟨NB,1,none⟩) eN).trans h1.c1
 have c2:=(cOb (a:=⟨NB,2,none⟩) eN).trans h1.c2
 have r0:=(cOb (a:=⟨C,0,none⟩) eC).trans h1.r0
 have r1:=(cOb (a:=⟨C,1,none⟩) eC).trans h1.r1
 have r2:=(cOb (a:=⟨C,2,none⟩) eC).trans h1.r2
 have hne:=h.ne
 have eO:∀c v,c≠NB->(W2.setCell ⟨NB,2,none⟩ v).heap[c]? =W2.heap[c]? :=fun c v hc=>heap_setCell_other _ _ _ _ hc
 refine⟨⟨XS h.ob hb1 hp (A0 hown2 (fun k hk=>eO k _ ?_)) (by simp[World.setCell];omega) (fun c hc=>?_),?_,?_,?_,?_,?_,?_,?_,?_,?_,?_,?_,?_,h.ne,h.up⟩,?_⟩
 ·exact fun e=>tyAt_apart (A8 hown2 hk) (AH h1.ty eN) (by decide) e
 ·rcases hc with hc|hc
  ·exact(eO c _ (fun e=>tyAt_apart hc h1.ty (by decide) e)).trans (hbl c _ hc (by decide))
  ·exact(eO c _ (fun e=>tyAt_apart hc h1.ty (by decide) e)).trans (hbl c _ hc (by decide))
 ·show _=some (Value.int .i64 b.lim)
  go_simp
 ·show _=some (hdV x.m.1)
  go_simp
 ·unfold BX.more
  dsimp only
  rw[lAp]
  exact World.cell?_setCell_same _ _ _ c2
 ·have:=(AC (p:=⟨NB,2,none⟩) eN).trans h1.f2
  go_simp
 ·exact AM (AH h1.ty eN) _ _
 ·rw[cOb (a:=⟨C,0,none⟩) (eO C _ (by omega))];exact r0
 ·rw[cOb (a:=⟨C,1,none⟩) (eO C _ (by omega))];exact r1
 ·rw[cOb (a:=⟨C,2,none⟩) (eO C _ (by omega))];exact r2
 ·rw[AC (p:=⟨C,0,none⟩) (eO C _ (by omega)),AC (p:=⟨C,0,none⟩) eC];exact h1.g0
 ·rw[AC (p:=⟨C,1,none⟩) (eO C _ (by omega)),AC (p:=⟨C,1,none⟩) eC];exact h1.g1
 ·rw[AC (p:=⟨C,2,none⟩) (eO C _ (by omega)),AC (p:=⟨C,2,none⟩) eC];exact h1.g2
 ·exact AH (AH h1.rt eC) (eO C _ (by omega))
 ·have hlow:=h.ob.low
  have hup:=h.up
  have hb2:Below base W W2:=((hb1.mono hlow).alloc h1.ob.low o).grown hg2 (by simp;have:=h1.ob.low;omega) (fun c hc=>(AD h1.ob.hds hc).1)
  exact hb2.setCell (by dsimp only;omega) _
end bf
end Go.Proofs.YtdohnkkbkfhphaaGreat
