import Derived.Test.YtfkihidbnfkbaaaGreatDoorPv29
import Derived.Test.YtfkihidbnfkbaaaGreatDoorPv30
set_option linter.all false
set_option maxHeartbeats 8000000
set_option maxRecDepth 100000
open Go.ChangeShapes Go.WideShapes Go.ChangeAt Go.RowKit List
open Inhabited renaming default->ϰ
namespace Go.Proofs.YtfkihidbnfkbaaaGreatDoor
open Go.Proofs.Tryz
namespace jn
open vl bf
attribute [local go_sem] Oper.semAt_some
theorem T7{w0 w0' w:Ϡ}{s:Jn}{y:JX}{t:Value}{L:List CO}(h:stepAt w0 w s y t L)(a:w0'.heap.size<=w0.heap.size):stepAt w0' w s y t L:=⟨CX h.l a,CX h.r a,Q8 h.cg a⟩
end jn
namespace jn
open vl bf
variable {w w' : Ϡ} {s : Jn} {t : TypeId} {base : Nat} {v : Value} {L : List CO}
instance:Inhabited Ev:=⟨⟨0,0,0,[]⟩⟩
abbrev RX:=Option Addr×Nat
def Lf(w:World)(a:Option Addr)(l:List Ev)(xs:List RX):Prop:=
 ∀i,i<l.length->∃b off,a=some ⟨b,off,none⟩/\Δ w b (off+i * 4) (vI (l.getD i ϰ).kind)/\Δ w b (off+i * 4+1) (vI (l.getD i ϰ).side)/\
  Δ w b (off+i * 4+1+1) (vI (l.getD i ϰ).time)/\Δ w b (off+i * 4+1+1+1) (vS (xs.getD i (none,0)).1 (l.getD i ϰ).row.length (xs.getD i (none,0)).2)/\evAt w (l.getD i ϰ) (xs.getD i (none,0)).1
theorem T8{a:ϡ}{l:List Ev}{f:List RX}(h:Lf w a l f)(d:ϣ w w'):Lf w' a l f:=λi j=>by
 obtain⟨b,k,g,m,n,o,q,r⟩:=h i j;exact⟨b,k,g,cLz d m,cLz d n,cLz d o,cLz d q,r.below d⟩
theorem AdZ{p:pl.Pln}(h:goodJ p s):wfJ s:=by
 have a:=h.ok.L.all;have b:=h.ok.R.all;have d:=h.ok.sq;exact⟨⟨λy hy=>h.wf y (mem_append.2 (.inl hy)),Ϥ⟩,⟨λy hy=>h.wf y (mem_append.2 (.inr hy)),Ϥ⟩,by constructor<;>omega⟩
theorem Og{α β:Type}(f:α->List β)(n:Nat)(b:∀a,(f a).length<=n):∀l:List α,(l.flatMap f).length<=n * l.length
 |[]=>by simp
 |a::l=>by
  have:=Og f n b l;have:=b a;rw[flatMap_cons,lAp,length_cons,Nat.mul_succ];omega
theorem Aea(p:pl.Pln)(s:Jn)(v:Ev)(a:okB s.L)(g:okB s.R):(Ps p s v).length<=10000:=by
 have h:∀fr b,(DX p s v fr b).length<=4096:=λfr b=>TT (by unfold Av;split;exact g;exact a);unfold Ps;split
 ·split
  ·unfold RL;split
   ·simp
   ·split<;>simp
  ·unfold RO;refine Nat.le_trans (Og _ 2 (λe=>?_) _) ?_
   ·split
    ·simp
    ·split<;>simp
   ·have d:(Ik p s v).length<=4096:=by
     unfold Ik;refine Nat.le_trans (length_filter_le ..) ?_;split
     ·unfold FN;rw[(Dh _).length_eq];exact Nat.le_trans (length_filter_le ..) a.all
     ·exact Nat.zero_le _
    omega
 ·rw[TL];unfold pairT;rw[lAp];have d:=Og (toldOf p v) 2 (λe=>by unfold toldOf;split<;>simp) (DX p s v (GN p v) (toJ p v));have i:=h (GN p v) (toJ p v);have f:∀(c:Prop) [Decidable c] (z:ch.Chg),(if c then [z]else []).length<=1:=λc _ z=>by split<;>simp
  have j:=f ((DX p s v (GN p v) (toJ p v)).isEmpty=true/\Ek p.mode v.side=true) ⟨1,Ch p v.side v.row⟩;omega
theorem T9(p:pl.Pln)(s:Jn)(v:Ev):(stepJ p s v).2.2.length<=10000:=by
 unfold stepJ;split
 ·simp
 ·rename_i h;split
  ·simp
  ·split
   ·simp
   ·have a:=Ee (p:=p) (s:=s) (by simpa using h);rw[Xo];exact Aea p s v a.2.L a.2.R
def Oh(t:TypeId)(w w':World):Prop:=Below 0 w w'/\∀g e,Ah w g e->e≠t->w'.heap[g]? =w.heap[g]?
theorem LW{b w2:Ϡ}{s n:Nat}{l:List Value}(h:b.ownsRow base t s v n l)(a:b.grownBy w2 v.ownBlock):Oh t b w2:=⟨⟨a.os,a.tape,a.output,a.size,λk j=>absurd j (Nat.not_lt_zero k)⟩,λg e d i=>a.block g (AH d) (λf=>tyAt_apart d (A9 h f.symm) i rfl)⟩
def jAt(s0:Jn)(y0:JX)(w wr:World)(s:Jn)(y:JX):Prop:=ϣ w wr/\(((s=s0/\y=y0)/\joinAt w s y)\/(OB wr w.heap.size y.l s.L/\OB wr w.heap.size y.r s.R))
theorem jAt.at{s0:Jn}{y0:JX}{wr:Ϡ}{y:JX}(h:jAt s0 y0 w wr s y):joinAt wr s y:=by
 rcases h.2 with a|a
 ·exact a.2.below h.1
 ·exact⟨a.1.at,a.2.at⟩
structure TG(w:World)(base:Nat)(v:Value)(L:List CO):Prop where
 own:w.ownsRow base 217 2 v L.length (ch.BF (L.map CO.pair))
 rows:∀c∈L,∃bs,AM w bs c.rv c.row
theorem TG.below(h:TG w base v L)(a:ϣ w w'):TG w' base v L:=⟨own_below h.own a,λc b=>by
 obtain⟨bs,k⟩:=h.rows c b;exact⟨bs,own_below k a⟩⟩
theorem TG.keep(h:TG w base v L)(b:Oh t w w')(h1:t≠217)(d:t≠119):TG w' base v L:=⟨A1 h.own (λg a=>b.2 g _ (A9 h.own a) h1.symm),λc f=>by
 obtain⟨bs,k⟩:=h.rows c f;exact⟨bs,A1 k (λg a=>b.2 g _ (A9 k a) d.symm)⟩⟩
theorem Afs(w:Ϡ)(base:Nat):TG w base (vS none 0 0) []:=⟨World.ownsRow_nil _ _ _ _,λc a=>absurd a not_mem_nil⟩
theorem CG.rows(h:CG w base v L):∀c∈L,∃bs,AM w bs c.rv c.row:=λc a=>⟨base,bt.Est.own h (Dx c.rv c.row) (mem_cons_of_mem _ (mem_map.2 ⟨c,a,rfl⟩))⟩
theorem TG.app{v':Value}{M:List CO}(h:TG w base v L)(d:∀c∈M,∃bs,AM w bs c.rv c.row)(i:Oh 217 w w')(j:w'.ownsRow base 217 2 v' (L.length+M.length) (ch.BF (L.map CO.pair)++ch.BF (M.map CO.pair))):TG w' base v' (L++M):=by
 refine⟨by rw[lAp,map_append,ch.Pz];exact j,λc a=>?_⟩;have b:(∃bs,AM w bs c.rv c.row)->∃bs,AM w' bs c.rv c.row:=λ⟨bs,k⟩=>⟨bs,A1 k (λg f=>i.2 g _ (A9 k f) ϥ)⟩;rcases mem_append.1 a with a|a
 ·exact b (h.rows c a)
 ·exact b (d c a)
end jn
namespace cd
open vl bf
variable {w w' w0 w2 : Ϡ} {B base : Nat} {bs : List UInt8} {v : Value}
def u64(n:Int):Nat:=(n % 18446744073709551616).toNat
def As(n:Int):List UInt8:=be8 (u64 n) 8
theorem Am(n:Int):(As n).length=8:=Eb _ _
def txt(s:List UInt8):List UInt8:=As s.length++s
def keepW(w w':World):Prop:=Below 0 w w'/\∀g e,Ah w g e->e≠5->e≠64->w'.heap[g]? =w.heap[g]?
theorem keepW.refl(w:Ϡ):keepW w w:=⟨bR,λ_ _ _ _ _=>rfl⟩
theorem keepW.trans{a b c:Ϡ}(h:keepW a b)(k:keepW b c):keepW a c:=⟨h.1.trans k.1,λg e i d f=>(k.2 g e (Aq i (h.2 g e i d f)) d f).trans (h.2 g e i d f)⟩
theorem keepW.of(h:ϣ w w'):keepW w w':=⟨h.mono (Nat.zero_le _),λg e a _ _=>h.block g (AH a)⟩
structure WR(w:World)(base B:Nat)(bs:List UInt8):Prop where
 cell:∃v,Δ w B 0 v/\ownB w base v bs
 frz:Ξ w B 0
 tb:Ah w B 64
 low:base<=B
theorem WR.same(h:WR w base B bs)(h1:w'.heap[B]? =w.heap[B]?)(d:∀g,Ah w g 5->w'.heap[g]? =w.heap[g]?):WR w' base B bs:=by
 obtain⟨v,f,b⟩:=h.cell;exact⟨⟨v,(cOb (w:=w) (a:=⟨B,0,none⟩) h1).trans f,A1 b (λg i=>d g (A9 b i))⟩,(World.frozen?_of_block (w:=w) (a:=⟨B,0,none⟩) h1).trans h.frz,Aq h.tb h1,h.low⟩
theorem WR.below(h:WR w base B bs)(a:ϣ w w'):WR w' base B bs:=h.same (a.block B (AH h.tb)) (λg b=>a.block g (AH b))
theorem WR.lt(h:WR w base B bs):B<w.heap.size:=AH h.tb
theorem YM{M:Array Oper}{o:Oper}{a:Act}{K:Act->World->Prop}{Q:Exit->Act->World->Prop}{E:Prop}(q:o.guard=none)(s x:Operand)
 (C:o.op= .call {callee:=.builtin .append,args:=#[s,x],argTypes:=#[51,51]})
 (base:Nat) (v:Value) (l:List UInt8) (b:UInt8) (X:Value) (n:X=Ef b) (i:Nat) (z:l.length=i) (d:Ϡ) (A:ownB d base v l) (T:i<=100000000000000) (S:base<=d.heap.size)
 (D:a.eval s=v) (F:a.eval x=vS (ϋ d) 1 1)
 (h:∀g f w2,ownB w2 base (vS (ϋ g) (i+1) f) (l++[b])->(d.alloc (.cells #[X] 5)).grownBy w2 v.ownBlock->K (a.put o.dst (vS (ϋ g) (i+1) f)) w2):
 if Region.wanted o (yielded M a.tmps)=true then Oper.wp Tryz.prog o a (ϊ d #[X] 5) K Q else E:=by
 subst n;subst z;obtain⟨J,r,G,H,I⟩:=info_parts Tryz.info5;refine step_append_lies _ q s x 51 C base 5 J (.int .u8 0) 1 1 underlying51 r G H I rfl ϥ v l.length (l.map Ef) D
  (World.ownsRow.alloc A _) ⟨d,0,none⟩ 1 1 [Ef b] F rfl (cell_one_new _ _ _) (by intro u j;simp at j;subst j;rfl) ϥ Ϯ Ϥ ϩ (d.heap.size+1) Ϧ ?_
 intro g f w2 k m O R;refine h g f w2 ?_ m;unfold ownB;rw[lAp,map_append];exact k
theorem CL{b:Option Nat}(a:ϣ w w0)(d:w0.grownBy w2 b)(f:B<w.heap.size)(g:b≠some B):w2.heap[B]? =w.heap[B]? :=by
 rw[d.block B (by have:=a.size;omega) (λe=>g e.symm)];exact a.block B f
theorem Ab7{bs':List UInt8}{v':Value}(h:WR w base B bs)(l:ownB w base v bs)(i:ϣ w w0)(j:w0.grownBy w2 v.ownBlock)(o:ownB w2 base v' bs')(m:base<=w.heap.size):
 WR (ό w2 B 0 v') base B bs'/\Below base w (ό w2 B 0 v')/\keepW w (ό w2 B 0 v'):=by
 have x:∀g e,Ah w g e->e≠5->g≠B->(w2.setCell ⟨B,0,none⟩ v').heap[g]? =w.heap[g]? :=λg e d C F=>by
  rw[heap_setCell_other _ _ _ _ F];exact CL i j (AH d) (λb=>tyAt_apart d (A9 l b) C rfl)
 have f:w2.heap[B]? =w.heap[B]? :=CL i j h.lt (λb=>tyAt_apart h.tb (A9 l b) ϥ rfl);obtain⟨H,z,_⟩:=h.cell;have A:Δ w2 B 0 H:=(cOb (w:=w) (a:=⟨B,0,none⟩) f).trans z;have D:Ξ w2 B 0:=(World.frozen?_of_block (w:=w) (a:=⟨B,0,none⟩) f).trans h.frz;have u:v'.ownBlock≠some B:=λb=>tyAt_apart (Aq h.tb f) (A9 o b) ϥ rfl;have n:Below base w (ό w2 B 0 v'):=(((i.mono m).grown j (Nat.le_trans m i.size) (λk G=>(World.ownsRow.lt l k G).1))).setCell h.low v';exact⟨⟨⟨v',World.cell?_setCell_same' _ _ _ (by rw[A];rfl),A1 o (λg E=>heap_setCell_other _ _ _ _ (λb=>u ((congrArg some (show B=g from b.symm)).symm▸E)))⟩,by rw[World.frozen?_setCell];exact D,Ao (Aq h.tb f) _ _,h.low⟩,n,n.mono (Nat.zero_le _),λg e d q r=>x g e d q (tyAt_apart d h.tb r)⟩
theorem Vo(u j:Nat)(h:j<8):(.int .u8 (IntKind.u8.wrap ((u:Int)/2 ^ (56 - 8 * (j:Int)).toNat)):Value)=Ef (Dq u j):=by
 rw[<-LO u j,show(56 - 8 * (j:Int)).toNat=56 - 8 * j by omega]
 congr 1
theorem Rl(n:Int):u64 n<=18446744073709551615:=by unfold u64;omega
theorem TA(n:Int):IntKind.u64.wrap n=((u64 n:Nat):Int):=by rw[Tp];unfold u64;omega
theorem Cg(base B:Nat)(bs:List UInt8)(n:Int)(w:Ϡ)(J:base<=w.heap.size)(h:WR w base B bs)(A:bs.length<=10000000000000):
 χ 60 #[ω B,vI n] w λe w'=>e= .returned (.tuple #[])/\WR w' base B (bs++As n)/\Below base w w'/\keepW w w':=by
 have U:=TA n;obtain⟨u,m⟩:∃u,u64 n=u:=⟨_,rfl⟩;have ac:u<=18446744073709551615:=by rw[<-m];exact Rl n
 unfold As;rw[m]at U⊢;have F:=hV0 A;clear m A;go_enter func60,ntmps60;go_wp2
 go_loopw [4] (λi wr=> ∃j:Nat,j<=8/\i=vI (56 - 8 * (j:Int))/\WR wr base B (bs++be8 u j)/\Below base w wr/\keepW w wr) (λi _=>(intOf i+8).toNat)
 case atStart=>exact⟨0,Ϥ,rfl,by simpa[be8]using h,bR,keepW.refl _⟩
 case round=>
  obtain⟨j,hj,rfl,D,l,z⟩:=hrel;have R:=Eb u j;have r:base<=wr.heap.size:=Nat.le_trans J l.size;have b:Ϣ (WR wr base B (bs++be8 u j)/\Below base w wr/\keepW w wr):=⟨D,l,z⟩;clear h D l z;by_cases S:j<8
  ·obtain⟨v,O,C⟩:=b.o.1.cell;have Q:=b.o.1.frz;have k:Ϣ (∀W,ϣ wr W->ownB W base v (bs++be8 u j)):=λW I=>JJ C I;have M:=b.o.1.lt;clear C;have E:=hV0 O;have o:Ϣ (v.ownBlock≠some B/\Ξ wr B 0):=⟨λG=>tyAt_apart b.o.1.tb (A9 (k.o wr bR) G) ϥ rfl,Q⟩;go_upto_region 3 with fail
   go_region_law (refine YM (by rfl) (.tmp 13) (.tmp 19) (by rfl) base v (bs++be8 u j) (Dq u j) _ (Vo u j S) (bs.length+j) (by rw[lAp,R]) wr.drew (k.o _ bR.drew) (by have:=F.o;omega) r (by rfl) (by rfl) ?_;intro f d w2 T x;have q:=CL (bR.drew.alloc Ϧ _) x M o.o.1;have aa:Δ w2 B 0 v:=(cOb (w:=wr) (a:=⟨B,0,none⟩) q).trans E.o;have ab:Ξ w2 B 0:=(World.frozen?_of_block (w:=wr) (a:=⟨B,0,none⟩) q).trans o.o.2)
   all_goals
    obtain⟨V,X,Y⟩:=Ab7 b.o.1 (k.o wr bR) (bR.drew.alloc Ϧ _) x T r;have g:Ϣ (WR (ό w2 B 0 (vS (ϋ f) (bs.length+j+1) d)) base B (bs++be8 u j++[Dq u j])/\Below base w (ό w2 B 0 (vS (ϋ f) (bs.length+j+1) d))/\keepW w (ό w2 B 0 (vS (ϋ f) (bs.length+j+1) d))):=⟨V,b.o.2.1.trans X,b.o.2.2.trans Y⟩;generalize w2.setCell ⟨B,0,none⟩ (vS (ϋ f) (bs.length+j+1) d)=Z at g⊢;go_wp2;go_roundw;exact⟨j+1,Ϥ,by go_num,by rw[NH,<-append_assoc];exact g.o.1,g.o.2⟩;simp[intOf];omega
  ·have H:j=8:=Ϥ;subst H;go_wp2
   go_end0
   exact⟨rfl,b.o⟩
theorem Vp:Tryz.prog.underlying 9=some .string:=ϧ
theorem Lg{e:TypeId}{s:Nat}{n:Nat}{f:List Value}(h:w.ownsRow base e s v n f):∃b a,v=vS b n a:=by
 rcases h.2 with⟨rfl,d⟩|⟨g,a,i,rfl,_⟩
 ·exact⟨none,0,by rw[d]⟩
 ·exact⟨_,_,rfl⟩
theorem Aeb(base B:Nat)(bs:List UInt8)(s:ByteArray)(w:Ϡ)(j:base<=w.heap.size)(h:WR w base B bs)(O:bs.length<=10000000000000)(Q:s.size<=10000000000000):
 χ 185 #[ω B,.string s] w λe w'=>e= .returned (.tuple #[])/\WR w' base B (bs++s.data.toList)/\Below base w w'/\keepW w w':=by
 obtain⟨C,l,x,z,A⟩:=info_parts Tryz.info5;have G:=hV0 l;obtain⟨v,r,b⟩:=h.cell;have g:=hV0 h;have f:=hV0 b;have n:Ϣ (v.ownBlock≠some B):=λo=>tyAt_apart h.tb (A9 b o) ϥ rfl;have u:=h.frz;clear h b;go_enter func185,ntmps185;have q:=g.o.lt;have d:Ϣ (Ξ w B 0/\Δ w B 0 v):=⟨u,r⟩;go_wp2_with (at_builtin;refine Lib.wpList_append_own_string _ rfl (.tmp 8) (.tmp 9) 51 9 rfl base 5 C underlying51 Vp l x z A v bs.length (bs.map Ef) rfl f.o s rfl Ϯ Ϥ j ?_;intro R w2 m k _;obtain⟨H,I,rfl⟩:=Lg m;have i:=CL bR k q n.o;have J:Δ w2 B 0 v:=(cOb (w:=w) (a:=⟨B,0,none⟩) i).trans d.o.2;have M:Ξ w2 B 0:=(World.frozen?_of_block (w:=w) (a:=⟨B,0,none⟩) i).trans d.o.1);obtain⟨D,E,F⟩:=Ab7 (bs':=bs++s.data.toList) g.o f.o bR k (by
  unfold ownB;rw[lAp,A2,map_append];exact m) j
 go_end0
 exact⟨rfl,D,E,F⟩
def WO(base B:Nat)(w:World)(bs:List UInt8)(e:Ending)(w':World):Prop:=e= .returned (.tuple #[])/\WR w' base B bs/\Below base w w'/\keepW w w'
theorem GH(s:List UInt8):(txt s).length=8+s.length:=by unfold txt;rw[lAp,Am]
theorem TC(base B:Nat)(bs:List UInt8)(s:ByteArray)(w:Ϡ)(d:base<=w.heap.size)(h:WR w base B bs)(q:bs.length+s.size<=9999900000000):
 χ 113 #[ω B,.string s] w (WO base B w (bs++txt s.data.toList)):=by
 have f:Ϣ (CT 60 #[ω B,vI s.size] w (WO base B w (bs++As s.size))):=Cg base B bs s.size w d h Ϥ;have g:Ϣ (∀a,Below base w a->WR a base B (bs++As s.size)->CT 185 #[ω B,.string s] a (WO base B a (bs++As s.size++s.data.toList))):=λa b i=>Aeb base B _ s a (Nat.le_trans d b.size) i (by rw[lAp,Am];omega) Ϥ;have o:=h.lt;clear h;unfold txt;rw[A2];go_enter func113,ntmps113;go_wp2_with fail;refine f.o.mono ?_;rintro e a ⟨rfl,m,b,k⟩;go_wp2_with fail;refine(g.o a b m).mono ?_;rintro e w2 ⟨rfl,n,j,l⟩;go_wp2
 go_end0
 exact⟨rfl,by rw[<-append_assoc];exact n,b.trans j,k.trans l⟩
def Bz(r:List Cel):List UInt8:=txt (encR r)
theorem Hx(base B:Nat)(bs:List UInt8)(a:ϡ)(cap:Nat)(r:List Cel)(w:Ϡ)(i:base<=w.heap.size)(h:WR w base B bs)(A:bs.length<=9999000000000)(k:vl.rowAt w a r)(l:Bq r)(C:r.length<=8)(f:Au r=0):
 χ 59 #[ω B,vS a r.length cap] w (WO base B w (bs++Bz r)):=by
 have g:Ϣ (CT 112 #[vS a r.length cap] w (ψ w (.tuple #[.string ⟨(encR r).toArray⟩,Ϗ]))):=by
  have:=Jj a cap r w k l Ϥ;unfold FR at this;rw[if_pos f,f]at this;exact this
 have z:(encR r).length<=1048:=by
  have:=D6 r (I9 (by have:=f;unfold Au at this;rw[if_neg Ϥ]at this;exact this));omega
 have m:Ϣ (∀b,ϣ w b->CT 113 #[ω B,.string ⟨(encR r).toArray⟩] b (WO base B b (bs++Bz r))):=λb d=>TC base B bs ⟨(encR r).toArray⟩ b (Nat.le_trans i d.size) (h.below d) (by show bs.length+(encR r).toArray.size<=_;rw[size_toArray];omega);have x:=h.lt;obtain⟨n,j⟩:=nM r.length;rw[j]at g⊢;clear h k l j;go_enter func59,ntmps59;go_wp2_with fail;refine g.o.mono ?_;rintro e b ⟨rfl,d⟩;go_wp2_with fail;refine(m.o b d).mono ?_;rintro e w2 ⟨rfl,u,o,q⟩;go_wp2
 go_end0
 exact⟨rfl,u,(d.mono i).trans o,(keepW.of d).trans q⟩
def CC(b:Bool):List UInt8:=As (if b then 1 else 0)
theorem Ab8(base B:Nat)(bs:List UInt8)(is:Bool)(w:Ϡ)(b:base<=w.heap.size)(h:WR w base B bs)(g:bs.length<=10000000000000):
 χ 243 #[ω B,.bool is] w (WO base B w (bs++CC is)):=by
 have a:=hIz (λn=>Cg base B bs n w b h Ϥ);clear h g
 cases is
 all_goals
  go_enter func243,ntmps243;go_wp2_with fail;refine(a.o _).mono ?_;rintro e j ⟨rfl,i,d,f⟩;go_wp2
  go_end0
  exact⟨rfl,i,d,f⟩
end cd
namespace jn
open Go
variable {P : Program} {w : Ϡ}
theorem M8(base:Nat)(t f e:TypeId)(i:TypeInfo)(size:Nat)(ht:P.underlying t=some (.slice e))(a:P.info? e=some i)
 (v:Value) (n:Nat) (h:List Value) (d:w.ownsRow base e size v n h) (ad:ϡ) (c:Nat):
 (Builtin.append_ #[t,t] f #[v,vS ad 0 c]).run P w= .ok v w:=by
 rcases d.2 with⟨rfl,rfl⟩|⟨g,j,k,rfl,_,_,b,_⟩<;>cases ad
 ·simp[Builtin.append_,run_underlying ht,sizeOf,typeInfo,a,Builtin.lenOf,Builtin.firstCells]
 ·simp[Builtin.append_,run_underlying ht,sizeOf,typeInfo,a,Builtin.lenOf,Builtin.firstCells,loadCells,loadCellsFrom]
 ·simp[Builtin.append_,run_underlying ht,sizeOf,typeInfo,a,Builtin.lenOf,Builtin.firstCells,b,storeCells]
 ·simp[Builtin.append_,run_underlying ht,sizeOf,typeInfo,a,Builtin.lenOf,Builtin.firstCells,b,storeCells,loadCells,loadCellsFrom]
theorem JO{b:Array Oper}{rest:List Oper}{o:Oper}{a:Act}{Q:Exit->Act->World->Prop}(g:o.guard=none)(s x:Operand)(t:TypeId)
 (k:o.op= .call {callee:=.builtin .append,args:=#[s,x],argTypes:=#[t,t]})
 (base:Nat) (e:TypeId) (i:TypeInfo) (size:Nat) (ht:P.underlying t=some (.slice e)) (j:P.info? e=some i)
 (v:Value) (n:Nat) (d:List Value) (q:a.eval s=v) (l:w.ownsRow base e size v n d) (ad:ϡ) (c:Nat) (r:a.eval x=vS ad 0 c)
 (h:wpList P b Q rest (a.put o.dst v) w):wpList P b Q (o::rest) a w:=by
 refine wpList_plain g λK f=>?_;have m:=M8 (P:=P) (w:=w) base t o.type e i size ht j v n d l ad c;unfold Oper.wp;simp[execOp,k,resolve,invoke,builtin,q,r,m,Result.andThen];exact f _ _ h
end jn
namespace jn
open vl bf
variable {w w' : Ϡ}
theorem YN{b:Nat}{s:Jn}{y:JX}(h:BZ w b s y)(f:w'.heap[b]? =w.heap[b]?):BZ w' b s y:=by
 have d:∀{i:Nat} {v:Value},Δ w b i v->Δ w' b i v:=λ{i v} g=>(cOb (w:=w) (a:=⟨b,i,none⟩) f).trans g;obtain⟨u0,u1,u2,u3,u4,u5,u6,u7,u8⟩:=h;exact⟨d u0,d u1,d u2,d u3,d u4,d u5,d u6,d u7,d u8⟩
theorem TD{base:Nat}{e:TypeId}{s n:Nat}{v:Value}{g:List Value}(h:w.ownsRow base e s v n g)(a:w.grownBy w' v.ownBlock)(d:base<=w.heap.size):Below base w w':=
 ⟨a.os,a.tape,a.output,a.size,λk f=>a.block k (Nat.lt_of_lt_of_le f d) (λb=>by have:=(ch.AL h b.symm).1;omega)⟩
theorem TE{R:Array Oper}{rest:List Oper}{o:Oper}{a:Act}{Q:Exit->Act->World->Prop}(C:o.guard=none)(s x:Operand)
 (F:o.op= .call {callee:=.builtin .append,args:=#[s,x],argTypes:=#[53,53]})
 (base T:Nat) (v t:Value) (L M:List CO) (b:Ϡ) (H:a.eval s=v) (J:a.eval x=t) (d:TG b base v L) (r:CG b T t M) (hl:L.length+M.length<=1000000000) (A:base<=b.heap.size)
 (h:∀S w2,TG w2 base S (L++M)->Oh 217 b w2->Below base b w2->wpList Tryz.prog R Q rest (a.put o.dst S) w2):
 wpList Tryz.prog R Q (o::rest) a b:=by
 obtain⟨O,D,Y,Z,aa⟩:=info_parts ch.AaK;have n:=CG.own r;have G:=CG.rows r;rcases Nat.eq_zero_or_pos M.length with f|f
 ·obtain rfl:=length_eq_zero_iff.1 f;have q:∃i c,t=vS i 0 c:=by
   rcases n.2 with⟨rfl,_⟩|⟨g,l,U,rfl,_⟩
   ·exact⟨_,_,rfl⟩
   ·exact⟨_,_,rfl⟩
  obtain⟨i,c,rfl⟩:=q;refine JO C s x 53 F base 217 O 2 underlying53 D v L.length _ H d.own i c J ?_;exact h v b (by rw[append_nil];exact d) ⟨bR,λ_ _ _ _=>rfl⟩ bR
 ·obtain⟨g,l,rfl,ac,ae⟩:=World.ownsRow.form n f;have X:∀u∈ch.BF (M.map CO.pair),u.oneCell'=true:=ch.X6 (λz q=>by
   obtain⟨c,W,rfl⟩:=mem_map.1 q;obtain⟨bs,k⟩:=G c W;rcases k.2 with⟨k,_⟩|⟨g,l,U,k,_⟩<;>(show c.rv.oneCell'=true;rw[k];rfl))
  have E:(ch.BF (M.map CO.pair)).length=M.length * 2:=by rw[ch.Yp,lMp]
  refine wpList_append_lies _ C s x 53 F base 217 O (.agg #[Ϗ,ώ]) 2 32 underlying53 D Y Z aa rfl ϥ v L.length _ H d.own
   ⟨g,0,none⟩ M.length l (ch.BF (M.map CO.pair)) J E (λj u I=>?_) X f Ϯ Ϥ A b.heap.size rfl ?_
  ·rw[ch.addr_add,Nat.zero_add,n.cellAt j (by rw[<-E];exact(List.getElem?_eq_some_iff.1 I).1)];exact I
  ·intro g' ab w2 V m h4 h5;exact h _ w2 (d.app G (LW d.own m) V) (LW d.own m) (TD d.own m A)
end jn
namespace jn
open vl bf
attribute [local go_sem] Oper.semAt_some
variable {w w0 : Ϡ} {N : Nat} {t : Value} {e : Eng} {y : EX} {L : List CO} {p : pl.Pln}
structure stepEAt(w0 w':World)(e:Eng)(y:EX)(t:Value)(L:List CO):Prop where
 l:OB w' w0.heap.size y.y.l e.j.L
 r:OB w' w0.heap.size y.y.r e.j.R
 cg:CG w' w0.heap.size t L
 v:ch.VO w' w0.heap.size (vS y.va e.v.length y.vc) e.v
theorem DJ:calmT 42:=⟨ϥ,ϥ,ϥ⟩
theorem Qg{g:Nat}{T:TypeId}{t:TypeId}(a:Ah w N T)(b:Ah w g t)(h:t≠T)(o:Nat)(u:Value):(w.setCell ⟨N,o,none⟩ u).heap[g]? =w.heap[g]? :=heap_setCell_other _ _ _ _ (tyAt_apart b a h)
theorem Oi{base N:Nat}{v:Value}{L:List CO}:∀(l:List Value) (o:Nat) (w:Ϡ),CG w base v L->Ah w N 42->CG (w.setCells N o l) base v L
 |[],_,_,h,_=>h
 |u::l,o,w,h,hN=>Oi l (o+1) _ (OS h hN ϥ ϥ o u) (Ao hN _ _)
theorem Gk{base N:Nat}{v:Value}{out:List ch.Cnt}:∀(l:List Value) (o:Nat) (w:Ϡ),ch.VO w base v out->Ah w N 42->ch.VO (w.setCells N o l) base v out
 |[],_,_,h,_=>h
 |u::l,o,w,h,hN=>Gk l (o+1) _ (h.other (λg a=>a.elim (λk=>Qg hN k ϥ o u) (λk=>Qg hN k ϥ o u))) (Ao hN _ _)
theorem Ig(h:stepEAt w0 w e y t L)(a:Ah w N 42)(l:List Value)(o:Nat):stepEAt w0 (w.setCells N o l) e y t L:=⟨BI DJ _ _ _ h.l a,BI DJ _ _ _ h.r a,Oi _ _ _ h.cg a,Gk _ _ _ h.v a⟩
theorem Rn(w0:Ϡ)(h:w0.heap.size<=w.heap.size):stepEAt w0 w e0 ex0 (vS none 0 0) []:=⟨Eo (E9 h),Eo (E9 h),CG.start h,ch.VO.nil h⟩
def F4(p:pl.Pln)(e:Eng)(v:Ev)(r:Int×Eng×List ch.Chg):Prop:=DY p e=0/\(((stepJ p e.j v).1≠0/\r=((stepJ p e.j v).1,e0,[]))\/
 ((stepJ p e.j v).1=0/\ch.Bm (stepJ p e.j v).2.2=0/\ch.Gg (stepJ p e.j v).2.2/\(∀i,i<(stepJ p e.j v).2.2.length->ch.Kv (ch.Be e.v) (stepJ p e.j v).2.2 i=0)/\
   ∃out,ch.Be out=ch.atK (ch.Be e.v) (stepJ p e.j v).2.2 (stepJ p e.j v).2.2.length/\(∀c∈out,rowOk c.r)/\r=(0,⟨(stepJ p e.j v).2.1,out⟩,(stepJ p e.j v).2.2)))
theorem Lh(h:DY p e=0):Ba p e.j=0/\ch.Az e.v=0:=by
 unfold DY at h;split at h
 ·rename_i k;exact absurd h k
 ·rename_i k;split at h
  ·rename_i a;exact absurd h a
  ·rename_i a;exact⟨Decidable.not_not.1 k,Decidable.not_not.1 a⟩
theorem YO(p:pl.Pln)(x:pl.PA)(e:Eng)(y:EX)(v:Ev)(O:ϡ)(Z:Nat)(r:Int×Eng×List ch.Chg)(w:Ϡ)(hw:pl.wfPlan p)(hp:pl.planAt w p x)(hg:p.grouped=false/\p.kind=1)(h:enAt w e y)(Y:wfEn e)(hv:evAt w v O)(hr:F4 p e v r):
 χ 48 #[pl.Aj p x,enV e y,evV v O Z] w λo w'=>(∃b t L,o= .returned (.tuple #[enV r.2.1 b,t,vI r.1])/\L.map CO.chg=r.2.2/\stepEAt w w' r.2.1 b t L)/\ϣ w w':=by
 have KC:Ϣ (∀a,ϣ w a->CT 27 #[pl.Aj p x,enV e y] a (ψ a (vI 0))):=λa E=>by
  have:=OL p x e y a hw (pl.Ae hp E) hg.1 (h.below E) Y;rw[hr.1]at this;exact this
 have D:=hIz (λ(a:Ϡ) (E:ϣ w a)=>Aag p x e.j y.y v O Z a hg.2 hw (pl.Ae hp E) (h.j.below E) Y.j (hv.below E));have KF:Ϣ (∀a G J tn,ϣ w a->ch.GR a G (stepJ p e.j v).2.2->tn=(stepJ p e.j v).2.2.length->ch.Gg (stepJ p e.j v).2.2->tn<=9223372036854775807->CT 98 #[vS y.va e.v.length y.vc,vS G tn J] a λo w'=>ch.Uj a.heap.size e.v (stepJ p e.j v).2.2 o w'/\ϣ a w'):=λa G J tn E hc hn bb hl=>by
  subst hn;exact ch.Zx y.va G y.vc J e.v _ a (ch.Br h.v E) Y.v Y.n hc bb hl
 have ak:Ϣ (ch.Az e.v=0):=(Lh hr.1).2;have HG:Ϣ (p.grouped=false):=hg.1;have ad:Ϣ ((stepJ p e.j v).2.2.length<=10000):=T9 p e.j v;obtain⟨ST,am⟩:=nM (stepJ p e.j v);have H:Ϣ _:=hr.2;replace H:=H.o;rw[am]at D KF H ad;obtain⟨W,l,U⟩:=ST;dsimp only at D KF H ad;clear hg;clear hw hp h Y hv am hr;unfold pl.Aj at KC D⊢;rw[D5]at KC⊢;rw[AY]at D;unfold evV at D⊢;obtain⟨kd,ar⟩:=nM v.kind;obtain⟨sd,ax⟩:=nM v.side;obtain⟨ah,a1⟩:=nM v.time;obtain⟨rl,av⟩:=nM v.row.length;rw[ar,ax,a1,av]at D⊢;clear ar ax a1 av;go_enter func48,ntmps48;go_upto_region 1 with fail;generalize M:(World.alloc (World.alloc (World.alloc (World.alloc w _) _) _) _)=V;have ag:ϣ w V:=by rw[<-M];exact((ϯ.alloc Ϧ _).alloc ϫ _).alloc ϫ _
 have n:Ϣ (boxP V w p x):=by
  subst M;exact Af (BQ ..) ((ϯ.alloc Ϧ _).alloc ϫ _)
 have m:Ϣ (Co V (w.heap.size+1) e y):=by
  subst M;have:=DG (ϊ w (Φ p x) 32) e y 42;rw[World.size_alloc]at this;exact Bg this (ϯ.alloc Ϧ _)
 have HV:Ϣ (ϙ V (w+1+1) (vI kd) (vI sd) (vI ah) (vS O rl Z)):=by
  subst M;refine⟨?_,?_,?_,?_⟩<;>go_simp
 have d:Ϣ (Fh V (w.heap.size+1+1+1)/\Ah V (w+1+1+1) 42):=by
  subst M;have h1:=Gq (ϊ (ϊ (ϊ w (Φ p x) 32) (ξ e y) 42) #[vI kd,vI sd,vI ah,vS O rl Z] 90);have h2:=World.alloc_heap_new (ϊ (ϊ (ϊ w (Φ p x) 32) (ξ e y) 42) #[vI kd,vI sd,vI ah,vS O rl Z] 90) (.cells #[Ϗ,ώ,ώ,Ϗ,ώ,ώ,Ϗ,Ϗ,Ϗ,ώ,ώ] 42);rw[World.size_alloc,World.size_alloc,World.size_alloc]at h1 h2;exact⟨h1,_,_,h2⟩
 clear M;obtain⟨v0,v1,v2,v3,v4,v5,v6,v7,v8,v9,Q,aa,ab⟩:=n.o;obtain⟨u0,u1,u2,u3,u4,u5,u6,u7,u8,u9,u10⟩:=m.o;go_wp2_with fail;refine(KC.o _ ag).mono ?_;rintro o1 a ⟨rfl,I⟩;have g:ϣ w a:=bT ag I;replace n:Ϣ (boxP a w p x):=Af n.o I;replace m:Ϣ (Co a (w.heap.size+1) e y):=Bg m.o I;replace d:Ϣ (Fh a (w.heap.size+1+1+1)/\Ah a (w+1+1+1) 42):=⟨BC d.o.1 I,Ak d.o.2 I⟩;obtain⟨f0,f1,f2,f3⟩:=HV.o;have zz:=lk4 I f0 f1 f2 f3;clear f0 f1 f2 f3;obtain⟨f0,f1,f2,f3⟩:=zz;clear v0 v1 v2 v3 v4 v5 v6 v7 v8 v9 Q aa ab u0 u1 u2 u3 u4 u5 u6 u7 u8 u9 u10 I ag KC HV;obtain⟨v0,v1,v2,v3,v4,v5,v6,v7,v8,v9,Q,aa,ab⟩:=n.o;obtain⟨u0,u1,u2,u3,u4,u5,u6,u7,u8,u9,u10⟩:=m.o;go_wp2_with fail;refine(D.o _ g).mono ?_;rintro o2 w2 ⟨⟨b,t,L,rfl,hl,ay⟩,X⟩;have a9:=g.size;replace g:ϣ w w2:=bT g X;have HL:=hV0 hl;replace n:Ϣ (boxP w2 w p x):=Af n.o X;replace m:Ϣ (Co w2 (w.heap.size+1) e y):=Bg m.o X;replace d:Ϣ (Fh w2 (w.heap.size+1+1+1)/\Ah w2 (w+1+1+1) 42):=⟨BC d.o.1 X,Ak d.o.2 X⟩;have q:Ϣ (stepAt w w2 l b t L):=T7 ay a9;clear v0 v1 v2 v3 v4 v5 v6 v7 v8 v9 Q aa ab u0 u1 u2 u3 u4 u5 u6 u7 u8 u9 u10 f0 f1 f2 f3 hl ay D;rw[AY];have a5:Ϣ (L.length<=10000):=by show L.length<=10000;rw[<-lMp (f:=CO.chg),HL.o];exact ad.o
 go_upto_region 5 with fail;generalize af:(World.alloc w2 _)=j;have u:ϣ w2 j:=by rw[<-af];exact ϯ
 have aj:Ϣ (BZ j w2 l b):=by
  subst af;exact C7 ..
 clear af;replace g:ϣ w j:=bT g u;replace m:Ϣ (Co j (w.heap.size+1) e y):=Bg m.o u;replace n:Ϣ (boxP j w p x):=Af n.o u;replace d:Ϣ (Fh j (w.heap.size+1+1+1)/\Ah j (w+1+1+1) 42):=⟨BC d.o.1 u,Ak d.o.2 u⟩;replace q:Ϣ (stepAt w j l b t L):=⟨q.o.l.below u,q.o.r.below u,q.o.cg.below u⟩;have ht:=CG.chgs q.o.cg;by_cases h0:W=0
 rotate_left
 ·have bc:(W !=0)=true:=by simpa using h0
  obtain⟨_,rfl⟩:W≠0/\r=(W,e0,[]):=H.elim id (λk=>absurd k.1 h0);clear ht;go_upto_region 6 with fail;have T:Ϣ (stepEAt w (World.setCells j (w.heap.size+1+1+1) 0 [Ϗ,ώ,ώ,Ϗ,ώ,ώ,Ϗ,Ϗ,Ϗ,ώ,ώ]) e0 ex0 (vS none 0 0) []):=Ig (Rn w g.size) d.o.2 _ _
  try dsimp only
  have S:Ϣ ((World.setCells j (w.heap.size+1+1+1) 0 [Ϗ,ώ,ώ,Ϗ,ώ,ώ,Ϗ,Ϗ,Ϗ,ώ,ώ]).rangeAt (w.heap.size+1+1+1) 0 [Ϗ,ώ,ώ,Ϗ,ώ,ώ,Ϗ,Ϗ,Ϗ,ώ,ώ]):=Fa d.o.1 rfl;have R:Ϣ (ϣ w (World.setCells j (w.heap.size+1+1+1) 0 [Ϗ,ώ,ώ,Ϗ,ώ,ώ,Ϗ,Ϗ,Ϗ,ώ,ώ])):=below_setCells Ϥ _ 0 _ g;go_wp2_with ((with_reducible refine wpList_store_mid ?_ 42 (.tmp 6) (.tmp 34) ?_ (w.heap.size+1+1+1) 0 #[Ϗ,ώ,ώ,Ϗ,ώ,ώ,Ϗ,Ϗ,Ϗ,ώ,ώ] ?_ ?_ ?_ ?_ ?_ ?_);exact rfl;exact rfl;exact rfl;exact rfl;exact d.o.1;exact Ha;exact ϭ);generalize (World.setCells j (w.heap.size+1+1+1) 0 [Ϗ,ώ,ώ,Ϗ,ώ,ώ,Ϗ,Ϗ,Ϗ,ώ,ώ])=W' at S R T⊢;obtain⟨z0,z1,z2,z3,z4,z5,z6,z7,z8,z9,ai⟩:=OZ S.o;exact bodyPost_ret (v:=.tuple #[.agg #[Ϗ,ώ,ώ,Ϗ,ώ,ώ,Ϗ,Ϗ,Ϗ,ώ,ώ],ώ,vI W]) (by simp[results,results48,go_sem,z0,z1,z2,z3,z4,z5,z6,z7,z8,z9,ai]) rfl ⟨⟨ex0,ώ,rfl,T.o⟩,R.o⟩
 obtain⟨aq,a3,ap,out,au,aw,rfl⟩:_/\_/\_/\∃out,_/\_/\r=_:=H.elim (λk=>absurd h0 k.1) (λk=>k.2);subst h0
 try dsimp only
 obtain⟨G,az⟩:=nM (Acv t);obtain⟨J,a0⟩:=nM (Aew t);rw[az,a0,HL.o]at ht;obtain⟨rfl,ao⟩:=ht;have al:=KF.o j G J L.length g ao (by rw[<-HL.o,lMp]) a3 (by have:=a5.o;omega);have ac:Ϣ (ch.Bm U=0/\(∀i,i<U.length->ch.Kv (ch.Be e.v) U i=0)):=⟨aq,ap⟩;have ae:Ϣ (ch.Be out=ch.atK (ch.Be e.v) U U.length/\(∀c∈out,rowOk c.r)):=⟨au,aw⟩;clear az a0 ao aq ap a3 au aw KF H;obtain⟨v0,v1,v2,v3,v4,v5,v6,v7,v8,v9,Q,aa,ab⟩:=n.o;obtain⟨u0,u1,u2,u3,u4,u5,u6,u7,u8,u9,u10⟩:=m.o;rw[HG.o]at Q;go_wp2_with fail;refine al.mono ?_;rintro o4 w4 ⟨a8,F⟩;rcases a8 with⟨hx,_⟩|⟨_,hx,_⟩|⟨_,_,k,a6,_,a7,_⟩|⟨_,_,_,z,A,C,hk,a2,a4,rfl,an⟩
 ·exact absurd ak.o hx
 ·exact absurd ac.o.1 hx
 ·exact absurd (ac.o.2 k a6) a7
 obtain rfl:z=out:=ch.AaI (ch.Hd a4 a2) ae.o.2 (hk.trans ae.o.1.symm);clear v0 v1 v2 v3 v4 v5 v6 v7 v8 v9 Q aa ab u0 u1 u2 u3 u4 u5 u6 u7 u8 u9 u10 m n hk a2 a4 ae ac ak;have ba:=g.size;replace g:ϣ w w4:=bT g F;replace d:Ϣ (Fh w4 (w.heap.size+1+1+1)/\Ah w4 (w+1+1+1) 42):=⟨BC d.o.1 F,Ak d.o.2 F⟩;obtain⟨q0,q1,q2,q3,q4,q5,q6,q7,q8⟩:=(A4 aj.o F);have T:Ϣ (stepEAt w (World.setCells w4 (w.heap.size+1+1+1) 0 (ν l b.l b.r [ώ,vS A z.length C])) ⟨l,z⟩ ⟨b,A,C⟩ (vS G L.length J) L):=Ig ⟨q.o.l.below F,q.o.r.below F,q.o.cg.below F,an.mono ba⟩ d.o.2 _ _;clear an F u q aj al;have S:Ϣ ((World.setCells w4 (w.heap.size+1+1+1) 0 (ν l b.l b.r [ώ,vS A z.length C])).rangeAt (w.heap.size+1+1+1) 0 (ν l b.l b.r [ώ,vS A z.length C])):=Fa d.o.1 rfl;have R:Ϣ (ϣ w (World.setCells w4 (w.heap.size+1+1+1) 0 (ν l b.l b.r [ώ,vS A z.length C]))):=below_setCells Ϥ _ 0 _ g;go_wp2_with ((with_reducible refine wpList_store_mid ?_ 42 (.tmp 6) (.tmp 66) ?_ (w.heap.size+1+1+1) 0 (ζ l b.l b.r [ώ,vS A z.length C]) ?_ ?_ ?_ ?_ ?_ ?_);exact rfl;exact rfl;exact rfl;exact rfl;exact d.o.1;exact Ha;exact ϭ);generalize (World.setCells w4 (w.heap.size+1+1+1) 0 (ν l b.l b.r [ώ,vS A z.length C]))=W' at S R T⊢;obtain⟨z0,z1,z2,z3,z4,z5,z6,z7,z8,z9,ai⟩:=OZ S.o;exact bodyPost_ret (v:=.tuple #[.agg (ζ l b.l b.r [ώ,vS A z.length C]),vS G L.length J,Ϗ]) (by simp[results,results48,go_sem,z0,z1,z2,z3,z4,z5,z6,z7,z8,z9,ai]) rfl ⟨⟨⟨b,A,C⟩,_,rfl,L,HL.o,T.o⟩,R.o⟩
theorem Li{w0':Ϡ}(h:stepEAt w0 w e y t L)(a:w0'.heap.size<=w0.heap.size):stepEAt w0' w e y t L:=⟨CX h.l a,CX h.r a,Q8 h.cg a,h.v.mono a⟩
theorem Vq(p:pl.Pln)(x:pl.PA)(e:Eng)(y:EX)(v:Ev)(j:ϡ)(k X:Nat)(r:Int×Eng×List ch.Chg)(w:Ϡ)(hw:pl.wfPlan p)(hp:pl.planAt w p x)(hg:p.grouped=false/\p.kind=1)(aa:boxP w X p x)(h:enAt w e y)(af:wfEn e)(hv:evAt w v j)(hr:F4 p e v r):
 χ 47 #[enV e y,evV v j k,ω X] w λo w'=>(∃a t L,o= .returned (.tuple #[enV r.2.1 a,t,vI r.1])/\L.map CO.chg=r.2.2/\stepEAt w w' r.2.1 a t L)/\ϣ w w':=by
 have i:=hIz (λ(b:Ϡ) (m:ϣ w b)=>YO p x e y v j k r b hw (pl.Ae hp m) hg (h.below m) af (hv.below m) hr);have lp:=MO aa;obtain⟨C,D,H,I,J,M,O,Q,R,S,E,F,G⟩:=aa;clear hw hp h af hv hr hg;obtain⟨SE,d,SC⟩:=r;dsimp only at i⊢;unfold pl.Aj at i;rw[D5 e y]at i⊢;unfold evV at i⊢;obtain⟨q,ab⟩:=nM v.kind;obtain⟨z,ad⟩:=nM v.side;obtain⟨A,ae⟩:=nM v.time;obtain⟨u,ac⟩:=nM v.row.length;rw[ab,ad,ae,ac]at i⊢;clear ab ad ae ac;go_enter func47,ntmps47;go_upto_region 1 with fail;generalize f:(World.alloc (World.alloc (World.alloc w _) _) _)=V;have l:ϣ w V:=by rw[<-f];exact(ϯ.alloc Ϧ _).alloc ϫ _
 have g:Ϣ (Fh V (w.heap.size+1+1)/\Ah V (w+1+1) 42):=by
  subst f;have Y:=Gq (ϊ (ϊ w (ξ e y) 42) #[vI q,vI z,vI A,vS j u k] 90);have Z:=World.alloc_heap_new (ϊ (ϊ w (ξ e y) 42) #[vI q,vI z,vI A,vS j u k] 90) (.cells #[Ϗ,ώ,ώ,Ϗ,ώ,ώ,Ϗ,Ϗ,Ϗ,ώ,ώ] 42);rw[World.size_alloc,World.size_alloc]at Y Z;exact⟨Y,_,_,Z⟩
 have ag:Ϣ (Co V w.heap.size e y):=by
  subst f;exact Bg (DG ..) (ϯ.alloc Ϧ _)
 have e0:Δ V (w+1) 0 (vI q):=by subst f;go_simp
 have e1:Δ V (w+1) 1 (vI z):=by subst f;go_simp
 have e2:Δ V (w+1) 2 (vI A):=by subst f;go_simp
 have e3:Δ V (w+1) 3 (vS j u k):=by subst f;go_simp
 clear f;have zz:=Aae l C D H I J M O Q R S E F G;clear C D H I J M O Q R S E F G;obtain⟨C,D,H,I,J,M,O,Q,R,S,E,F,G⟩:=zz;obtain⟨u0,u1,u2,u3,u4,u5,u6,u7,u8,u9,u10⟩:=ag.o;go_wp2_with fail;refine(i.o _ l).mono ?_;rintro o b ⟨⟨a,t,L,rfl,hl,ai⟩,n⟩;have ah:ϣ w b:=bT l n;replace g:Ϣ (Fh b (w.heap.size+1+1)/\Ah b (w+1+1) 42):=⟨BC g.o.1 n,Ak g.o.2 n⟩;have W:Ϣ (stepEAt w (World.setCells b (w.heap.size+1+1) 0 (μ d a)) d a t L):=Ig (Li ai l.size) g.o.2 _ _;rw[D5 d a];have U:Ϣ ((World.setCells b (w.heap.size+1+1) 0 (μ d a)).rangeAt (w.heap.size+1+1) 0 (μ d a)):=Fa g.o.1 rfl;have T:Ϣ (ϣ w (World.setCells b (w.heap.size+1+1) 0 (μ d a))):=below_setCells Ϥ _ 0 _ ah;go_wp2_with ((with_reducible refine wpList_store_mid ?_ 42 (.tmp 5) (.tmp 12) ?_ (w.heap.size+1+1) 0 (ξ d a) ?_ ?_ ?_ ?_ ?_ ?_);exact rfl;exact rfl;exact rfl;exact rfl;exact g.o.1;exact Ha;exact ϭ);generalize (World.setCells b (w.heap.size+1+1) 0 (μ d a))=W' at U T W⊢;obtain⟨z0,z1,z2,z3,z4,z5,z6,z7,z8,z9,aj⟩:=OZ U.o;exact bodyPost_ret (v:=.tuple #[.agg (ξ d a),t,vI SE]) (by simp[results,results47,go_sem,z0,z1,z2,z3,z4,z5,z6,z7,z8,z9,aj]) rfl ⟨⟨a,t,L,rfl,hl,W.o⟩,T.o⟩
theorem LX(h:pl.Ag p=0):Dg p=⟨⟨p.limit,[],[]⟩,⟨p.limit,[],[]⟩,noMark,noMark,0⟩:=if_pos h
theorem Ro(h:pl.Ag p=0)(w:Ϡ):joinAt w (Dg p) jx0:=by
 rw[LX h];exact jAt.at (s0:=j0) (y0:=jx0) (w:=w) (wr:=w) ⟨bR,.inr ⟨Eo (E9 nR),Eo (E9 nR)⟩⟩
end jn
namespace jn
open vl bf
variable {p : pl.Pln} {s : Jn} {v : Ev} {K : ByteArray}
def rw2(a b:Int):List Cel:=[⟨2,a,⟨#[]⟩⟩,⟨2,b,⟨#[]⟩⟩]
theorem Ej{a b:Int}(ha: -9223372036854775808<=a/\a<=9223372036854775807)(f: -9223372036854775808<=b/\b<=9223372036854775807):Bq (rw2 a b):=by
 intro c d;simp only[rw2,mem_cons,not_mem_nil,or_false]at d;rcases d with rfl|rfl
 ·exact⟨ha,Nat.zero_le _⟩
 ·exact⟨f,Nat.zero_le _⟩
def ev1:Ev:=⟨1,1,1,rw2 7 1⟩
def ev2:Ev:=⟨1,2,2,rw2 7 2⟩
def ev3:Ev:=⟨2,1,4,[]⟩
def ev4:Ev:=⟨1,1,4,rw2 7 3⟩
def ev5:Ev:=⟨1,1,5,rw2 7 4⟩
def JP:List Ev:=[ev1,ev2,ev3,ev4,ev5]
structure begP(p:pl.Pln)(K:ByteArray):Prop where
 err:pl.Ag p=0
 kind:p.kind=1
 mode:p.mode=4
 low:p.low= -5
 high:p.high=5
 limit:p.limit=2
 l:(pl.AD p 1).length=2
 r:(pl.AD p 2).length=2
 e1:pl.Bn p 1 (rw2 7 1)=0
 e2:pl.Bn p 2 (rw2 7 2)=0
 e3:pl.Bn p 1 (rw2 7 3)=0
 e4:pl.Bn p 1 (rw2 7 4)=0
 h1:pl.hasB p 1 (rw2 7 1)=true
 h2:pl.hasB p 2 (rw2 7 2)=true
 h4:pl.hasB p 1 (rw2 7 4)=true
 k1:pl.A6 p 1 (rw2 7 1)=K
 k2:pl.A6 p 2 (rw2 7 2)=K
 k4:pl.A6 p 1 (rw2 7 4)=K
 gone:pl.PW p 2 4= -1
theorem Vr:begP pl.Gx (pl.A6 pl.Gx 1 (rw2 7 1)):=⟨pl.Dy,rfl,rfl,rfl,rfl,rfl,rfl,rfl,ϧ,ϧ,ϧ,ϧ,ϧ,ϧ,ϧ,rfl,ϧ,ϧ,ϧ⟩
theorem TF{n:Int}(h:1<=n/\n<=64):okB ⟨n,[],[]⟩:=⟨h,ϩ,by simp[Ab,partsB],by simp[partsB],by simp[partsB],Ϧ,by simp[Ab,partsB]⟩
theorem good_start(h:pl.Ag p=0):goodJ p (Dg p):=by
 have a:=(pl.Bv h).2.1.2.2;have e0:Ab ⟨p.limit,[],[]⟩=[]:=by simp[Ab,partsB]
 rw[LX h];refine⟨⟨TF a,TF a,by simp[Du],by simp[Du],Ϧ,rfl,rfl,?_,?_,?_,?_⟩,?_⟩
 ·intro y hy;rw[e0]at hy;cases hy
 ·rw[e0];exact nodup_nil
 ·intro y hy;rw[e0]at hy;cases hy
 ·intro y hy;rw[e0]at hy;cases hy
 ·intro y hy;rw[e0]at hy;cases hy
theorem F0(a:pl.Ag p=0)(h:goodJ p s)(v:Ev):stepJ p s v=if AP p s v≠0 then(AP p s v,j0,[])else if v.kind=2 then(0,Eu p (Fi s v.side v.time),[])else(0,Iv p s v):=by
 have e:Ba p s=0:=h.ok.none a;unfold stepJ;rw[if_neg (by rw[e];exact λk=>k rfl)]
def St1(K:ByteArray):Jn:=⟨⟨2,[⟨K,1,0,rw2 7 1,false⟩],[]⟩,⟨2,[],[]⟩,noMark,noMark,1⟩
def St2(K:ByteArray):Jn:=⟨⟨2,[⟨K,1,0,rw2 7 1,true⟩],[]⟩,⟨2,[⟨K,2,1,rw2 7 2,true⟩],[]⟩,noMark,noMark,2⟩
def St3(K:ByteArray):Jn:=⟨⟨2,[⟨K,1,0,rw2 7 1,true⟩],[]⟩,⟨2,[⟨K,2,1,rw2 7 2,true⟩],[]⟩,4,noMark,2⟩
def ch1:ch.Chg:=⟨1,rw2 7 1++bt.D3 2⟩
def ch2:ch.Chg:=⟨3,rw2 7 1++bt.D3 2⟩
def ch3:ch.Chg:=⟨4,rw2 7 1++rw2 7 2⟩
def ch4:ch.Chg:=⟨1,rw2 7 4++rw2 7 2⟩
theorem YP:Dw []=[]:=by simp[Dw]
theorem Lj(y:Ent):Dw [y]=[y]:=by simp[Dw]
theorem Ih{side:Int}(h:BN s (3 - side)=noMark):Di p s side=noMark:=if_pos h
theorem Oj(met:Bool)(h1:pl.hasB p v.side v.row=true)(a:Di p s v.side<v.time):Fc p s v met=⟨(AU s v.side (Ds (Av s v.side) ⟨pl.A6 p v.side v.row,v.time,s.seq,v.row,met⟩)).L,(AU s v.side (Ds (Av s v.side) ⟨pl.A6 p v.side v.row,v.time,s.seq,v.row,met⟩)).R,(AU s v.side (Ds (Av s v.side) ⟨pl.A6 p v.side v.row,v.time,s.seq,v.row,met⟩)).lm,(AU s v.side (Ds (Av s v.side) ⟨pl.A6 p v.side v.row,v.time,s.seq,v.row,met⟩)).rm,(AU s v.side (Ds (Av s v.side) ⟨pl.A6 p v.side v.row,v.time,s.seq,v.row,met⟩)).seq+1⟩:=by
 unfold Fc;rw[if_pos ⟨h1,a⟩]
def St0:Jn:=⟨⟨2,[],[]⟩,⟨2,[],[]⟩,noMark,noMark,0⟩
theorem Lk(y:Ent):Ds ⟨2,[],[]⟩ y=⟨2,[y],[]⟩:=by
 unfold Ds;rw[show Dw (([]:List Ent)++[y])=[y]from Lj y];rfl
theorem Ll(a:p.kind=1):Iv p s v=(Fc p (Dj p s v) v (!(partners p s v).isEmpty),DZ p s v):=by
 unfold Iv;rw[if_neg (by rw[a];decide)]
theorem Ol(side:Int):Ek 4 side=true:=rfl
theorem Aft(h:begP p K):stepJ p (Dg p) ev1=(0,St1 K,[ch1]):=by
 rw[F0 h.err (good_start h.err),LX h.err,h.limit];show(if AP p St0 ev1≠0 then(AP p St0 ev1,j0,[])else if ev1.kind=2 then(0,Eu p (Fi St0 ev1.side ev1.time),[])else(0,Iv p St0 ev1))=_;have e:AP p St0 ev1=0:=by
  simp[AP,ev1,pl.B8,tm.Bt,h.e1,BN,noMark,Av,Ab,partsB,St0]
 have a:partners p St0 ev1=[]:=by
  simp[partners,ev1,h.h1,FN,Av,Ab,partsB,YP,St0]
 have b:Dj p St0 ev1=St0:=by
  unfold Dj;rw[a];rfl
 rw[if_neg (by rw[e];exact λk=>k rfl),if_neg ϥ,Ll h.kind,b,a,Oj _ h.h1 (by rw[Ih rfl];decide)];unfold DZ;rw[a,h.mode];show(0,_,_)=_;have d:pl.A6 p ev1.side ev1.row=K:=h.k1;rw[d];simp only[ev1,Av,AU,St0,Lk,Ol,Ch,DV];simp[St1,ch1,h.r,Lk]
theorem Xi(h:begP p K):goodJ p (St1 K):=by
 have:=good_step (p:=p) (s:=Dg p) (v:=ev1) (good_start h.err).wf ⟨Ej ϥ ϥ,ϥ⟩ (by rw[Aft h]);rw[Aft h]at this;exact this
theorem Afu(h:begP p K):stepJ p (St1 K) ev2=(0,St2 K,[ch2,ch3]):=by
 rw[F0 h.err (Xi h)];have e:AP p (St1 K) ev2=0:=by
  simp[AP,ev2,pl.B8,tm.Bt,h.e2,BN,noMark,Av,Ab,partsB,St1]
 have a:partners p (St1 K) ev2=[⟨K,1,0,rw2 7 1,false⟩]:=by
  simp[partners,ev2,h.h2,FN,Av,Ab,partsB,Lj,St1,h.k2,GN,toJ,h.kind,h.low,h.high]
 have b:Dj p (St1 K) ev2=⟨⟨2,[⟨K,1,0,rw2 7 1,true⟩],[]⟩,⟨2,[],[]⟩,noMark,noMark,1⟩:=by
  unfold Dj;rw[a];rfl
 rw[if_neg (by rw[e];exact λk=>k rfl),if_neg ϥ,Ll h.kind,b,a,Oj _ h.h2 (by rw[Ih rfl];decide)];unfold DZ;rw[a,h.mode];have d:pl.A6 p ev2.side ev2.row=K:=h.k2;rw[d];simp only[ev2,Av,AU,Lk,Ol,Ch,DV];simp[St2,ch2,ch3,h.r,Lk]
theorem Xj(h:begP p K):goodJ p (St2 K):=by
 have:=good_step (p:=p) (s:=St1 K) (v:=ev2) (Xi h).wf ⟨Ej ϥ ϥ,ϥ⟩ (by rw[Afu h]);rw[Afu h]at this;exact this
theorem Afv(h:begP p K):stepJ p (St2 K) ev3=(0,St3 K,[]):=by
 rw[F0 h.err (Xj h)];have e:AP p (St2 K) ev3=0:=by
  simp[AP,ev3,pl.B8,tm.Bt,BN,noMark,St2]
 rw[if_neg (by rw[e];exact λk=>k rfl),if_pos (show ev3.kind=2 from rfl)];have a:Di p (St3 K) 1=noMark:=Ih rfl;have b:Di p (St3 K) 2= -1:=by
  unfold Di;rw[if_neg (show BN (St3 K) (3 - 2)≠noMark from show(4:Int)≠noMark by decide)];exact h.gone
 have d:Fi (St2 K) ev3.side ev3.time=St3 K:=rfl;rw[d];simp only[Eu,h.kind,M4,a,b];simp[St3,Eg,EV,noMark,EF]
theorem Om(h:begP p K):goodJ p (St3 K):=by
 have:=good_step (p:=p) (s:=St2 K) (v:=ev3) (Xj h).wf ⟨λc a=>(by cases a),ϥ⟩ (by rw[Afv h]);rw[Afv h]at this;exact this
theorem beg4(h:begP p K):stepJ p (St3 K) ev4=(7,j0,[]):=by
 rw[F0 h.err (Om h)];have e:AP p (St3 K) ev4=7:=by
  simp[AP,ev4,pl.B8,tm.Bt,h.e3,BN,noMark,St3]
 rw[if_pos (by rw[e];decide),e]
theorem beg5(h:begP p K):∃s,stepJ p (St3 K) ev5=(0,s,[ch4])/\s.lm=4/\s.rm=noMark/\s.seq=3/\goodJ p s:=by
 have e:AP p (St3 K) ev5=0:=by
  simp[AP,ev5,pl.B8,tm.Bt,h.e4,BN,noMark,Av,Ab,partsB,St3]
 have d:partners p (St3 K) ev5=[⟨K,2,1,rw2 7 2,true⟩]:=by
  simp[partners,ev5,h.h4,FN,Av,Ab,partsB,Lj,St3,h.k4,GN,toJ,h.kind,h.low,h.high]
 have a:stepJ p (St3 K) ev5=(0,Iv p (St3 K) ev5):=by
  rw[F0 h.err (Om h),if_neg (by rw[e];exact λk=>k rfl),if_neg ϥ]
 have f:(Iv p (St3 K) ev5).2=[ch4]:=by
  simp only[Iv,h.kind,DZ,d];simp[ev5,Ek,h.mode,DV,ch4]
 have b:(Iv p (St3 K) ev5).1=Fc p (Dj p (St3 K) ev5) ev5 true:=by
  simp only[Iv,h.kind,d];simp
 have g:=good_step (p:=p) (s:=St3 K) (v:=ev5) (Om h).wf ⟨Ej ϥ ϥ,ϥ⟩ (by rw[a]);refine⟨(Iv p (St3 K) ev5).1,?_,?_,?_,?_,?_⟩
 ·rw[a,<-f]
 ·rw[b];unfold Fc;dsimp only;split<;>simp[AU,Dj,ev5,St3]
 ·rw[b];unfold Fc;dsimp only;split<;>simp[AU,Dj,ev5,St3]
 ·rw[b];unfold Fc;dsimp only;split<;>simp[AU,Dj,ev5,St3]
 ·rw[a]at g;exact g
end jn
namespace jn
open vl bf
attribute [local go_sem] Oper.semAt_some
def Ab9(s:Jn):Prop:=((∀l∈partsB s.L,l.length<=ύ)/\∀y∈Ab s.L,y.row.length<=ύ)/\((∀l∈partsB s.R,l.length<=ύ)/\∀y∈Ab s.R,y.row.length<=ύ)
theorem AbA(s:Jn)(y z:JX)(w:Ϡ)(h:joinAt w s y)(n:joinAt w s z)(d:Ab9 s):
 χ 42 #[joinV s y,joinV s z] w (ψ w (.bool true)):=by
 have G:Ϣ (∀a,ϣ w a->CT 93 #[.agg (Ω s.L y.l),.agg (Ω s.L z.l)] a (ψ a (.bool true))):=λa b=>Tk s.L y.l z.l a (Ar h.l b) (Ar n.l b) d.1.1 d.1.2;have H:Ϣ (∀a,ϣ w a->CT 93 #[.agg (Ω s.R y.r),.agg (Ω s.R z.r)] a (ψ a (.bool true))):=λa b=>Tk s.R y.r z.r a (Ar h.r b) (Ar n.r b) d.2.1 d.2.2;rw[AY,AY];clear h n d;go_enter func42,ntmps42;go_upto_region 1 with fail;generalize f:(World.alloc (World.alloc w _) _)=V;have C:ϣ w V:=by rw[<-f];exact ϯ.alloc Ϧ _
 have l:Ϣ (BZ V w s y):=by
  subst f;exact A4 (C7 ..) ϯ
 have m:Ϣ (BZ V (w+1) s z):=by
  subst f;have:=C7 (ϊ w (Ψ s y) 38) s z 38;rw[World.size_alloc]at this;exact this
 clear f;obtain⟨u0,u1,u2,u3,u4,u5,u6,u7,u8⟩:=l.o;obtain⟨o,q,r,u,x,A,i,j,k⟩:=m.o;go_wp2_with fail;refine(G.o _ C).mono ?_;rintro e a ⟨rfl,g⟩;have F:ϣ w a:=bT C g;clear u0 u1 u2 u3 u4 u5 u6 u7 u8 o q r u x A i j k;obtain⟨u0,u1,u2,u3,u4,u5,u6,u7,u8⟩:=A4 l.o g;obtain⟨o,q,r,u,x,A,i,j,k⟩:=A4 m.o g;go_wp2_with fail;refine(H.o _ F).mono ?_;rintro e w2 ⟨rfl,E⟩;have I:ϣ w w2:=bT F E;have D:ϣ V w2:=bT g E;clear u0 u1 u2 u3 u4 u5 u6 u7 u8 o q r u x A i j k;obtain⟨_,_,_,_,_,_,u6,u7,u8⟩:=A4 l.o D;obtain⟨_,_,_,_,_,_,i,j,k⟩:=A4 m.o D;go_wp2;go_ret;exact⟨Ϧ,I⟩
end jn
namespace cd
open vl bf jn
theorem AbB(w:Ϡ):χ 43 #[ώ,ώ] w λe w'=>e= .returned (.bool true)/\w'=w:=by
 go_enter func43,ntmps43;go_wp2
 go_loopw [5] (λi wr=>i=vI 0/\wr=w) (λi _=>0)
 case atStart=>exact⟨rfl,rfl⟩
 case round=>
  obtain⟨rfl,rfl⟩:=hrel;go_wp2;go_ret;exact⟨rfl,rfl⟩
theorem YQ(e:Eng)(x y:EX)(w:Ϡ)(h:enAt w e x)(i:enAt w e y)(f:wfEn e)(q:Ab9 e.j):
 χ 20 #[enV e x,enV e y] w (ψ w (.bool true)):=by
 have l:Ϣ (∀a,ϣ w a->CT 42 #[joinV e.j x.y,joinV e.j y.y] a (ψ a (.bool true))):=λa d=>AbA e.j x.y y.y a (h.j.below d) (i.j.below d) q;have J:Ϣ (∀a,CT 43 #[ώ,ώ] a λo w'=>o= .returned (.bool true)/\w'=a):=λa=>AbB a;have KV:Ϣ (∀a,ϣ w a->CT 44 #[vS x.va e.v.length x.vc,vS y.va e.v.length y.vc] a (ψ a (.bool true))):=λa d=>by
  have:=ch.OU x.va y.va x.vc y.vc e.v e.v a (ch.Br h.v d) (ch.Br i.v d) f.v f.v f.n f.n;rw[decide_eq_true rfl]at this;exact this
 rw[AY,AY]at l;rw[D5,D5];clear h i f q;go_enter func20,ntmps20;go_wp2_with fail;generalize j:(World.alloc (World.alloc w _) _)=V;have k:ϣ w V:=by rw[<-j];exact ϯ.alloc Ϧ _
 have b:Ϣ (Co V w.heap.size e x/\Co V (w.heap.size+1) e y):=by
  subst j;have m:=DG (ϊ w (ξ e x) 42) e y 42;rw[World.size_alloc]at m;exact⟨Bg (DG ..) ϯ,m⟩
 clear j;obtain⟨u0,u1,u2,u3,u4,u5,u6,u7,u8,u9,u10⟩:=b.o.1;obtain⟨r,u,A,C,D,E,F,G,H,I,z⟩:=b.o.2;refine(l.o V k).mono ?_;rintro o a ⟨rfl,g⟩;have n:ϣ w a:=bT k g;replace b:Ϣ (Co a w.heap.size e x/\Co a (w.heap.size+1) e y):=⟨Bg b.o.1 g,Bg b.o.2 g⟩;clear u0 u1 u2 u3 u4 u5 u6 u7 u8 u9 u10 r u A C D E F G H I z g k;obtain⟨u0,u1,u2,u3,u4,u5,u6,u7,u8,u9,u10⟩:=b.o.1;obtain⟨r,u,A,C,D,E,F,G,H,I,z⟩:=b.o.2;go_wp2_with fail;refine(J.o a).mono ?_;rintro o w2 ⟨rfl,rfl⟩;go_wp2_with fail;refine(KV.o _ n).mono ?_;rintro o O ⟨rfl,M⟩;go_wp2;go_ret;exact⟨rfl,bT n M⟩
end cd
namespace cd
open vl bf
variable {c : Nat}
def J6(w:World):Prop:=∀j,j<16->Δ w 0 j (.int .u32 (QY.getD j 0:Nat))
theorem FG{w w':Ϡ}(h:J6 w)(a:ϣ w w'):J6 w':=λj b=>cLz a (h j b)
def AbC(c:Nat)(b:UInt8):Nat:=nibS (nibS (c ^^^ b.toNat))
def Rp(l:List UInt8):Nat:=l.foldl AbC 4294967295
def crc(l:List UInt8):Nat:=Rp l ^^^ 4294967295
theorem IH{a b:Nat}(ha:a<4294967296)(d:b<4294967296):a ^^^ b<4294967296:=Nat.xor_lt_two_pow (n:=32) ha d
theorem Xk:∀l,l<16->QY.getD l 0<4294967296:=ϥ
theorem Rq(h:c<4294967296):nibS c<4294967296:=by
 unfold nibS;exact IH (Nat.lt_of_le_of_lt (Nat.shiftRight_le _ _) h) (Xk _ (Nat.mod_lt _ ϥ))
theorem Aec(h:c<4294967296)(b:UInt8):AbC c b<4294967296:=Rq (Rq (IH h (by have:=b.toNat_lt;omega)))
theorem Qh:∀(l:List UInt8) (c:Nat),c<4294967296->l.foldl AbC c<4294967296
 |[],_,h=>h
 |b::l,c,h=>Qh l _ (Aec h b)
theorem Xl(l:List UInt8):Rp l<4294967296:=Qh l _ ϥ
theorem AbD(l:List UInt8):crc l<4294967296:=IH (Xl l) ϥ
theorem YR(l:List UInt8)(b:UInt8):Rp (l++[b])=AbC (Rp l) b:=by unfold Rp;rw[foldl_append];rfl
theorem ofInt32(x:Nat)(a:x<4294967296):(BitVec.ofInt IntKind.u32.bits (x:Int)).toNat=x:=by
 rw[BitVec.toNat_ofInt];show((x:Int) % 4294967296).toNat=x;rw[Int.emod_eq_of_lt Ϥ Ϥ];rfl
theorem MP(x:Nat)(a:x<4294967296):IntKind.u32.wrap (x:Int)=x:=by
 simp[IntKind.wrap,IntKind.signed,IntKind.bits];omega
theorem AbE(a b:Nat)(ha:a<4294967296)(d:b<4294967296):bits BinOp.xor IntKind.u32 (a:Int) (b:Int)=((a ^^^ b:Nat):Int):=by
 unfold bits;simp only[];rw[BitVec.toNat_xor,ofInt32 a ha,ofInt32 b d];exact MP _ (IH ha d)
theorem AeA(a:Nat)(ha:a<4294967296):bits BinOp.and IntKind.u32 (a:Int) 15=((a % 16:Nat):Int):=by
 unfold bits;simp only[];have e:(BitVec.ofInt IntKind.u32.bits 15).toNat=15:=ofInt32 15 ϥ;rw[BitVec.toNat_and,ofInt32 a ha,e,show(15:Nat)=2 ^ 4 - 1 from rfl,Nat.and_two_pow_sub_one_eq_mod];exact MP _ (by have:=Nat.mod_lt a (show 0<2 ^ 4 by decide);omega)
theorem AeB{d m t:Nat}(b:d<4294967296)(a:d % 16=m)(ht:QY.getD m 0=t):bits BinOp.xor IntKind.u32 ((d:Int)/16) (t:Int)=((nibS d:Nat):Int):=by
 have e:(d:Int)/(16:Int)=((d>>>4:Nat):Int):=by rw[Nat.shiftRight_eq_div_pow];omega
 rw[e,AbE _ _ (Nat.lt_of_le_of_lt (Nat.shiftRight_le _ _) b) (by rw[<-ht,<-a];exact Xk _ (Nat.mod_lt _ ϥ))];unfold nibS;rw[a,ht]
theorem AfX(c:Nat)(h:c<4294967296):bits BinOp.xor IntKind.u32 IntKind.u32.max (c:Int)=((c ^^^ 4294967295:Nat):Int):=by
 have:=AbE 4294967295 c ϥ h;rw[Nat.xor_comm]at this;exact this
theorem Rr(s:ByteArray)(w:Ϡ)(h:J6 w)(W:s.size<=100000000):
 χ 12 #[.string s] w λe w'=>e= .returned (.int .u32 (crc s.data.toList:Nat))/\w'=w:=by
 have C:Ϣ (J6 w):=h;have T:=bLt _ _ (h 0 ϥ);clear h;go_enter func12,ntmps12;go_wp2
 go_loopw [3,4,7] (λu t i wr=> ∃k:Nat,k<=s.size/\i=vI k/\u= .int .u32 (Rp (s.data.toList.take k):Nat)/\wr=w) (λ_ _ i _=>s.size - (intOf i).toNat)
 case atStart=>exact⟨0,Nat.zero_le _,rfl,rfl,rfl⟩
 case round=>
  obtain⟨k,V,rfl,rfl,Q⟩:=hrel;obtain⟨c,l⟩:=nM (Rp (s.data.toList.take k));have r:=hV0 l;have x:c<4294967296:=by rw[<-l];exact Xl _
  rw[l];clear l;by_cases O:k<s.size
  ·have X:=nn0 k;have R:(k:Int)<(s.size:Int):=Ϥ;have U:=s[k].toNat_lt;go_upto_region 6 with fail;rw[AbE c s[k].toNat x Ϥ];obtain⟨d,n⟩:=nM (c ^^^ s[k].toNat);have z:d<4294967296:=by rw[<-n];exact IH x Ϥ
   have G:=hV0 n;rw[n];clear n;obtain⟨m,b⟩:=nM (d % 16);have q:m<16:=Ϥ;have ha:bits BinOp.and IntKind.u32 (d:Int) 15=(m:Int):=by rw[AeA d z,b]
   have j:=C.o m q;obtain⟨t,f⟩:=nM (QY.getD m 0);rw[f]at j;have F:(m:Int)<16:=Ϥ;have E:=nn0 m;subst Q;go_upto_region 7 with fail;rw[AeB z b f];have A:Ϣ (nibS d=nibS d):=rfl;obtain⟨a,o⟩:=nM (nibS d);have D:a<4294967296:=by rw[<-o];exact Rq z
   replace A:=hV0 o;rw[o];clear o j ha b f F E q;obtain⟨g,b⟩:=nM (a % 16);have q:g<16:=Ϥ;have ha:bits BinOp.and IntKind.u32 (a:Int) 15=(g:Int):=by rw[AeA a D,b]
   have j:=C.o g q;obtain⟨S,f⟩:=nM (QY.getD g 0);rw[f]at j;have F:(g:Int)<16:=Ϥ;have E:=nn0 g;have J:Ϣ (bits BinOp.xor IntKind.u32 ((a:Int)/16) (S:Int)=((nibS a:Nat):Int)):=AeB D b f;have I:Ϣ (Rp (s.data.toList.take (k+1))=nibS a):=by
    show _=_;rw[D9 s k O,YR,r.o];unfold AbC;rw[G.o,A.o]
   clear b f;go_wp2;go_roundw;exact⟨k+1,Ϥ,by go_num,by rw[I.o,J.o],trivial⟩;simp[intOf];omega
  ·have M:k=s.size:=Ϥ;subst M;rw[take_of_length_le (by rw[A2];exact Nat.le_refl _)]at r;have R:¬((s.size:Int)<(s.size:Int)):=Ϥ;have H:Ϣ (bits BinOp.xor IntKind.u32 IntKind.u32.max (c:Int)=((crc s.data.toList:Nat):Int)):=by
    show _=_;rw[AfX c x,<-r.o];rfl
   go_wp2;go_ret;exact⟨Ad H.o,rfl⟩
def w4(n:Nat):List UInt8:=[UInt8.ofNat (n/16777216),UInt8.ofNat (n/65536),UInt8.ofNat (n/256),UInt8.ofNat n]
theorem Vs(n:Nat):(w4 n).length=4:=rfl
theorem AfY(n:Nat)(w:Ϡ)(a:n<4294967296):(convert 51 9 (vS (ϋ w) 4 4)).run Tryz.prog (ϊ w #[.int .u8 ((n:Int)/16777216),.int .u8 ((n:Int)/65536 % 256),.int .u8 ((n:Int)/256 % 256),.int .u8 ((n:Int) % 256)] 5)= .ok (.string ⟨(w4 n).toArray⟩) (ϊ w #[.int .u8 ((n:Int)/16777216),.int .u8 ((n:Int)/65536 % 256),.int .u8 ((n:Int)/256 % 256),.int .u8 ((n:Int) % 256)] 5):=by
 refine He (base:=w.heap.size) ?_;have e:(w4 n).map Ef=[.int .u8 ((n:Int)/16777216),.int .u8 ((n:Int)/65536 % 256),.int .u8 ((n:Int)/256 % 256),.int .u8 ((n:Int) % 256)]:=by
  unfold w4 Ef;simp only[map_cons,map_nil,UInt8.toNat_ofNat']
  congr 1
  ·congr 1;omega
 unfold ownB;rw[e];exact World.ownsRow_lit w _ 4 nR ϥ rfl
theorem TH(n:Nat)(w:Ϡ)(a:n<4294967296):
 χ 25 #[.int .u32 n] w (ψ w (.string ⟨(w4 n).toArray⟩)):=by
 have b:=AfY n w a;go_enter func25,ntmps25;go_wp2;go_ret;exact⟨rfl,ϯ⟩
end cd
namespace jn
open vl bf
def AbF(w:World)(a:Option Addr)(l:List Ent):Prop:=
 ∀i,i<l.length->∃b off ra rc,a=some ⟨b,off,none⟩/\Δ w b (off+i * 5) (.string (l.getD i ϰ).key)/\Δ w b (off+i * 5+1) (vI (l.getD i ϰ).time)/\
  ϒ w b (off+i * 5+1+1) (vI (l.getD i ϰ).seq) (vS ra (l.getD i ϰ).row.length rc) (.bool (l.getD i ϰ).met) (vl.rowAt w ra (l.getD i ϰ).row)
theorem OE.entsAt{w:Ϡ}{base:Nat}{d:Hdr}{k:List EM}{l:List Ent}(h:OE w base (hdV d) k l):d.2.1=l.length/\AbF w d.1 l/\l.length<=ύ:=by
 obtain⟨⟨g,u⟩,j⟩:=GA (p:=(d,k)) h;dsimp only at g u j;have z:=h.len;refine⟨g.trans z,λi x=>?_,Ϥ⟩;obtain⟨b,o,e,m,n,q,f,r⟩:=j i Ϥ;have a:=h.ers.2 i x;rw[a.key]at m;rw[a.time]at n;rw[a.seq]at q;rw[a.met]at r;unfold hdV at f;rw[a.len]at f;exact⟨b,o,_,_,e,m,n,q,f,r,a.row⟩
end jn
end Go.Proofs.YtfkihidbnfkbaaaGreatDoor
