import Derived.Test.YtdohnkkbkfhphaaGreatPq32
set_option linter.all false
set_option maxHeartbeats 8000000
set_option maxRecDepth 100000
namespace Go.Proofs.YtdohnkkbkfhphaaGreat
open Go.Proofs.Tryz
namespace jn
open Go.ChangeShapes Go.WideShapes Go.ChangeAt Go.RowKit
open vl bf
attribute [local go_sem] Oper.semAt_some
variable {w w0 : World} {s : Jn} {y : JX} {t : Value} {L : List CO}
theorem MK{N:Nat}(h:stepAt w0 w s y t L)(hN:An w N 31)(l:List Value)(o:Nat):stepAt w0 (w.setCells N o l) s y t L:=⟨Be DW _ _ _ h.l hN,Be DW _ _ _ h.r hN,GN _ _ _ h.cg hN⟩
theorem I1{w0':World}(h:stepAt w0 w s y t L)(hb:w0'.heap.size<=w0.heap.size):stepAt w0' w s y t L:=⟨Ch h.l hb,Ch h.r hb,PJ h.cg hb⟩
theorem QC(p:pl.Pln)(x:pl.PA)(s:Jn)(y:JX)(v:Ev)(ra:Option Addr)(rc PB:Nat)(w:World)(hw:pl.wfPlan p)(hp:pl.planAt w p x)(hbx:BB w PB p x)(h:joinAt w s y)(hwf:wfJ s)(hv:evAt w v ra):
 Calls Tryz.prog 54 #[joinV s y,evV v ra rc,.pointer (some ⟨PB,0,none⟩)] w fun e w'=>(∃y' t L,e= .returned (.tuple #[joinV (stepJ p s v).2.1 y',t,.int .i64 (stepJ p s v).1])/\L.map CO.chg=(stepJ p s v).2.2/\stepAt w w' (stepJ p s v).2.1 y' t L)/\Bwz w w':=by
 have KS:=hIz (fun(w1:World) (hb:Bwz w w1)=>St p x s y v ra rc w1 hw (pl.Ah hp hb) (h.below hb) hwf (hv.below hb))
 obtain⟨ST,hST⟩:=nM (stepJ p s v)
 rw[hST]at KS⊢
 obtain⟨SE,NS,SC⟩:=ST
 dsimp only at KS⊢
 have lp:=Mf hbx
 obtain⟨v0,v1,v2,v3,v4,v5,v6,v7,v8,v9,v10,v11,v12⟩:=hbx
 clear hw hp h hwf hv hST
 unfold pl.As at KS
 rw[AK]at KS⊢
 unfold evV at KS⊢
 obtain⟨kd,hkd⟩:=nM v.kind
 obtain⟨sd,hsd⟩:=nM v.side
 obtain⟨tm',htm⟩:=nM v.time
 obtain⟨rl,hrl⟩:=nM v.row.length
 rw[hkd,hsd,htm,hrl]at KS⊢
 clear hkd hsd htm hrl
 go_enter func54,ntmps54
 go_upto_region 1 with fail
 generalize hV:(World.alloc (World.alloc (World.alloc w _) _) _)=V
 have hb0:Bwz w V:=by rw[<-hV];exact((bR.alloc nR _).alloc (by simp) _).alloc (by simp<;>omega) _
 have HZ:Hid (noJ V (w.heap.size+1+1)/\An V (w.heap.size+1+1) 31):=by
  subst hV
  have h1:=Fc ((w.alloc (.cells #[.int .i64 s.L.lim,.slice y.l.m.1.1 y.l.m.1.2.1 y.l.m.1.2.2,.slice y.l.ra y.l.rs.length y.l.rc,.int .i64 s.R.lim,.slice y.r.m.1.1 y.r.m.1.2.1 y.r.m.1.2.2,.slice y.r.ra y.r.rs.length y.r.rc,.int .i64 s.lm,.int .i64 s.rm,.int .i64 s.seq] 31)).alloc (.cells #[.int .i64 kd,.int .i64 sd,.int .i64 tm',.slice ra rl rc] 43))
  have h2:=World.alloc_heap_new ((w.alloc (.cells #[.int .i64 s.L.lim,.slice y.l.m.1.1 y.l.m.1.2.1 y.l.m.1.2.2,.slice y.l.ra y.l.rs.length y.l.rc,.int .i64 s.R.lim,.slice y.r.m.1.1 y.r.m.1.2.1 y.r.m.1.2.2,.slice y.r.ra y.r.rs.length y.r.rc,.int .i64 s.lm,.int .i64 s.rm,.int .i64 s.seq] 31)).alloc (.cells #[.int .i64 kd,.int .i64 sd,.int .i64 tm',.slice ra rl rc] 43)) (.cells #[.int .i64 0,.slice none 0 0,.slice none 0 0,.int .i64 0,.slice none 0 0,.slice none 0 0,.int .i64 0,.int .i64 0,.int .i64 0] 31)
  rw[World.size_alloc,World.size_alloc]at h1 h2
  exact⟨h1,_,_,h2⟩
 have HJ0:Hid (BT V w.heap.size s y):=by
  subst hV
  exact Aw (BI ..) ((bR.alloc nR _).alloc (by simp) _)
 have e0:V.cell? ⟨w.heap.size+1,0,none⟩=some (.int .i64 kd):=by subst hV;go_simp
 have e1:V.cell? ⟨w.heap.size+1,1,none⟩=some (.int .i64 sd):=by subst hV;go_simp
 have e2:V.cell? ⟨w.heap.size+1,2,none⟩=some (.int .i64 tm'):=by subst hV;go_simp
 have e3:V.cell? ⟨w.heap.size+1,3,none⟩=some (.slice ra rl rc):=by subst hV;go_simp
 clear hV
 replace v0:=cLz hb0 v0
 replace v1:=cLz hb0 v1
 replace v2:=cLz hb0 v2
 replace v3:=cLz hb0 v3
 replace v4:=cLz hb0 v4
 replace v5:=cLz hb0 v5
 replace v6:=cLz hb0 v6
 replace v7:=cLz hb0 v7
 replace v8:=cLz hb0 v8
 replace v9:=cLz hb0 v9
 replace v10:=cLz hb0 v10
 replace v11:=cLz hb0 v11
 replace v12:=cLz hb0 v12
 obtain⟨u0,u1,u2,u3,u4,u5,u6,u7,u8⟩:=HJ0.out
 go_wp2_with fail
 refine(KS.out _ hb0).mono ?_
 rintro e w1 ⟨⟨y',t,L,rfl,hl,hst⟩,hb1⟩
 have hbw:Bwz w w1:=hb0.trans (hb1.mono hb0.size)
 replace HZ:Hid (noJ w1 (w.heap.size+1+1)/\An w1 (w.heap.size+1+1) 31):=⟨AX HZ.out.1 hb1,Af HZ.out.2 hb1⟩
 have HST:Hid (stepAt w (World.setCells w1 (w.heap.size+1+1) 0 [.int .i64 NS.L.lim,.slice y'.l.m.1.1 y'.l.m.1.2.1 y'.l.m.1.2.2,.slice y'.l.ra y'.l.rs.length y'.l.rc,.int .i64 NS.R.lim,.slice y'.r.m.1.1 y'.r.m.1.2.1 y'.r.m.1.2.2,.slice y'.r.ra y'.r.rs.length y'.r.rc,.int .i64 NS.lm,.int .i64 NS.rm,.int .i64 NS.seq]) NS y' t L):=MK (I1 hst hb0.size) HZ.out.2 _ _
 have HR:Hid ((World.setCells w1 (w.heap.size+1+1) 0 [.int .i64 NS.L.lim,.slice y'.l.m.1.1 y'.l.m.1.2.1 y'.l.m.1.2.2,.slice y'.l.ra y'.l.rs.length y'.l.rc,.int .i64 NS.R.lim,.slice y'.r.m.1.1 y'.r.m.1.2.1 y'.r.m.1.2.2,.slice y'.r.ra y'.r.rs.length y'.r.rc,.int .i64 NS.lm,.int .i64 NS.rm,.int .i64 NS.seq]).rangeAt (w.heap.size+1+1) 0 [.int .i64 NS.L.lim,.slice y'.l.m.1.1 y'.l.m.1.2.1 y'.l.m.1.2.2,.slice y'.l.ra y'.l.rs.length y'.l.rc,.int .i64 NS.R.lim,.slice y'.r.m.1.1 y'.r.m.1.2.1 y'.r.m.1.2.2,.slice y'.r.ra y'.r.rs.length y'.r.rc,.int .i64 NS.lm,.int .i64 NS.rm,.int .i64 NS.seq]):=C3 HZ.out.1 rfl
 have HB9:Hid (Bwz w (World.setCells w1 (w.heap.size+1+1) 0 [.int .i64 NS.L.lim,.slice y'.l.m.1.1 y'.l.m.1.2.1 y'.l.m.1.2.2,.slice y'.l.ra y'.l.rs.length y'.l.rc,.int .i64 NS.R.lim,.slice y'.r.m.1.1 y'.r.m.1.2.1 y'.r.m.1.2.2,.slice y'.r.ra y'.r.rs.length y'.r.rc,.int .i64 NS.lm,.int .i64 NS.rm,.int .i64 NS.seq])):=below_setCells (by omega) _ 0 _ hbw
 rw[AK]
 go_wp2_with ((with_reducible refine wpList_store_mid ?_ 31 (.tmp 5) (.tmp 12) ?_ (w.heap.size+1+1) 0 #[.int .i64 NS.L.lim,.slice y'.l.m.1.1 y'.l.m.1.2.1 y'.l.m.1.2.2,.slice y'.l.ra y'.l.rs.length y'.l.rc,.int .i64 NS.R.lim,.slice y'.r.m.1.1 y'.r.m.1.2.1 y'.r.m.1.2.2,.slice y'.r.ra y'.r.rs.length y'.r.rc,.int .i64 NS.lm,.int .i64 NS.rm,.int .i64 NS.seq] ?_ ?_ ?_ ?_ ?_ ?_);exact rfl;exact rfl;exact rfl;exact rfl;exact HZ.out.1;exact EN;exact(by simp[Value.oneCell']))
 generalize (World.setCells w1 (w.heap.size+1+1) 0 [.int .i64 NS.L.lim,.slice y'.l.m.1.1 y'.l.m.1.2.1 y'.l.m.1.2.2,.slice y'.l.ra y'.l.rs.length y'.l.rc,.int .i64 NS.R.lim,.slice y'.r.m.1.1 y'.r.m.1.2.1 y'.r.m.1.2.2,.slice y'.r.ra y'.r.rs.length y'.r.rc,.int .i64 NS.lm,.int .i64 NS.rm,.int .i64 NS.seq])=W' at HR HB9 HST⊢
 have z0:=HR.out 0 _ rfl
 have z1:=HR.out 1 _ rfl
 have z2:=HR.out 2 _ rfl
 have z3:=HR.out 3 _ rfl
 have z4:=HR.out 4 _ rfl
 have z5:=HR.out 5 _ rfl
 have z6:=HR.out 6 _ rfl
 have z7:=HR.out 7 _ rfl
 have z8:=HR.out 8 _ rfl
 simp only[Nat.zero_add]at z0 z1 z2 z3 z4 z5 z6 z7 z8
 exact bodyPost_ret (v:=.tuple #[.agg #[.int .i64 NS.L.lim,.slice y'.l.m.1.1 y'.l.m.1.2.1 y'.l.m.1.2.2,.slice y'.l.ra y'.l.rs.length y'.l.rc,.int .i64 NS.R.lim,.slice y'.r.m.1.1 y'.r.m.1.2.1 y'.r.m.1.2.2,.slice y'.r.ra y'.r.rs.length y'.r.rc,.int .i64 NS.lm,.int .i64 NS.rm,.int .i64 NS.seq],t,.int .i64 SE]) (by simp[results,results54,go_sem,z0,z1,z2,z3,z4,z5,z6,z7,z8]) rfl ⟨⟨y',t,L,rfl,hl,HST.out⟩,HB9.out⟩
end jn
namespace jn
open Go.ChangeShapes Go.WideShapes Go.ChangeAt Go.RowKit
open vl bf
variable {w w' wr : World} {a : Option Addr} {l : List Ev} {p : pl.Pln} {s s0 : Jn} {v : Value} {t : TypeId} {base : Nat} {y y0 : JX} {L : List CO}
instance:Inhabited Ev:=⟨⟨0,0,0,[]⟩⟩
abbrev RX:=Option Addr×Nat
def DH(w:World)(a:Option Addr)(l:List Ev)(xs:List RX):Prop:=
 ∀i,i<l.length->∃b off,a=some ⟨b,off,none⟩/\w.cell? ⟨b,off+i * 4,none⟩=some (.int .i64 (l.getD i default).kind)/\w.cell? ⟨b,off+i * 4+1,none⟩=some (.int .i64 (l.getD i default).side)/\
  w.cell? ⟨b,off+i * 4+1+1,none⟩=some (.int .i64 (l.getD i default).time)/\w.cell? ⟨b,off+i * 4+1+1+1,none⟩=some (.slice (xs.getD i (none,0)).1 (l.getD i default).row.length (xs.getD i (none,0)).2)/\evAt w (l.getD i default) (xs.getD i (none,0)).1
theorem Ef{xs:List RX}(h:DH w a l xs)(hb:Bwz w w'):DH w' a l xs:=fun i hi=>by
 obtain⟨b,off,ea,x1,x2,x3,x4,x5⟩:=h i hi
 exact⟨b,off,ea,cLz hb x1,cLz hb x2,cLz hb x3,cLz hb x4,x5.below hb⟩
theorem Fm{xs:List RX}(h:DH w a l xs):∀v∈l,wfV v:=fun v hv=>by
 obtain⟨i,hi,rfl⟩:=List.getElem_of_mem hv
 obtain⟨b,off,ea,x1,x2,x3,x4,x5⟩:=h i hi
 rw[getD_at hi]at x5
 exact⟨x5.wf,x5.len⟩
theorem Ic(p:pl.Pln):∀(l:List Ev) (s:Jn) (v:Ev) (i:Nat),playJ p s (l++[v]) i=(let r:=playJ p s l i
 if (stepJ p r.1 v).1≠0 then(r.1,r.2.1,r.2.2++[((i+l.length:Nat):Int)])else((stepJ p r.1 v).2.1,r.2.1++(stepJ p r.1 v).2.2,r.2.2))
 |[],s,v,i=>by
  rw[List.nil_append,playJ]
  simp only[playJ,List.length_nil,Nat.add_zero]
  split
  ·rfl
  ·simp
 |u::l,s,v,i=>by
  rw[List.cons_append,playJ,playJ]
  by_cases h:(stepJ p s u).1≠0
  ·rw[if_pos h,if_pos h,Ic p l s v (i+1)]
   dsimp only
   split
   ·rw[List.length_cons,List.cons_append,show i+1+l.length=i+(l.length+1) by omega]
   ·rfl
  ·rw[if_neg h,if_neg h,Ic p l (stepJ p s u).2.1 v (i+1)]
   dsimp only
   split
   ·rw[List.length_cons,show i+1+l.length=i+(l.length+1) by omega]
   ·rw[List.append_assoc]
theorem Ur(h:goodJ p s):wfJ s:=by
 have hl:=h.ok.L.all
 have hr:=h.ok.R.all
 have hs:=h.ok.sq
 exact⟨⟨fun y hy=>h.wf y (List.mem_append.2 (.inl hy)),by omega⟩,⟨fun y hy=>h.wf y (List.mem_append.2 (.inr hy)),by omega⟩,by constructor<;>omega⟩
theorem Us{v:Ev}(h:wfJ s)(hv:wfV v)(h0:(stepJ p s v).1=0):wfJ (stepJ p s v).2.1:=
 Ur (good_step (fun y hy=>by
  rcases List.mem_append.1 hy with hy|hy
  ·exact h.l.ents y hy
  ·exact h.r.ents y hy) hv h0)
theorem LH{p:pl.Pln}:∀(l:List Ev) (s:Jn) (i:Nat),wfJ s->(∀v∈l,wfV v)->wfJ (playJ p s l i).1
 |[],s,i,h,_=>h
 |v::l,s,i,h,hv=>by
  rw[playJ]
  split
  ·exact LH l s (i+1) h (fun u hu=>hv u (List.mem_cons_of_mem _ hu))
  ·rename_i h0
   exact LH l _ (i+1) (Us h (hv v (List.mem_cons_self ..)) (by simpa using h0)) (fun u hu=>hv u (List.mem_cons_of_mem _ hu))
theorem Jd{α β:Type}(f:α->List β)(n:Nat)(hf:∀a,(f a).length<=n):∀l:List α,(l.flatMap f).length<=n * l.length
 |[]=>by simp
 |a::l=>by
  have:=Jd f n hf l
  have:=hf a
  rw[List.flatMap_cons,lAp,List.length_cons,Nat.mul_succ]
  omega
theorem Ut(p:pl.Pln)(s:Jn)(v:Ev)(hL:okB s.L)(hR:okB s.R):(Hy p s v).length<=10000:=by
 have hw:∀fr tO,(Bv p s v fr tO).length<=4096:=fun fr tO=>GZ (by unfold Ae;split;exact hR;exact hL)
 unfold Hy
 split
 ·split
  ·unfold FH
   split
   ·simp
   ·split<;>simp
  ·unfold FI
   refine Nat.le_trans (Jd _ 2 (fun e=>?_) _) ?_
   ·split
    ·simp
    ·split<;>simp
   ·have h1:(CN p s v).length<=4096:=by
     unfold CN
     refine Nat.le_trans (List.length_filter_le ..) ?_
     split
     ·unfold Cu
      rw[(AU _).length_eq]
      exact Nat.le_trans (List.length_filter_le ..) hL.all
     ·exact Nat.zero_le _
    omega
 ·rw[M7]
  unfold pairT
  rw[lAp]
  have h1:=Jd (toldOf p v) 2 (fun e=>by unfold toldOf;split<;>simp) (Bv p s v (Dg p v) (toJ p v))
  have h2:=hw (Dg p v) (toJ p v)
  have h3:∀(c:Prop) [Decidable c] (z:ch.Chg),(if c then [z]else []).length<=1:=fun c _ z=>by split<;>simp
  have h4:=h3 ((Bv p s v (Dg p v) (toJ p v)).isEmpty=true/\BW p.mode v.side=true) ⟨1,AH p v.side v.row⟩
  omega
theorem Su(p:pl.Pln)(s:Jn)(v:Ev):(stepJ p s v).2.2.length<=10000:=by
 unfold stepJ
 split
 ·simp
 ·rename_i h
  split
  ·simp
  ·split
   ·simp
   ·have h0:=Dc (p:=p) (s:=s) (by simpa using h)
    rw[Qu]
    exact Ut p s v h0.2.L h0.2.R
def Je(t:TypeId)(w w':World):Prop:=Below 0 w w'/\∀g e,An w g e->e≠t->w'.heap[g]? =w.heap[g]?
theorem Ie{w1 w2:World}{s n:Nat}{xs:List Value}(h:w1.ownsRow base t s v n xs)(hg:w1.grownBy w2 v.ownBlock):Je t w1 w2:=⟨⟨hg.os,hg.tape,hg.output,hg.size,fun k hk=>absurd hk (Nat.not_lt_zero k)⟩,fun g e hge he=>hg.block g (Ba hge) (fun e2=>tyAt_apart hge (A7 h e2.symm) he rfl)⟩
theorem CM{N:Nat}:∀(l:List Value) (o:Nat) (w:World),An w N 31->Je 31 w (w.setCells N o l)
 |[],_,w,_=>⟨bR,fun _ _ _ _=>rfl⟩
 |u::l,o,w,h=>by
  have k:=CM l (o+1) (w.setCell ⟨N,o,none⟩ u) (AC h _ _)
  have h1:∀g e,An w g e->e≠31->(w.setCell ⟨N,o,none⟩ u).heap[g]? =w.heap[g]? :=fun g e hg he=>heap_setCell_other _ _ _ _ (tyAt_apart hg h he)
  exact⟨((Below.refl 0 w).setCell (Nat.zero_le _) u).trans k.1,fun g e hg he=>(k.2 g e (AD hg (h1 g e hg he)) he).trans (h1 g e hg he)⟩
def jAt(s0:Jn)(y0:JX)(w wr:World)(s:Jn)(y:JX):Prop:=Bwz w wr/\(((s=s0/\y=y0)/\joinAt w s y)\/(OB wr w.heap.size y.l s.L/\OB wr w.heap.size y.r s.R))
theorem jAt.at(h:jAt s0 y0 w wr s y):joinAt wr s y:=by
 rcases h.2 with h2|h2
 ·exact h2.2.below h.1
 ·exact⟨h2.1.at,h2.2.at⟩
theorem jAt.below(h:jAt s0 y0 w wr s y)(hb:Bwz wr w'):jAt s0 y0 w w' s y:=⟨h.1.trans (hb.mono h.1.size),h.2.imp id (fun k=>⟨k.1.below hb,k.2.below hb⟩)⟩
theorem jAt.keep(h:jAt s0 y0 w wr s y)(hk:Je t wr w')(hb:Bwz w w')(h1:t≠63)(h2:t≠103)(h3:t≠26):jAt s0 y0 w w' s y:=by
 have ho:∀{Z:BX} {B:Buf},OB wr w.heap.size Z B->OB w' w.heap.size Z B:=fun k=>OB.other k hk.1.size (fun g hg=>hg.elim (fun q=>hk.2 g _ q h1.symm) (fun q=>hk.2 g _ q h2.symm)) (fun g q=>hk.2 g _ q h3.symm)
 exact⟨hb,h.2.imp id (fun k=>⟨ho k.1,ho k.2⟩)⟩
structure TG(w:World)(base:Nat)(v:Value)(L:List CO):Prop where
 own:w.ownsRow base 55 2 v L.length (ch.Bc (L.map CO.pair))
 rows:∀c∈L,∃bs,AM w bs c.rv c.row
theorem TG.below(h:TG w base v L)(hb:Bwz w w'):TG w' base v L:=⟨own_below h.own hb,fun c hc=>by
 obtain⟨bs,k⟩:=h.rows c hc
 exact⟨bs,own_below k hb⟩⟩
theorem TG.keep(h:TG w base v L)(hk:Je t w w')(h1:t≠55)(h2:t≠103):TG w' base v L:=⟨A2 h.own (fun g hg=>hk.2 g _ (A7 h.own hg) h1.symm),fun c hc=>by
 obtain⟨bs,k⟩:=h.rows c hc
 exact⟨bs,A2 k (fun g hg=>hk.2 g _ (A7 k hg) h2.symm)⟩⟩
theorem Om(w:World)(base:Nat):TG w base (.slice none 0 0) []:=⟨World.ownsRow_nil _ _ _ _,fun c hc=>absurd hc List.not_mem_nil⟩
theorem CG.rows(h:CG w base v L):∀c∈L,∃bs,AM w bs c.rv c.row:=fun c hc=>⟨base,bt.Est.own h (Ce c.rv c.row) (List.mem_cons_of_mem _ (List.mem_map.2 ⟨c,hc,rfl⟩))⟩
theorem TG.app{v':Value}{M:List CO}(h:TG w base v L)(hM:∀c∈M,∃bs,AM w bs c.rv c.row)(hk:Je 55 w w')(ho:w'.ownsRow base 55 2 v' (L.length+M.length) (ch.Bc (L.map CO.pair)++ch.Bc (M.map CO.pair))):TG w' base v' (L++M):=by
 refine⟨by rw[lAp,List.map_append,ch.La];exact ho,fun c hc=>?_⟩
 have key:(∃bs,AM w bs c.rv c.row)->∃bs,AM w' bs c.rv c.row:=fun⟨bs,k⟩=>⟨bs,A2 k (fun g hg=>hk.2 g _ (A7 k hg) (by decide))⟩
 rcases List.mem_append.1 hc with hc|hc
 ·exact key (h.rows c hc)
 ·exact key (hM c hc)
end jn
namespace jn
open Go.ChangeShapes Go.WideShapes Go.ChangeAt Go.RowKit Go.Joins Go.Deep
open vl
theorem Uu:Tryz.prog.cellsOf 43=4:=by kernel_rfl
theorem Uv:Tryz.prog.cellsOf 41=1:=by kernel_rfl
section
variable {H : Type} {enc : TypeId × Value -> H} {w : World} {base : Nat} {spare : Nat -> Bool} {held : Bool}
theorem Uw{v:Value}{y:DataW H×List MemPlace}{fuel:Nat}(h:DataW.trod enc Tryz.prog w base spare held fuel 41 [v]=some y):
 ∃a len cap r,v= .slice a len cap/\List.length (α:=Cel) r=len/\vl.rowAt w a r/\Co r/\len<=9223372036854775807:=by
 rcases open_slice underlying41 h with⟨hcs,_⟩|⟨x,l,c,m,n,D,Pl,hcs,_⟩
 ·simp at hcs
  subst hcs
  obtain⟨r,h1,h2,h3,h4⟩:=open_row (a:=none) (len:=0) (cap:=0) (d:=y.1) (p:=y.2) ⟨fuel,h⟩
  exact⟨_,_,_,r,rfl,h1,h2,h3,h4⟩
 ·simp at hcs
  subst hcs
  obtain⟨r,h1,h2,h3,h4⟩:=open_row (a:=some x) (len:=l) (cap:=c) (d:=y.1) (p:=y.2) ⟨fuel,h⟩
  exact⟨_,_,_,r,rfl,h1,h2,h3,h4⟩
def PL(w:World)(b o:Nat)(v:Ev)(rx:RX):Prop:=w.cell? ⟨b,o,none⟩=some (.int .i64 v.kind)/\w.cell? ⟨b,o+1,none⟩=some (.int .i64 v.side)/\w.cell? ⟨b,o+1+1,none⟩=some (.int .i64 v.time)/\w.cell? ⟨b,o+1+1+1,none⟩=some (.slice rx.1 v.row.length rx.2)/\evAt w v rx.1
theorem PM{x:Addr}{cs:List Value}{y:DataW H×List MemPlace}{fuel:Nat}(hc:w.cells? base x 4=some cs)(ht:DataW.trod enc Tryz.prog w base spare held fuel 43 cs=some y):
 ∃(b off:Nat) (c:Ev×RX),x=⟨b,off,none⟩/\PL w b off c.1 c.2:=by
 obtain⟨_,hlen,hat⟩:=World.cells?_some hc
 obtain⟨y0,y1,y2,y3,n,_,_,h0,h1,h2,h3⟩:=trod_struct4 underlying43 ht
 match cs,hlen with
 |[a0,a1,a2,a3],_=>
  obtain⟨m0,e0,_,wm0⟩:=DataW.trod_int underlying3 h0
  simp[CE]at e0
  subst e0
  obtain⟨m1,e1,_,wm1⟩:=DataW.trod_int underlying3 h1
  simp[CE]at e1
  subst e1
  obtain⟨m2,e2,_,wm2⟩:=DataW.trod_int underlying3 h2
  simp[CE]at e2
  subst e2
  simp[Uv,CE]at h3
  obtain⟨ra,rl,rc,r,e3,hl,hr,hw,hm⟩:=Uw h3
  subst e3 hl
  obtain⟨b,off,spot⟩:=x
  have g0:=hat 0 (by omega)
  have g1:=hat 1 (by omega)
  have g2:=hat 2 (by omega)
  have g3:=hat 3 (by omega)
  have hspot:spot=none:=by simpa[Addr.add]using World.cell?_spot g0
  subst hspot
  refine⟨b,off,(⟨m0,m1,m2,r⟩,(ra,rc)),rfl,?_,?_,?_,?_,hr,hw,hm⟩
  ·simpa[Addr.add]using g0
  ·simpa[Addr.add]using g1
  ·simpa[Addr.add]using g2
  ·simpa[Addr.add]using g3
theorem MM{a:Option Addr}{len cap:Nat}{d:DataW H}{p:List MemPlace}(h:DataW.Trod enc Tryz.prog w base spare held 49 (.slice a len cap) d p):
 ∃(l:List Ev) (xs:List RX),l.length=len/\DH w a l xs/\len<=9223372036854775807:=by
 obtain⟨fuel,hf⟩:=h
 rcases open_slice underlying49 hf with⟨hcs,_⟩|⟨x,l,c,m,n,D,Pl,hcs,_,hl,hm,hmm,_,hel⟩
 ·simp[Value.cells]at hcs
  obtain⟨rfl,rfl,rfl⟩:=hcs
  exact⟨[],[],rfl,fun i hi=>absurd hi (Nat.not_lt_zero i),by omega⟩
 ·simp[Value.cells]at hcs
  obtain⟨rfl,rfl,rfl⟩:=hcs
  have hle:len<=m:=by rw[hmm];split<;>omega
  rw[Uu]at hel
  obtain⟨f,hfam⟩:=choose_lt (α:=Ev×RX) (n:=len) (p:=fun i c=> ∃b off,x=⟨b,off,none⟩/\PL w b (off+i * 4) c.1 c.2) (fun i hi=>by
   obtain⟨cs',h1,h2⟩:=hel i (by omega)
   obtain⟨b,off,c,e,g⟩:=PM h1 h2
   obtain⟨cs0,z1,z2⟩:=hel 0 (by omega)
   obtain⟨b0,off0,c0,e0,_⟩:=PM z1 z2
   have ex:x=⟨b0,off0,none⟩:=by simpa[Addr.add]using e0
   subst ex
   have ea:(⟨b0,off0,none⟩:Addr).add (i * 4)=⟨b0,off0+i * 4,none⟩:=by unfold Addr.add;split<;>simp_all
   rw[ea]at e
   cases e
   exact⟨c,b,off0,rfl,g⟩)
  refine⟨(List.range len).map fun i=>(f i).1,(List.range len).map fun i=>(f i).2,by simp,?_,by unfold maxLen at hm;omega⟩
  intro i hi
  have hi':i<len:=by simpa using hi
  obtain⟨b,off,rfl,g0,g1,g2,g3,g4⟩:=hfam i hi'
  have e:((List.range len).map fun i=>(f i).1).getD i default=(f i).1:=by simp[gDe,hi']
  have e2:((List.range len).map fun i=>(f i).2).getD i (none,0)=(f i).2:=by simp[gDe,hi']
  rw[e,e2]
  exact⟨b,off,rfl,g0,g1,g2,g3,g4⟩
end
end jn
namespace jn
open Go
variable {P : Program} {w : World}
theorem IH(base:Nat)(t ty e:TypeId)(i:TypeInfo)(size:Nat)(ht:P.underlying t=some (.slice e))(hi:P.info? e=some i)
 (v:Value) (n:Nat) (xs:List Value) (hown:w.ownsRow base e size v n xs) (ad:Option Addr) (c:Nat):
 (Builtin.append_ #[t,t] ty #[v,.slice ad 0 c]).run P w= .ok v w:=by
 rcases hown.2 with⟨rfl,rfl⟩|⟨g,cap,cur,rfl,_,_,hnc,_⟩<;>cases ad
 ·simp[Builtin.append_,run_underlying ht,sizeOf,typeInfo,hi,Builtin.lenOf,Builtin.firstCells]
 ·simp[Builtin.append_,run_underlying ht,sizeOf,typeInfo,hi,Builtin.lenOf,Builtin.firstCells,loadCells,loadCellsFrom]
 ·simp[Builtin.append_,run_underlying ht,sizeOf,typeInfo,hi,Builtin.lenOf,Builtin.firstCells,hnc,storeCells]
 ·simp[Builtin.append_,run_underlying ht,sizeOf,typeInfo,hi,Builtin.lenOf,Builtin.firstCells,hnc,storeCells,loadCells,loadCellsFrom]
theorem Gk{ops:Array Oper}{rest:List Oper}{o:Oper}{a:Act}{Q:Exit->Act->World->Prop}(hgd:o.guard=none)(s x:Operand)(t:TypeId)
 (ho:o.op= .call {callee:=.builtin .append,args:=#[s,x],argTypes:=#[t,t]})
 (base:Nat) (e:TypeId) (i:TypeInfo) (size:Nat) (ht:P.underlying t=some (.slice e)) (hi:P.info? e=some i)
 (v:Value) (n:Nat) (xs:List Value) (hs:a.eval s=v) (hown:w.ownsRow base e size v n xs) (ad:Option Addr) (c:Nat) (hx:a.eval x= .slice ad 0 c)
 (h:wpList P ops Q rest (a.put o.dst v) w):wpList P ops Q (o::rest) a w:=by
 refine wpList_plain hgd fun K hK=>?_
 have hrun:=IH (P:=P) (w:=w) base t o.type e i size ht hi v n xs hown ad c
 unfold Oper.wp
 simp[execOp,ho,resolve,invoke,builtin,hs,hx,hrun,Result.andThen]
 exact hK _ _ h
end jn
namespace pl
open Go.ChangeShapes Go.WideShapes Go.ChangeAt Go.RowKit
open vl
theorem On{ops:Array Oper}{rest:List Oper}{o:Oper}{a:Act}{Q:Exit->Act->World->Prop}(hgd:o.guard=none)(s x:Operand)
 (ho:o.op= .call {callee:=.builtin .append,args:=#[s,x],argTypes:=#[22,22]}) (base:Nat) (v:Value) (l:List Int) (hs:a.eval s=v) (w0:World)
 (hown:Dn w0 base v l) (n:Int) (B:Nat) (hB:w0.heap.size=B) (hx:a.eval x= .slice (some ⟨B,0,none⟩) 1 1) (hl:l.length<=1000000) (hb:base<=w0.heap.size)
 (h:∀v' w',Dn w' base v' (l++[n])->(w0.alloc (.cells #[.int .i64 n] 3)).grownBy w' v.ownBlock->wpList Tryz.prog ops Q rest (a.put o.dst v') w'):
 wpList Tryz.prog ops Q (o::rest) a (w0.alloc (.cells #[.int .i64 n] 3)):=by
 subst hB
 obtain⟨i0,hi,hz0,hz1,hz2⟩:=info_parts Tryz.info3
 refine wpList_append_own _ hgd s x 22 ho base 3 i0 (.int .i64 0) 1 8 underlying22 hi hz0 hz1 hz2 rfl (by decide) v l.length (l.map GF) hs
  (World.ownsRow.alloc hown _) ⟨w0.heap.size,0,none⟩ 1 1 [.int .i64 n] hx rfl (cell_one_new _ _ _) (by intro u hu;simp at hu;subst hu;rfl) (by unfold maxLen;omega) (by omega) (by simp;omega) ?_
 intro v' w' h1 h2 _
 refine h v' w' ?_ h2
 unfold Dn
 rw[lAp,List.map_append]
 exact h1
theorem Kn{base:Nat}{w w0 w':World}{v:Value}{l:List Int}{o:Obj}(hb:Below base w w0)(h0:base<=w0.heap.size)(hown:Dn w0 base v l)(hg:(w0.alloc o).grownBy w' v.ownBlock):Below base w w':=
 (hb.alloc h0 o).grown hg (by simp;omega) (fun k hk=>(World.ownsRow.lt hown k hk).1)
end pl
namespace jn
open Go.ChangeShapes Go.WideShapes Go.ChangeAt Go.RowKit
open vl bf
variable {w w' wr : World} {s s0 : Jn} {y y0 : JX} {B R : Nat}
theorem QD{b:Nat}(h:BT w b s y)(hs:w'.heap[b]? =w.heap[b]?):BT w' b s y:=by
 have hc:∀{i:Nat} {v:Value},w.cell? ⟨b,i,none⟩=some v->w'.cell? ⟨b,i,none⟩=some v:=fun {i v} hv=>(cOb (w:=w) (a:=⟨b,i,none⟩) hs).trans hv
 obtain⟨u0,u1,u2,u3,u4,u5,u6,u7,u8⟩:=h
 exact⟨hc u0,hc u1,hc u2,hc u3,hc u4,hc u5,hc u6,hc u7,hc u8⟩
structure PCo(s0:Jn)(y0:JX)(w wr:World)(R B:Nat)(s:Jn)(y:JX):Prop where
 box:BT wr B s y
 nb:noJ wr B
 tb:An wr B 31
 nr:noJ wr R
 tr:An wr R 31
 j:jAt s0 y0 w wr s y
theorem PCo.below(h:PCo s0 y0 w wr R B s y)(hb:Bwz wr w'):PCo s0 y0 w w' R B s y:=
 ⟨Aw h.box hb,AX h.nb hb,Af h.tb hb,AX h.nr hb,Af h.tr hb,h.j.below hb⟩
theorem PCo.keep{t:TypeId}(h:PCo s0 y0 w wr R B s y)(hk:Je t wr w')(hb:Bwz w w')(h0:t≠31)(h1:t≠63)(h2:t≠103)(h3:t≠26):PCo s0 y0 w w' R B s y:=
 ⟨QD h.box (hk.2 B _ h.tb h0.symm),EQ h.nb (hk.2 B _ h.tb h0.symm),AD h.tb (hk.2 B _ h.tb h0.symm),EQ h.nr (hk.2 R _ h.tr h0.symm),AD h.tr (hk.2 R _ h.tr h0.symm),h.j.keep hk hb h1 h2 h3⟩
theorem PCo.put{s':Jn}{y':JX}(h:PCo s0 y0 w wr R B s y)(hB:w.heap.size<=B)(hl:OB wr w.heap.size y'.l s'.L)(hr:OB wr w.heap.size y'.r s'.R):
 PCo s0 y0 w (wr.setCells B 0 [.int .i64 s'.L.lim,.slice y'.l.m.1.1 y'.l.m.1.2.1 y'.l.m.1.2.2,.slice y'.l.ra y'.l.rs.length y'.l.rc,.int .i64 s'.R.lim,.slice y'.r.m.1.1 y'.r.m.1.2.1 y'.r.m.1.2.2,.slice y'.r.ra y'.r.rs.length y'.r.rc,.int .i64 s'.lm,.int .i64 s'.rm,.int .i64 s'.seq]) R B s' y':=by
 refine⟨?_,World.there_setCells h.nb _ _ _,DP _ _ _ h.tb,World.there_setCells h.nr _ _ _,DP _ _ _ h.tr,below_setCells hB _ 0 _ h.j.1,.inr ⟨Be DW _ _ _ hl h.tb,Be DW _ _ _ hr h.tb⟩⟩
 have HR:=C3 h.nb (l:=[.int .i64 s'.L.lim,.slice y'.l.m.1.1 y'.l.m.1.2.1 y'.l.m.1.2.2,.slice y'.l.ra y'.l.rs.length y'.l.rc,.int .i64 s'.R.lim,.slice y'.r.m.1.1 y'.r.m.1.2.1 y'.r.m.1.2.2,.slice y'.r.ra y'.r.rs.length y'.r.rc,.int .i64 s'.lm,.int .i64 s'.rm,.int .i64 s'.seq]) rfl
 have z0:=HR 0 _ rfl
 have z1:=HR 1 _ rfl
 have z2:=HR 2 _ rfl
 have z3:=HR 3 _ rfl
 have z4:=HR 4 _ rfl
 have z5:=HR 5 _ rfl
 have z6:=HR 6 _ rfl
 have z7:=HR 7 _ rfl
 have z8:=HR 8 _ rfl
 simp only[Nat.zero_add]at z0 z1 z2 z3 z4 z5 z6 z7 z8
 exact⟨z0,z1,z2,z3,z4,z5,z6,z7,z8⟩
theorem MN{base:Nat}{e:TypeId}{s n:Nat}{v:Value}{xs:List Value}(h:w.ownsRow base e s v n xs)(hg:w.grownBy w' v.ownBlock)(hb:base<=w.heap.size):Below base w w':=
 ⟨hg.os,hg.tape,hg.output,hg.size,fun k hk=>hg.block k (Nat.lt_of_lt_of_le hk hb) (fun e2=>by have:=(ch.AG h e2.symm).1;omega)⟩
theorem MO{ops:Array Oper}{rest:List Oper}{o:Oper}{a:Act}{Q:Exit->Act->World->Prop}(hgd:o.guard=none)(s x:Operand)
 (hop:o.op= .call {callee:=.builtin .append,args:=#[s,x],argTypes:=#[44,44]})
 (base base':Nat) (v t:Value) (L M:List CO) (w1:World) (hs:a.eval s=v) (hx:a.eval x=t) (hT:TG w1 base v L) (hC:CG w1 base' t M) (hl:L.length+M.length<=1000000000) (hb:base<=w1.heap.size)
 (h:∀v' w2,TG w2 base v' (L++M)->Je 55 w1 w2->Below base w1 w2->wpList Tryz.prog ops Q rest (a.put o.dst v') w2):
 wpList Tryz.prog ops Q (o::rest) a w1:=by
 obtain⟨i0,hi,hz0,hz1,hz2⟩:=info_parts ch.So
 have hown:=CG.own hC
 have hrows:=CG.rows hC
 rcases Nat.eq_zero_or_pos M.length with h0|h0
 ·obtain rfl:=List.length_eq_zero_iff.1 h0
  have hz:∃ad c,t= .slice ad 0 c:=by
   rcases hown.2 with⟨rfl,_⟩|⟨g,cap,cur,rfl,_⟩
   ·exact⟨_,_,rfl⟩
   ·exact⟨_,_,rfl⟩
  obtain⟨ad,c,rfl⟩:=hz
  refine Gk hgd s x 44 hop base 55 i0 2 underlying44 hi v L.length _ hs hT.own ad c hx ?_
  exact h v w1 (by rw[List.append_nil];exact hT) ⟨bR,fun _ _ _ _=>rfl⟩ bR
 ·obtain⟨g,cap,rfl,hg1,hg2⟩:=World.ownsRow.form hown h0
  have hone:∀u∈ch.Bc (M.map CO.pair),u.oneCell'=true:=ch.Q7 (fun z hz=>by
   obtain⟨c,hc,rfl⟩:=List.mem_map.1 hz
   obtain⟨bs,k⟩:=hrows c hc
   rcases k.2 with⟨k,_⟩|⟨g,cap,cur,k,_⟩<;>(show c.rv.oneCell'=true;rw[k];rfl))
  have hlen:(ch.Bc (M.map CO.pair)).length=M.length * 2:=by rw[ch.Q6,lMp]
  refine wpList_append_lies _ hgd s x 44 hop base 55 i0 (.agg #[.int .i64 0,.slice none 0 0]) 2 32 underlying44 hi hz0 hz1 hz2 rfl (by decide) v L.length _ hs hT.own
   ⟨g,0,none⟩ M.length cap (ch.Bc (M.map CO.pair)) hx hlen (fun j u hu=>?_) hone h0 (by unfold maxLen;omega) (by omega) hb w1.heap.size rfl ?_
  ·rw[ch.addr_add,Nat.zero_add,hown.cellAt j (by rw[<-hlen];exact(List.getElem?_eq_some_iff.1 hu).1)]
   exact hu
  ·intro g' cap' w2 h2 h3 h4 h5
   exact h _ w2 (hT.app hrows (Ie hT.own h3) h2) (Ie hT.own h3) (MN hT.own h3 hb)
theorem Sv(w:World)(s:Jn)(y:JX):noJ (w.alloc (.cells #[.int .i64 s.L.lim,.slice y.l.m.1.1 y.l.m.1.2.1 y.l.m.1.2.2,.slice y.l.ra y.l.rs.length y.l.rc,.int .i64 s.R.lim,.slice y.r.m.1.1 y.r.m.1.2.1 y.r.m.1.2.2,.slice y.r.ra y.r.rs.length y.r.rc,.int .i64 s.lm,.int .i64 s.rm,.int .i64 s.seq] 31)) w.heap.size:=by
 intro j hj
 match j,hj with
 |0,_=>exact⟨by go_simp,by go_simp⟩
 |1,_=>exact⟨by go_simp,by go_simp⟩
 |2,_=>exact⟨by go_simp,by go_simp⟩
 |3,_=>exact⟨by go_simp,by go_simp⟩
 |4,_=>exact⟨by go_simp,by go_simp⟩
 |5,_=>exact⟨by go_simp,by go_simp⟩
 |6,_=>exact⟨by go_simp,by go_simp⟩
 |7,_=>exact⟨by go_simp,by go_simp⟩
 |8,_=>exact⟨by go_simp,by go_simp⟩
noncomputable def PK(p:pl.Pln)(s:Jn)(l:List Ev)(k:Nat):Jn×List ch.Chg×List Int:=playJ p s (l.take k) 0
theorem PN(p:pl.Pln)(s:Jn)(l:List Ev):PK p s l 0=(s,[],[]):=rfl
theorem VZ(p:pl.Pln)(s:Jn)(l:List Ev):PK p s l l.length=playJ p s l 0:=by unfold PK;rw[List.take_length]
theorem LI(p:pl.Pln)(s:Jn)(l:List Ev)(k:Nat)(hk:k<l.length):PK p s l (k+1)=if (stepJ p (PK p s l k).1 (l.getD k default)).1≠0 then((PK p s l k).1,(PK p s l k).2.1,(PK p s l k).2.2++[(k:Int)])else((stepJ p (PK p s l k).1 (l.getD k default)).2.1,(PK p s l k).2.1++(stepJ p (PK p s l k).1 (l.getD k default)).2.2,(PK p s l k).2.2):=by
 unfold PK
 have e:l.take (k+1)=l.take k++[l.getD k default]:=by
  rw[List.take_add_one,gEe hk,gDe,gEe hk];rfl
 rw[e,Ic]
 simp only[List.length_take,Nat.min_eq_left (Nat.le_of_lt hk),Nat.zero_add]
end jn
end Go.Proofs.YtdohnkkbkfhphaaGreat
