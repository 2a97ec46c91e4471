import Derived.Test.YtdohnkkbkfhphaaGreatPc18
set_option linter.all false
set_option maxHeartbeats 8000000
set_option maxRecDepth 100000
namespace Go.Proofs.YtdohnkkbkfhphaaGreat
open Go.Proofs.Tryz
namespace bf
open Go.ChangeShapes Go.WideShapes Go.ChangeAt Go.RowKit
open vl
variable {W W1 W2 : World} {o : Obj} {C NB base g : Nat} {x : BX} {b : Buf}
theorem IE{r:Option Nat}(hg:(W1.alloc o).grownBy W2 r):W1.heap.size<=W2.heap.size/\∀k,k<W1.heap.size->r≠some k->W2.heap[k]? =W1.heap[k]? :=
 ⟨by have:=hg.size;simp at this;omega,fun k hk hne=>by
  rw[hg.block k (by simp;omega) (fun e=>hne e.symm)]
  exact Below.heap_alloc _ _ k hk⟩
theorem WE(h:PSt W C NB base x b)(hb1:Bwz W W1)(hg:(W1.alloc o).grownBy W2 (hdV x.m.1).ownBlock):
 W2.cell? ⟨NB,1,none⟩=some (hdV x.m.1)/\W2.frozen? ⟨NB,1,none⟩=false:=by
 have h1:=h.below hb1
 obtain⟨hs,hk⟩:=IE hg
 obtain⟨eN,eC⟩:=L3 h1 hs hk
 exact⟨(cOb (a:=⟨NB,1,none⟩) eN).trans h1.k.c1,(AC (p:=⟨NB,1,none⟩) eN).trans h1.f1⟩
theorem WF{c4:Nat}{e:EM}{y:Ent}(h:PSt W C NB base x b)(hb1:Bwz W W1)(hx:OR W1 base e y)
 (hown:W2.ownsRow base 63 5 (.slice (some ⟨g,0,none⟩) (x.m.2.length+1) c4) (x.m.2.length+1) (An x.m.2++[.string e.key,.int .i64 e.time,.int .i64 e.seq,hdV e.row,.bool e.met])) (hg:(W1.alloc o).grownBy W2 (hdV x.m.1).ownBlock) (hat:(hdV x.m.1).ownBlock=some g\/g=W1.heap.size+1):
 PSt (W2.setCell ⟨NB,1,none⟩ (.slice (some ⟨g,0,none⟩) (x.m.2.length+1) c4)) C NB base ⟨x.ra,x.rc,((some ⟨g,0,none⟩,x.m.2.length+1,c4),x.m.2++[e]),x.rs⟩ ⟨b.lim,b.mem++[y],b.runs⟩/\Below base W (W2.setCell ⟨NB,1,none⟩ (.slice (some ⟨g,0,none⟩) (x.m.2.length+1) c4)):=by
 have h1:=h.below hb1
 obtain⟨hs,hk⟩:=IE hg
 obtain⟨eN,eC⟩:=L3 h1 hs hk
 have hsn:=JM h.k.ob.mem hb1 hx hown hg
 have hOB:OB W2 base ⟨x.ra,x.rc,((some ⟨g,0,none⟩,x.m.2.length+1,c4),x.m.2++[e]),x.rs⟩ ⟨b.lim,b.mem++[y],b.runs⟩:=Wg h1.k.ob hsn.1 hs hk (fun g' hg'=>by
  have:g=g':=by cases hg';rfl
  subst this
  rcases hat with h2|h2
  ·exact .inl h2
  ·exact .inr (by omega))
 have t2:=AH h1.k.ty eN
 have c0:=(cOb (a:=⟨NB,0,none⟩) eN).trans h1.k.c0
 have c1:=(cOb (a:=⟨NB,1,none⟩) eN).trans h1.k.c1
 have c2:=(cOb (a:=⟨NB,2,none⟩) eN).trans h1.k.c2
 have f1:=(AC (p:=⟨NB,1,none⟩) eN).trans h1.f1
 have f2:=(AC (p:=⟨NB,2,none⟩) eN).trans h1.k.f2
 have hne:=h.k.ne
 have eO:∀u,(W2.setCell ⟨NB,1,none⟩ u).heap[C]? =W1.heap[C]? :=fun u=>(heap_setCell_other _ _ _ _ (by dsimp only;omega)).trans eC
 refine⟨⟨⟨IF hOB t2 _ _,?_,World.cell?_setCell_same _ _ _ c1,?_,?_,AM t2 _ _,(cOb (a:=⟨C,0,none⟩) (eO _)).trans h1.k.r0,(cOb (a:=⟨C,1,none⟩) (eO _)).trans h1.k.r1,(cOb (a:=⟨C,2,none⟩) (eO _)).trans h1.k.r2,(AC (p:=⟨C,0,none⟩) (eO _)).trans h1.k.g0,(AC (p:=⟨C,1,none⟩) (eO _)).trans h1.k.g1,(AC (p:=⟨C,2,none⟩) (eO _)).trans h1.k.g2,AH h1.k.rt (eO _),hne,h.k.up⟩,?_⟩,?_⟩
 ·dsimp only;go_simp
 ·dsimp only;go_simp
 ·go_simp
 ·go_simp
 ·have:=h.k.up
  exact hsn.2.setCell (by dsimp only;omega) _
theorem Oa(h:PSt W C NB base x b)(hg:(W.alloc o).grownBy W2 (Value.slice x.ra x.rs.length x.rc).ownBlock):
 W2.heap.size≥W.heap.size/\W2.heap[NB]? =W.heap[NB]? /\W2.heap[C]? =W.heap[C]? /\(∀k,Ar W k 63\/Ar W k 103->W2.heap[k]? =W.heap[k]?):=by
 obtain⟨hs,hk⟩:=IE hg
 have ap:∀k t,Ar W k t->t≠26->W2.heap[k]? =W.heap[k]? :=fun k t hk' ht=>hk k (AY hk') (fun e=>tyAt_apart (A8 h.k.ob.hds e) hk' (fun e=>ht e.symm) rfl)
 exact⟨hs,ap _ _ h.k.ty (by decide),ap _ _ h.k.rt (by decide),fun k hk'=>by rcases hk' with hk'|hk';exact ap _ _ hk' (by decide);exact ap _ _ hk' (by decide)⟩
theorem Uy{cap2:Nat}(h:PSt W C NB base x b)
 (hown2:W2.ownsRow base 26 1 (.slice (some ⟨g,0,none⟩) (x.rs.length+1) cap2) (x.rs.length+1) ((x.rs.map fun p=>hdV p.1)++[hdV x.m.1])) (hg:(W.alloc o).grownBy W2 (Value.slice x.ra x.rs.length x.rc).ownBlock):
 PSt ((W2.setCell ⟨NB,2,none⟩ (.slice (some ⟨g,0,none⟩) (x.rs.length+1) cap2)).setCell ⟨NB,1,none⟩ (.slice none 0 0)) C NB base ⟨some ⟨g,0,none⟩,cap2,((none,0,0),[]),x.rs++[x.m]⟩ ⟨b.lim,[],b.runs++[b.mem]⟩/\Below base W ((W2.setCell ⟨NB,2,none⟩ (.slice (some ⟨g,0,none⟩) (x.rs.length+1) cap2)).setCell ⟨NB,1,none⟩ (.slice none 0 0)):=by
 obtain⟨hs,eN,eC,hch⟩:=Oa h hg
 have hOB:=XJ h.k.ob hown2 hs hch
 have t2:=AH h.k.ty eN
 have c0:=(cOb (a:=⟨NB,0,none⟩) eN).trans h.k.c0
 have c1:=(cOb (a:=⟨NB,1,none⟩) eN).trans h.k.c1
 have c2:=(cOb (a:=⟨NB,2,none⟩) eN).trans h.k.c2
 have f1:=(AC (p:=⟨NB,1,none⟩) eN).trans h.f1
 have f2:=(AC (p:=⟨NB,2,none⟩) eN).trans h.k.f2
 have hne:=h.k.ne
 have eO:∀u u',((W2.setCell ⟨NB,2,none⟩ u).setCell ⟨NB,1,none⟩ u').heap[C]? =W.heap[C]? :=fun u u'=>(heap_setCell_other _ _ _ _ (by dsimp only;omega)).trans ((heap_setCell_other _ _ _ _ (by dsimp only;omega)).trans eC)
 refine⟨⟨⟨IF (IF hOB t2 _ _) (AM t2 _ _) _ _,?_,?_,?_,?_,AM (AM t2 _ _) _ _,(cOb (a:=⟨C,0,none⟩) (eO _ _)).trans h.k.r0,(cOb (a:=⟨C,1,none⟩) (eO _ _)).trans h.k.r1,(cOb (a:=⟨C,2,none⟩) (eO _ _)).trans h.k.r2,(AC (p:=⟨C,0,none⟩) (eO _ _)).trans h.k.g0,(AC (p:=⟨C,1,none⟩) (eO _ _)).trans h.k.g1,(AC (p:=⟨C,2,none⟩) (eO _ _)).trans h.k.g2,AH h.k.rt (eO _ _),hne,h.k.up⟩,?_⟩,?_⟩
 ·dsimp only;go_simp
 ·unfold hdV;dsimp only;go_simp
 ·dsimp only;rw[lAp];go_simp
 ·go_simp
 ·go_simp
 ·have:=h.k.up
  have hlow:=h.k.ob.low
  have hb2:Below base W W2:=(bR.alloc hlow o).grown hg (by simp;omega) (fun c hc=>(AD h.k.ob.hds hc).1)
  exact(hb2.setCell (by dsimp only;omega) _).setCell (by dsimp only;omega) _
theorem Sv{ops:Array Oper}{o:Oper}{a:Act}{K:Act->World->Prop}{Q:Exit->Act->World->Prop}{E:Prop}(hgd:o.guard=none)(s x:Operand)
 (hop:o.op= .call {callee:=.builtin .append,args:=#[s,x],argTypes:=#[26,26]})
 (base:Nat) (v:Value) (L:List EM) (ek:ByteArray) (et es1:Int) (ad:Option Addr) (rl cap:Nat) (em:Bool) (w1:World) (ln:Nat) (ho:w1.ownsRow base 63 5 v ln (An L)) (hl:ln<=1000000) (hb:base<=w1.heap.size)
 (hs:a.eval s=v) (hx:a.eval x= .slice (some ⟨w1.heap.size,0,none⟩) 1 1)
 (h:∀g cap2 w2,w2.ownsRow base 63 5 (.slice (some ⟨g,0,none⟩) (ln+1) cap2) (ln+1) (An L++[.string ek,.int .i64 et,.int .i64 es1,.slice ad rl cap,.bool em])->(w1.alloc (.cells #[.string ek,.int .i64 et,.int .i64 es1,.slice ad rl cap,.bool em] 63)).grownBy w2 v.ownBlock->(v.ownBlock=some g\/g=w1.heap.size+1)->g<w2.heap.size->K (a.put o.dst (.slice (some ⟨g,0,none⟩) (ln+1) cap2)) w2):
 if Region.wanted o (yielded ops a.tmps)=true then Oper.wp Tryz.prog o a (w1.alloc (.cells #[.string ek,.int .i64 et,.int .i64 es1,.slice ad rl cap,.bool em] 63)) K Q else E:=by
 obtain⟨i0,hi,hz0,hz1,hz2⟩:=info_parts P7
 exact step_append_lies _ hgd s x 26 hop base 63 i0 (.agg #[.string ⟨#[]⟩,.int .i64 0,.int .i64 0,.slice none 0 0,.bool false]) 5 64 underlying26 hi hz0 hz1 hz2 rfl (by decide) v ln (An L) hs
  (ho.alloc _) ⟨w1.heap.size,0,none⟩ 1 1 [.string ek,.int .i64 et,.int .i64 es1,.slice ad rl cap,.bool em] hx rfl (Db _ _ _ _ _ _ _) (by intro u hu;simp at hu;rcases hu with rfl|rfl|rfl|rfl|rfl<;>rfl) (by decide) (by unfold maxLen;omega) (by omega) (by simp;omega) (w1.heap.size+1) (by simp) h
end bf
namespace bf
open Go.ChangeShapes Go.WideShapes Go.ChangeAt Go.RowKit
open vl
attribute [local go_sem] Oper.semAt_some
def FF(b:Buf)(l:List Ent):Buf:=if b.lim<(l.length:Int)then⟨b.lim,[],b.runs++[l]⟩else⟨b.lim,l,b.runs⟩
theorem Yu(b:Buf)(x:BX)(e:EM)(y:Ent)(w:World)(h:bufAt w b x)(hw:∀y∈Ab b,wfE y/\wfP (Ay y))(hs:(Ab b).length<=4611686018427387904)(he:C4 b=0)(hr:ER w e y)(hy:wfE y)(hf:Ct y=true)(hh:hasB (Ab b) (Ay y)=false)(hm:(Ab b).length≠4096):
 Calls Tryz.prog 261 #[AN b x,e.val] w fun r w'=>(∃x' l',r= .returned (.tuple #[AN (FF b l') x',.int .i64 0])/\l'.Perm (b.mem++[y])/\J5 l'/\OB w' w.heap.size x' (FF b l'))/\Bwz w w':=by
 have KC:Hid (∀w1,Bwz w w1->CTz 39 #[AN b x] w1 fun e w'=>e= .returned (.int .i64 0)/\Bwz w1 w'):=fun w1 hb=>by
  have:=Bn b x w1 (Ai h hb) hw hs
  rwa[he]at this
 have KE:Hid (∀w1,Bwz w w1->CTz 183 #[e.val] w1 fun r w'=>r= .returned (.bool true)/\Bwz w1 w'):=fun w1 hb=>by
  have:=FN e y w1 (hr.below hb) hy
  rwa[hf]at this
 have KP:=hIz (fun(w1:World)=>FM e w1)
 have KH:Hid (∀w1,Bwz w w1->CTz 265 #[AN b x,.agg #[.string e.key,.int .i64 e.time,.int .i64 e.seq]] w1 fun r w'=>r= .returned (.bool false)/\Bwz w1 w'):=fun w1 hb=>by
  have k:=X6 b x (Ay y) w1 (Ai h hb)
  rw[hh]at k
  unfold B5 Ay at k
  rw[<-hr.key,<-hr.time,<-hr.seq]at k
  exact k
 have KS:=hIz (fun(w1:World) (hb:Bwz w w1)=>Ks b x w1 (Ai h hb) hs)
 have hok:=Df he
 have hsm:=hok.small
 have hml:=hsm.1 b.mem (List.mem_cons_self ..)
 have KK:Hid (∀w1,Bwz w w1->CTz 145 #[AN b x,.func (.func 59) #[] #[]] w1 fun r w'=>(∃x',r= .returned (AN b x')/\OB w' w1.heap.size x' b)/\Bwz w1 w'):=fun w1 hb=>by
  have k:=FI 59 (enters_of func59 (by kernel_rfl) rfl) #[] (fun _=>true) b x w1 (Ai h hb) hsm.1 hsm.2.1 hsm.2.2 (fun e y w2 _ _ _=>by rw[Array.append_empty];exact Fp e w2)
  rw[Hd hok]at k
  exact k
 have hyr:y.row.length<=1000000:=by
  have h1:=(IJ.1 hf).2.1
  unfold Au at h1
  by_cases h8:8<y.row.length
  ·rw[if_pos h8]at h1;cases h1
  ·omega
 have KF:=hIz (fun(w1:World) (hb:Bwz w w1)=>Fg e y w1 (hr.below hb) hyr)
 have HER:Hid (ER w e y):=hr
 obtain⟨N,hN⟩:=nM ((Ab b).length)
 rw[hN]at KS hm
 have hm':((N:Int)==4096)=false:=by simpa using(fun h=>hm (by omega):¬(N:Int)=4096)
 have HML:Hid (b.mem.length<=100000):=hml
 have hnr:b.runs.length<=100000:=hsm.2.1
 have HNR:Hid (b.runs.length<=100000):=hnr
 clear h hw hs he hr hy hf hh hm hok hsm hml hN hyr hnr
 obtain⟨ra,rc,⟨⟨m1,m2,m3⟩,ml⟩,rs⟩:=x
 obtain⟨lim,mem,runs⟩:=b
 obtain⟨ek,et,es,⟨r1,r2,r3⟩,em⟩:=e
 rw[show AN ⟨lim,mem,runs⟩ ⟨ra,rc,((m1,m2,m3),ml),rs⟩= .agg #[.int .i64 lim,.slice m1 m2 m3,.slice ra rs.length rc]from rfl]at KC KH KS KK⊢
 unfold EM.val EM.to hdV at KF
 unfold EM.val hdV at KE KP⊢
 dsimp only at KE KP KH KF⊢
 obtain⟨n,hn⟩:∃n,rs.length=n:=⟨_,rfl⟩
 rw[hn]at KC KH KS KK⊢
 clear hn
 obtain⟨rl,hrl⟩:=nM y.row.length
 have HRL:Hid (y.row.length=rl):=hrl
 rw[hrl]at KF
 clear hrl
 have hb0:Bwz w (((w.alloc (.cells #[.int .i64 lim,.slice m1 m2 m3,.slice ra n rc] 29)).alloc (.cells #[.string ek,.int .i64 et,.int .i64 es,.slice r1 r2 r3,.bool em] 63)).alloc (.cells #[.int .i64 0,.slice none 0 0,.slice none 0 0] 29)):=by
  repeat (first|exact bR|(refine Below.alloc ?_ (by simp<;>omega) _))
 have NBV:=Ht ((w.alloc (.cells #[.int .i64 lim,.slice m1 m2 m3,.slice ra n rc] 29)).alloc (.cells #[.string ek,.int .i64 et,.int .i64 es,.slice r1 r2 r3,.bool em] 63))
 rw[World.size_alloc,World.size_alloc]at NBV
 have HNB:Hid (nbAt (((w.alloc (.cells #[.int .i64 lim,.slice m1 m2 m3,.slice ra n rc] 29)).alloc (.cells #[.string ek,.int .i64 et,.int .i64 es,.slice r1 r2 r3,.bool em] 63)).alloc (.cells #[.int .i64 0,.slice none 0 0,.slice none 0 0] 29)) (w.heap.size+1+1)):=NBV
 clear NBV
 go_enter func261,ntmps261
 go_wp2_with (first
  |(go_at_call 39;refine(KC.out _ hb0).mono ?_;rintro e w2 ⟨rfl,hb2⟩;have hbw:Bwz w w2:=hb0.trans (hb2.mono hb0.size);have nb2:=BN hb2 HNB.out;have k0:w2.cell? ⟨w.heap.size,0,none⟩=some (.int .i64 lim):=cLz hb2 (by go_simp);have k1:w2.cell? ⟨w.heap.size,1,none⟩=some (.slice m1 m2 m3):=cLz hb2 (by go_simp);have k2:w2.cell? ⟨w.heap.size,2,none⟩=some (.slice ra n rc):=cLz hb2 (by go_simp);have d0:w2.cell? ⟨w.heap.size+1,0,none⟩=some (.string ek):=cLz hb2 (by go_simp);have d1:w2.cell? ⟨w.heap.size+1,1,none⟩=some (.int .i64 et):=cLz hb2 (by go_simp);have d2:w2.cell? ⟨w.heap.size+1,2,none⟩=some (.int .i64 es):=cLz hb2 (by go_simp);have d3:w2.cell? ⟨w.heap.size+1,3,none⟩=some (.slice r1 r2 r3):=cLz hb2 (by go_simp);have d4:w2.cell? ⟨w.heap.size+1,4,none⟩=some (.bool em):=cLz hb2 (by go_simp))
  |(go_at_call 183;refine(KE.out _ hbw).mono ?_;rintro e w3 ⟨rfl,hb3⟩;have nb3:=BN hb3 nb2;have hbx:Bwz w w3:=hbw.trans (hb3.mono hbw.size);have k0':w3.cell? ⟨w.heap.size,0,none⟩=some (.int .i64 lim):=cLz hb3 k0;have k1':w3.cell? ⟨w.heap.size,1,none⟩=some (.slice m1 m2 m3):=cLz hb3 k1;have k2':w3.cell? ⟨w.heap.size,2,none⟩=some (.slice ra n rc):=cLz hb3 k2;have d0':w3.cell? ⟨w.heap.size+1,0,none⟩=some (.string ek):=cLz hb3 d0;have d1':w3.cell? ⟨w.heap.size+1,1,none⟩=some (.int .i64 et):=cLz hb3 d1;have d2':w3.cell? ⟨w.heap.size+1,2,none⟩=some (.int .i64 es):=cLz hb3 d2;have d3':w3.cell? ⟨w.heap.size+1,3,none⟩=some (.slice r1 r2 r3):=cLz hb3 d3;have d4':w3.cell? ⟨w.heap.size+1,4,none⟩=some (.bool em):=cLz hb3 d4))
 go_region_law (first
  |(go_simp;go_at_call 186;refine(KP.out _).mono ?_;rintro e w4 ⟨rfl,hb4⟩;have hbX4:Bwz w w4:=hbx.drew.trans (hb4.mono hbx.size);have nb4:=BN hb4 (J9 nb3);have v0:w4.cell? ⟨w.heap.size+1,0,none⟩=some (.string ek):=cLz hb4 d0';have v1:w4.cell? ⟨w.heap.size+1,1,none⟩=some (.int .i64 et):=cLz hb4 d1';have v2:w4.cell? ⟨w.heap.size+1,2,none⟩=some (.int .i64 es):=cLz hb4 d2';have v3:w4.cell? ⟨w.heap.size+1,3,none⟩=some (.slice r1 r2 r3):=cLz hb4 d3';have v4:w4.cell? ⟨w.heap.size+1,4,none⟩=some (.bool em):=cLz hb4 d4';have u0:w4.cell? ⟨w.heap.size,0,none⟩=some (.int .i64 lim):=cLz hb4 (by go_simp);have u1:w4.cell? ⟨w.heap.size,1,none⟩=some (.slice m1 m2 m3):=cLz hb4 (by go_simp);have u2:w4.cell? ⟨w.heap.size,2,none⟩=some (.slice ra n rc):=cLz hb4 (by go_simp))
  |(go_simp;go_at_call 265;refine(KH.out _ hbX4).mono ?_;rintro e w5 ⟨rfl,hb5⟩;have nb5:=BN hb5 nb4;have hbX5:Bwz w w5:=hbX4.trans (hb5.mono hbX4.size);have x0:w5.cell? ⟨w.heap.size+1,0,none⟩=some (.string ek):=cLz hb5 v0;have x1:w5.cell? ⟨w.heap.size+1,1,none⟩=some (.int .i64 et):=cLz hb5 v1;have x2:w5.cell? ⟨w.heap.size+1,2,none⟩=some (.int .i64 es):=cLz hb5 v2;have x3:w5.cell? ⟨w.heap.size+1,3,none⟩=some (.slice r1 r2 r3):=cLz hb5 v3;have x4:w5.cell? ⟨w.heap.size+1,4,none⟩=some (.bool em):=cLz hb5 v4;have s0:w5.cell? ⟨w.heap.size,0,none⟩=some (.int .i64 lim):=cLz hb5 (by go_simp);have s1:w5.cell? ⟨w.heap.size,1,none⟩=some (.slice m1 m2 m3):=cLz hb5 (by go_simp);have s2:w5.cell? ⟨w.heap.size,2,none⟩=some (.slice ra n rc):=cLz hb5 (by go_simp)))
 all_goals
  go_wp2_with (first
   |(go_at_call 135;refine(KS.out _ hbX5).mono ?_;rintro e w6 ⟨rfl,hb6⟩;have nb6:=BN hb6 nb5;have hbX6:Bwz w w6:=hbX5.trans (hb6.mono hbX5.size);have t0:w6.cell? ⟨w.heap.size,0,none⟩=some (.int .i64 lim):=cLz hb6 s0;have t1:w6.cell? ⟨w.heap.size,1,none⟩=some (.slice m1 m2 m3):=cLz hb6 s1;have t2:w6.cell? ⟨w.heap.size,2,none⟩=some (.slice ra n rc):=cLz hb6 s2)
   |(go_at_call 145;refine(KK.out _ hbX6).mono ?_;rintro e w7 ⟨⟨⟨ra',rc',⟨⟨a1,a2,a3⟩,ml'⟩,rs'⟩,rfl,hob⟩,hb7⟩;have HOB:Hid (OB w7 w.heap.size ⟨ra',rc',((a1,a2,a3),ml'),rs'⟩ ⟨lim,mem,runs⟩):=Cw hob hbX6.size;rw[show AN ⟨lim,mem,runs⟩ ⟨ra',rc',((a1,a2,a3),ml'),rs'⟩= .agg #[.int .i64 lim,.slice a1 a2 a3,.slice ra' rs'.length rc']from rfl];have nb7:=BN hb7 nb6;have hbX7:Bwz w w7:=hbX6.trans (hb7.mono hbX6.size);obtain⟨rn,hrn⟩:=nM rs'.length;rw[hrn]))
  have q0:w7.cell? ⟨w.heap.size+1,0,none⟩=some (.string ek):=cLz hb7 (cLz hb6 x0)
  have q1:w7.cell? ⟨w.heap.size+1,1,none⟩=some (.int .i64 et):=cLz hb7 (cLz hb6 x1)
  have q2:w7.cell? ⟨w.heap.size+1,2,none⟩=some (.int .i64 es):=cLz hb7 (cLz hb6 x2)
  have q3:w7.cell? ⟨w.heap.size+1,3,none⟩=some (.slice r1 r2 r3):=cLz hb7 (cLz hb6 x3)
  have q4:w7.cell? ⟨w.heap.size+1,4,none⟩=some (.bool em):=cLz hb7 (cLz hb6 x4)
  have ha2:a2=ml'.length:=by
   obtain⟨ad,cp,hf⟩:=HOB.out.mem.form
   unfold hdV at hf
   injection hf with _ e2 _
  have hmm:ml'.length<=100000:=by rw[HOB.out.mem.len];exact HML.out
  have HRN:Hid (rs'.length=rn):=hrn
  have hrn9:rn<=100000:=by rw[<-hrn,HOB.out.rlen];exact HNR.out
  have HPS:Hid (PSt (w7.alloc (.cells #[.int .i64 lim,.slice a1 a2 a3,.slice ra' rn rc'] 29)) (w.heap.size+1+1) w7.heap.size w.heap.size ⟨ra',rc',((a1,a2,a3),ml'),rs'⟩ ⟨lim,mem,runs⟩):=by
   have k:=YR nb7 HOB.out (show w.heap.size<=w.heap.size+1+1 by omega)
   rw[<-hrn]
   exact k
  have hbV:Bwz w (w7.alloc (.cells #[.int .i64 lim,.slice a1 a2 a3,.slice ra' rn rc'] 29)):=hbX7.alloc hbX7.size _
  have hb7V:Bwz w7 (w7.alloc (.cells #[.int .i64 lim,.slice a1 a2 a3,.slice ra' rn rc'] 29)):=bR.alloc nR _
  have y0:=cLz hb7V q0
  have y1:=cLz hb7V q1
  have y2:=cLz hb7V q2
  have y3:=cLz hb7V q3
  have y4:=cLz hb7V q4
  have z1:(w7.alloc (.cells #[.int .i64 lim,.slice a1 a2 a3,.slice ra' rn rc'] 29)).cell? ⟨w7.heap.size,1,none⟩=some (.slice a1 a2 a3):=HPS.out.k.c1
  have lNB:w7.heap.size<(w7.alloc (.cells #[.int .i64 lim,.slice a1 a2 a3,.slice ra' rn rc'] 29)).heap.size:=by simp
  have lw7:w.heap.size+1<w7.heap.size:=bLt _ _ q0
  clear s0 s1 s2 t0 t1 t2 u0 u1 u2 q0 q1 q2 q3 q4 nb3 nb4 nb5 nb6 nb7 hrn x0 x1 x2 x3 x4 v0 v1 v2 v3 v4
  subst ha2
  obtain⟨mn,hmn⟩:=nM ml'.length
  have HMN:Hid (ml'.length=mn):=hmn
  rw[hmn]at hmm z1 HPS y0 y1 y2 y3 y4 hbV hb7V lNB⊢
  clear hmn
  generalize hVV:w7.alloc (.cells #[.int .i64 lim,.slice a1 mn a3,.slice ra' rn rc'] 29)=V at *
  obtain⟨i0,hi0,hz0,hz1,hz2⟩:=info_parts Yb
  have HI:Hid (Tryz.prog.info? 26=some i0/\i0.zero=some (.slice none 0 0)/\i0.size=1/\i0.bytes=24):=⟨hi0,hz0,hz1,hz2⟩
  clear hi0 hz0 hz1 hz2
  go_region_law (first
   |(refine Sv (by rfl) (.tmp 30) (.tmp 33) (by rfl) w.heap.size (.slice a1 mn a3) ml' ek et es ad9 rl c9 em w9 mn HO9.out (by omega) (Nat.le_trans hbV.size hbV9.size) (by simp[Act.eval,Act.put]) (by simp[Act.eval,Act.put]) ?_;intro g10 c10 w10 hown10 hgrow10 hat10 hlt10;have hmid:=WE HPS.out hbV9 hgrow10;obtain⟨p1,pf⟩:=hmid;unfold hdV at p1;dsimp only at p1)
   |(go_simp;go_at_call 114;refine(KF.out _ hbV.drew).mono ?_;rintro e w9 ⟨⟨ad9,c9,rfl,hov⟩,hb9⟩;have hbV9:Bwz V w9:=bR.drew.trans hb9;have n1:w9.cell? ⟨w7.heap.size,1,none⟩=some (.slice a1 mn a3):=cLz hbV9 z1;have HO9:Hid (w9.ownsRow w.heap.size 63 5 (.slice a1 mn a3) mn (An ml')):=(by have k:=own_below HPS.out.k.ob.mem.own hbV9;dsimp only at k;rw[HMN.out]at k;exact k);have ln9:w7.heap.size<w9.heap.size:=Nat.lt_of_lt_of_le lNB hbV9.size))
  all_goals
   have HAP:=WF (e:=⟨ek,et,es,(ad9,rl,c9),em⟩) (y:=y) (g:=g10) (c4:=c10) HPS.out hbV9 ⟨HER.out.key,HER.out.time,HER.out.seq,HER.out.met,HRL.out.symm,by unfold hdV;dsimp only;exact C5 hov hbV.size⟩ (by dsimp only;rw[HMN.out];exact hown10) hgrow10 hat10
   dsimp only at HAP
   rw[HMN.out]at HAP
   obtain⟨P2,B2⟩:=HAP
   generalize w10.setCell ⟨w7.heap.size,1,none⟩ (.slice (some ⟨g10,0,none⟩) (mn+1) c10)=W2 at *
   have hbW2:Bwz w W2:=hbV.trans B2
   have HP2:Hid (PSt W2 (w.heap.size+1+1) w7.heap.size w.heap.size ⟨ra',rc',((some ⟨g10,0,none⟩,mn+1,c10),ml'++[⟨ek,et,es,(ad9,rl,c9),em⟩]),rs'⟩ ⟨lim,mem++[y],runs⟩):=P2
   have KSr:Hid (CTz 115 #[.slice (some ⟨g10,0,none⟩) (mn+1) c10,.func (.func 116) #[] #[]] W2 fun e w'=>e= .returned (.tuple #[])/\∃es' l',l'.Perm (mem++[y])/\(∀i j,i<j->j<l'.length->¬ltP (l'.getD j default) (l'.getD i default))/\OE w' w.heap.size (.slice (some ⟨g10,0,none⟩) (mn+1) c10) es' l'/\Below w.heap.size W2 w'/\(∀b,b<W2.heap.size->(Value.slice (some ⟨g10,0,none⟩) (mn+1) c10).ownBlock≠some b->w'.heap[b]? =W2.heap[b]?)):=Pq w.heap.size _ _ _ W2 P2.k.ob.mem (by rw[lAp,HMN.out];simp;omega)
   have c1:W2.cell? ⟨w7.heap.size,1,none⟩=some (.slice (some ⟨g10,0,none⟩) (mn+1) c10):=P2.k.c1
   have HLEN:Hid (mem.length=mn):=by show _=_;rw[<-HMN.out,HOB.out.mem.len]
   clear P2 y0 y1 y2 y3 y4 z1 hown10 hgrow10 hov p1 pf n1 HO9
   by_cases hlim:lim<(mn:Int)+1
   ·go_wp2_with (first
     |(go_at_call 115;refine KSr.out.mono ?_;rintro e w11 ⟨rfl,es2,l2,hp2,hs2,hoe2,hb11,hk11⟩;have P3:=Pw HP2.out hoe2 hb11.size hk11;dsimp only at P3;have HP3:Hid (PSt w11 (w.heap.size+1+1) w7.heap.size w.heap.size ⟨ra',rc',((some ⟨g10,0,none⟩,mn+1,c10),es2),rs'⟩ ⟨lim,l2,runs⟩):=P3;have i0':w11.cell? ⟨w7.heap.size,0,none⟩=some (.int .i64 lim):=P3.k.c0;have i1':w11.cell? ⟨w7.heap.size,1,none⟩=some (.slice (some ⟨g10,0,none⟩) (mn+1) c10):=P3.k.c1;have i2':w11.cell? ⟨w7.heap.size,2,none⟩=some (.slice ra' rn rc'):=(by have k:=P3.k.c2;dsimp only at k;rw[HRN.out]at k;exact k);have j0:=P3.k.r0;have j1:=P3.k.r1;have j2:=P3.k.r2;have g0:=P3.k.g0;have g1:=P3.k.g1;have g2:=P3.k.g2;have fz1:=P3.f1;have fz2:=P3.k.f2;have HOH:Hid (w11.ownsRow w.heap.size 26 1 (.slice ra' rn rc') rn (rs'.map fun p=>hdV p.1)):=(by have k:=P3.k.ob.hds;dsimp only at k;rw[HRN.out]at k;exact k);have hsz11:w.heap.size<=w11.heap.size:=Nat.le_trans hbW2.size hb11.size;have lN11:w7.heap.size<w11.heap.size:=bLt _ _ i0';have lC11:w.heap.size+1+1<w11.heap.size:=bLt _ _ j0;clear P3)
     |(at_builtin;refine wpList_append_own _ rfl (.tmp 46) (.tmp 49) 27 rfl w.heap.size 26 i0 (.slice none 0 0) 1 24 underlying27 HI.out.1 HI.out.2.1 HI.out.2.2.1 HI.out.2.2.2 rfl (by decide) _ _ _ rfl (World.ownsRow.alloc HOH.out _) ⟨w11.heap.size,0,none⟩ 1 1 [.slice (some ⟨g10,0,none⟩) (mn+1) c10] rfl rfl (cell_one_new _ _ rfl _) (by intro u hu;simp at hu;rcases hu with rfl;rfl) (by unfold maxLen;omega) (by omega) (by simp;omega) ?_;intro v12 w12 hown12 hgrow12 hnil12;obtain⟨g12,c12,hv12⟩:=Kf hown12;subst hv12;have hm2:=Oa HP3.out (by dsimp only;rw[HRN.out];exact hgrow12);obtain⟨_,eN,eC,_⟩:=hm2;have aa0:=(cOb (a:=⟨w7.heap.size,0,none⟩) eN).trans i0';have aa1:=(cOb (a:=⟨w7.heap.size,1,none⟩) eN).trans i1';have aa2:=(cOb (a:=⟨w7.heap.size,2,none⟩) eN).trans i2';have af1:=(AC (p:=⟨w7.heap.size,1,none⟩) eN).trans fz1;have af2:=(AC (p:=⟨w7.heap.size,2,none⟩) eN).trans fz2;have ac0:=(cOb (a:=⟨w.heap.size+1+1,0,none⟩) eC).trans j0;have ac1:=(cOb (a:=⟨w.heap.size+1+1,1,none⟩) eC).trans j1;have ac2:=(cOb (a:=⟨w.heap.size+1+1,2,none⟩) eC).trans j2;have ag0:=(AC (p:=⟨w.heap.size+1+1,0,none⟩) eC).trans g0;have ag1:=(AC (p:=⟨w.heap.size+1+1,1,none⟩) eC).trans g1;have ag2:=(AC (p:=⟨w.heap.size+1+1,2,none⟩) eC).trans g2;have hne7:w.heap.size+1+1≠w7.heap.size:=Nat.ne_of_lt HP3.out.k.ne))
    have hl2:l2.length=mn+1:=by rw[hp2.length_eq,lAp,HLEN.out];rfl
    have hput:FF ⟨lim,mem,runs⟩ l2=⟨lim,[],runs++[l2]⟩:=by unfold FF;rw[if_pos (by dsimp only;rw[hl2];push_cast;omega)]
    have HMV:=Uy (g:=g12) (cap2:=c12) HP3.out (by dsimp only;rw[HRN.out];exact hown12) (by dsimp only;rw[HRN.out];exact hgrow12)
    dsimp only at HMV
    rw[HRN.out]at HMV
    have hbE:=(hbW2.trans hb11).trans HMV.2
    refine bodyPost_ret (v:=.tuple #[.agg #[.int .i64 lim,.slice none 0 0,.slice (some ⟨g12,0,none⟩) (rn+1) c12],.int .i64 0]) (by simp[results,results261,go_sem,ac0,ac1,ac2,hne7]) rfl ⟨⟨⟨some ⟨g12,0,none⟩,c12,((none,0,0),[]),rs'++[((some ⟨g10,0,none⟩,mn+1,c10),es2)]⟩,l2,?_,hp2,hs2,?_⟩,?_⟩
    ·rw[hput];unfold AN hdV;dsimp only;rw[lAp,HRN.out];rfl
    ·rw[hput];exact JA HMV.1.k.ob HMV.1.k.rt _ _ _
    ·exact((hbE.setCell (by dsimp only;omega) _).setCell (by dsimp only;omega) _).setCell (by dsimp only;omega) _
   ·go_wp2_with (go_at_call 115;refine KSr.out.mono ?_;rintro e w11 ⟨rfl,es2,l2,hp2,hs2,hoe2,hb11,hk11⟩;have P3:=Pw HP2.out hoe2 hb11.size hk11;dsimp only at P3;have HP3:Hid (PSt w11 (w.heap.size+1+1) w7.heap.size w.heap.size ⟨ra',rc',((some ⟨g10,0,none⟩,mn+1,c10),es2),rs'⟩ ⟨lim,l2,runs⟩):=P3;have i0':w11.cell? ⟨w7.heap.size,0,none⟩=some (.int .i64 lim):=P3.k.c0;have i1':w11.cell? ⟨w7.heap.size,1,none⟩=some (.slice (some ⟨g10,0,none⟩) (mn+1) c10):=P3.k.c1;have i2':w11.cell? ⟨w7.heap.size,2,none⟩=some (.slice ra' rn rc'):=(by have k:=P3.k.c2;dsimp only at k;rw[HRN.out]at k;exact k);have j0:=P3.k.r0;have j1:=P3.k.r1;have j2:=P3.k.r2;have g0:=P3.k.g0;have g1:=P3.k.g1;have g2:=P3.k.g2;clear P3)
    have hl2:l2.length=mn+1:=by rw[hp2.length_eq,lAp,HLEN.out];rfl
    have hbE:Bwz w w11:=hbW2.trans hb11
    have hput:FF ⟨lim,mem,runs⟩ l2=⟨lim,l2,runs⟩:=by unfold FF;rw[if_neg (by dsimp only;rw[hl2];push_cast;omega)]
    refine bodyPost_ret (v:=.tuple #[.agg #[.int .i64 lim,.slice (some ⟨g10,0,none⟩) (mn+1) c10,.slice ra' rn rc'],.int .i64 0]) (by simp[results,results261,go_sem,j0,j1,j2]) rfl ⟨⟨⟨ra',rc',((some ⟨g10,0,none⟩,mn+1,c10),es2),rs'⟩,l2,?_,hp2,hs2,?_⟩,?_⟩
    ·rw[hput];unfold AN hdV;dsimp only;rw[HRN.out]
    ·rw[hput];exact JA HP3.out.k.ob HP3.out.k.rt _ _ _
    ·exact((hbE.setCell (by dsimp only;omega) _).setCell (by dsimp only;omega) _).setCell (by dsimp only;omega) _
end bf
namespace bf
open Go.ChangeShapes Go.WideShapes Go.ChangeAt Go.RowKit
open vl
variable {w : World} {base cap g i j k n : Nat} {e : TypeId} {xs : List Value} {v : Value} {b : Buf} {hs : List Hdr} {x : BX}
theorem Gf{size:Nat}(h:w.ownsRow base e size (.slice (some ⟨g,0,none⟩) n cap) n xs)(j:Nat)(hj:j<n * size)(x:Value):(w.setCell ⟨g,j,none⟩ x).ownsRow base e size (.slice (some ⟨g,0,none⟩) n cap) n (xs.set j x):=by
 refine⟨by rw[List.length_set];exact h.1,?_⟩
 rcases h.2 with⟨hv,_⟩|⟨g',cap',cur,hv,h1,hg,h2,h3,h4,h5⟩
 ·cases hv
 ·cases hv
  have hm:n * size<=cap * size:=Nat.mul_le_mul_right _ h2
  refine .inr ⟨g,cap,cur.setIfInBounds j x,rfl,h1,?_,h2,h3,by rw[Array.size_setIfInBounds];exact h4,?_⟩
  ·rw[setCell_eq_setRow w g j cur e (0,0) x hg]
   exact setRow_heap w g cur _ e _ hg
  ·rw[Array.toList_setIfInBounds,<-h5,List.take_set]
def EM.meet(e:EM):EM:=⟨e.key,e.time,e.seq,e.row,true⟩
def Ent.meet(x:Ent):Ent:=⟨x.key,x.time,x.seq,x.row,true⟩
theorem GD:∀(l:List EM) (i:Nat),i<l.length->(An l).set (i * 5+4) (.bool true)=An (l.set i (l.getD i default).meet)
 |[],i,h=>absurd h (Nat.not_lt_zero i)
 |e::l,0,_=>rfl
 |e::l,i+1,h=>by
  have ih:=GD l i (by simpa using h)
  have e1:An (e::l)= .string e.key:: .int .i64 e.time:: .int .i64 e.seq::hdV e.row:: .bool e.met::An l:=rfl
  rw[e1,show(i+1) * 5+4=(i * 5+4)+1+1+1+1+1 by omega]
  simp only[sSz,ih,List.getD_cons_succ]
  rfl
theorem CV{α:Type}{l:List α}{a d:α}(h:i<l.length):(l.set i a).getD i d=a:=by
 simp[gDe,h]
theorem Dz{α:Type}{l:List α}{a d:α}(h:i≠j):(l.set i a).getD j d=l.getD j d:=by
 simp[gDe,List.getElem?_set_ne h]
theorem Yv{es:List EM}{l:List Ent}(h:OE w base (.slice (some ⟨g,0,none⟩) es.length cap) es l)(hi:i<l.length):
 OE (w.setCell ⟨g,i * 5+4,none⟩ (.bool true)) base (.slice (some ⟨g,0,none⟩) es.length cap) (es.set i (es.getD i default).meet) (l.set i (l.getD i default).meet):=by
 have hie:i<es.length:=by rw[h.len];exact hi
 refine⟨by simpa[World.setCell]using h.low,?_,by rw[List.length_set,List.length_set,h.len],fun j hj=>?_⟩
 ·rw[List.length_set,<-GD es i hie]
  exact Gf h.own _ (by omega) _
 ·rw[List.length_set]at hj
  have keep:∀{e:EM} {x:Ent},OR w base e x->OR (w.setCell ⟨g,i * 5+4,none⟩ (.bool true)) base e x:=fun {e x} k=>by
   obtain⟨a1,a2,a3,a4,a5,a6⟩:=k
   exact⟨a1,a2,a3,a4,a5,A0 a6 (fun b hb=>heap_setCell_other _ _ _ _ (fun e=>Gy h.own a6 (by decide) (show(Value.slice (some ⟨g,0,none⟩) es.length cap).ownBlock=some b by rw[e];rfl) hb))⟩
  by_cases e:i=j
  ·subst e
   rw[CV hie,CV hi]
   obtain⟨a1,a2,a3,a4,a5,a6⟩:=keep (h.rows i hi)
   exact⟨a1,a2,a3,rfl,a5,a6⟩
  ·rw[Dz e,Dz e]
   exact keep (h.rows j hj)
theorem WG{base':Nat}{es es0:List EM}{l l0:List Ent}(h:OE w base v es l)(hg:OE w base' (.slice (some ⟨g,0,none⟩) n cap) es0 l0)(hap:v.ownBlock≠some g)(u:Value):OE (w.setCell ⟨g,j,none⟩ u) base v es l:=
 h.same (by simp[World.setCell]) (fun b cur t hb ht=>heap_setCell_other _ _ _ _ (fun e=>by
  dsimp only at e
  rcases ht with⟨hv,_⟩|ht
  ·exact hap (by rw[<-e];exact hv)
  ·subst ht
   exact tyAt_apart (A8 hg.own (show(Value.slice (some ⟨g,0,none⟩) n cap).ownBlock=some b by rw[e];rfl)) ⟨_,_,hb⟩ (by decide) rfl))
def hd0:Hdr:=(none,0,0)
structure OP(w:World)(base:Nat)(hs:List Hdr)(ess:List (List EM))(ls:List (List Ent)):Prop where
 low:base<=w.heap.size
 l1:ess.length=hs.length
 l2:ls.length=hs.length
 oe:∀k,k<hs.length->OE w base (hdV (hs.getD k hd0)) (ess.getD k []) (ls.getD k [])
 two:(hs.map hdV).Pairwise apB
theorem JZ{a b:Value}(h:apB a b):apB b a:=fun g h1 h2=>h g h2 h1
theorem OP.apart{ess:List (List EM)}{ls:List (List Ent)}(h:OP w base hs ess ls)(hj:j<hs.length)(hk:k<hs.length)(hne:j≠k):apB (hdV (hs.getD j hd0)) (hdV (hs.getD k hd0)):=by
 have hp:=List.pairwise_iff_getElem.1 h.two
 have e:∀i (hi:i<hs.length),hdV (hs.getD i hd0)=(hs.map hdV)[i]'(by rw[lMp];exact hi):=fun i hi=>by
  rw[List.getElem_map,gDe,gEe hi];rfl
 rw[e j hj,e k hk]
 rcases Nat.lt_or_gt_of_ne hne with h1|h1
 ·exact hp _ _ _ _ h1
 ·exact JZ (hp _ _ _ _ h1)
theorem Ka{h:Hdr}{es:List EM}{l:List Ent}(ho:OE w base (hdV h) es l)(hl:0<l.length):∃g,h=(some ⟨g,0,none⟩,es.length,h.2.2):=by
 obtain⟨a,n,c⟩:=h
 rcases ho.own.2 with⟨_,h0⟩|⟨g,cap,cur,hv,_⟩
 ·rw[<-ho.len,h0]at hl;exact absurd hl (Nat.lt_irrefl _)
 ·unfold hdV at hv
  injection hv with e1 e2 e3
  dsimp only at e1 e2
  subst e1 e2
  exact⟨g,rfl⟩
theorem Yw{ess:List (List EM)}{ls:List (List Ent)}(h:OP w base hs ess ls)(hk:k<hs.length)(hi:i<(ls.getD k []).length)(hg:(hs.getD k hd0).1=some ⟨g,0,none⟩):
 OP (w.setCell ⟨g,i * 5+4,none⟩ (.bool true)) base hs (ess.set k ((ess.getD k []).set i ((ess.getD k []).getD i default).meet)) (ls.set k ((ls.getD k []).set i ((ls.getD k []).getD i default).meet)):=by
 have hok:=h.oe k hk
 obtain⟨g',hh⟩:=Ka hok (by omega)
 have eg:g'=g:=by rw[hh]at hg;cases hg;rfl
 subst eg
 have hv:hdV (hs.getD k hd0)= .slice (some ⟨g',0,none⟩) (ess.getD k []).length (hs.getD k hd0).2.2:=by rw[hh];rfl
 have hok2:=hok
 rw[hv]at hok2
 refine⟨by simpa[World.setCell]using h.low,by rw[List.length_set];exact h.l1,by rw[List.length_set];exact h.l2,fun j hj=>?_,h.two⟩
 by_cases e:k=j
 ·subst e
  rw[CV (by rw[h.l1];exact hk),CV (by rw[h.l2];exact hk),hv]
  exact Yv hok2 hi
 ·rw[Dz e,Dz e]
  refine WG (h.oe j hj) hok2 (fun e2=>?_) _
  have:=h.apart hj hk (fun e'=>e e'.symm) g' e2
  rw[hv]at this
  exact this rfl
theorem OP.below{w':World}{ess:List (List EM)}{ls:List (List Ent)}(h:OP w base hs ess ls)(hb:Bwz w w'):OP w' base hs ess ls:=
 ⟨Nat.le_trans h.low hb.size,h.l1,h.l2,fun k hk=>(h.oe k hk).below hb,h.two⟩
theorem YY(h:OB w base x b):OP w base ((x.m::x.rs).map (·.1)) ((x.m::x.rs).map (·.2)) (partsB b):=by
 refine⟨h.low,by simp,by simp[partsB,h.rlen],fun k hk=>?_,by rw[List.map_map];exact h.two⟩
 cases k with
 |zero=>exact h.mem
 |succ k=>
  have hk':k<x.rs.length:=by simpa using hk
  have hr:=h.runs k (by rw[<-h.rlen];exact hk')
  have e1:((x.m::x.rs).map (·.1)).getD (k+1) hd0=(x.rs.getD k default).1:=by
   simp[gDe,hk']
  have e2:((x.m::x.rs).map (·.2)).getD (k+1) []=(x.rs.getD k default).2:=by
   simp[gDe,hk']
  have e3:(partsB b).getD (k+1) []=b.runs.getD k default:=by
   unfold partsB;rw[List.getD_cons_succ];rfl
  rw[e1,e2,e3]
  exact hr
theorem Mo{s:Nat}(h:w.ownsRow base e s v n xs):n<=maxLen:=by
 rcases h.2 with⟨_,h0⟩|⟨g,cap,cur,_,_,_,h2,h3,_⟩
 ·rw[h0];exact Nat.zero_le _
 ·exact Nat.le_trans h2 h3
theorem Cv{p:Part}{l:List Ent}(h:OE w base (hdV p.1) p.2 l):(p.1.2.1=p.2.length/\p.2.length<=9223372036854775807)/\BD w p.1.1 p.2:=by
 obtain⟨⟨a,n,c⟩,es⟩:=p
 have hn:n=es.length:=by
  obtain⟨ad,cp,hf⟩:=h.form
  unfold hdV at hf
  injection hf with _ e2 _
 subst hn
 refine⟨⟨rfl,?_⟩,?_⟩
 ·have:=Mo h.own
  unfold maxLen at this
  dsimp only at this⊢
  omega
 ·exact OE.at h
theorem OB.at(h:OB w base x b):bufAt w b x:=by
 have hp:∀p∈x.m::x.rs,∃l,OE w base (hdV p.1) p.2 l:=fun p hp=>by
  rcases List.mem_cons.1 hp with rfl|hp
  ·exact⟨_,h.mem⟩
  ·obtain⟨i,_,_,hr⟩:=h.run hp
   exact⟨_,hr⟩
 refine⟨fun i hi=>?_,fun p hpm=>?_,fun p hpm=>?_,?_,h.mem.ers,h.rlen,fun i hi=>(h.runs i hi).ers⟩
 ·rw[lMp]at hi
  rcases h.hds.2 with⟨_,h0⟩|⟨g,cap,cur,hv,_⟩
  ·omega
  ·injection hv with e1 _ _
   refine⟨g,0,e1,?_⟩
   have hc:=World.ownsRow.cells h.hds (g:=g) (by rw[e1];rfl) i (hdV (x.rs[i]).1) (by rw[List.getElem?_map,gEe hi];rfl)
   rw[Cl]at hc
   rw[gDe,List.getElem?_map,gEe hi]
   exact hc
 ·obtain⟨l,ho⟩:=hp p hpm
  exact(Cv ho).1
 ·obtain⟨l,ho⟩:=hp p hpm
  exact(Cv ho).2
 ·have:=Mo h.hds
  unfold maxLen at this
  omega
end bf
end Go.Proofs.YtdohnkkbkfhphaaGreat
