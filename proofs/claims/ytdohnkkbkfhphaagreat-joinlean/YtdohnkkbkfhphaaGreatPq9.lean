import Derived.Test.YtdohnkkbkfhphaaGreatPq8
set_option linter.all false
set_option maxHeartbeats 8000000
namespace Go.Proofs.YtdohnkkbkfhphaaGreat
open Go.Proofs.Tryz
namespace bf
open Go.ChangeShapes Go.WideShapes Go.ChangeAt Go.RowKit
open vl
variable {l : List Ent} {W w w' : World} {C NB b base cap2 g : Nat} {t : TypeId} {v : Value} {p : Part}
theorem D7(w:World)(a b c d e:Value)(t:TypeId):∀j u,[a,b,c,d,e][j]? =some u->(w.alloc (.cells #[a,b,c,d,e] t)).cell? ((⟨w.heap.size,0,none⟩:Addr).add j)=some u:=by
 intro j u hu
 rw[C9]
 match j,hu with
 |0,hu=>simp at hu;subst hu;simp[go_sem]
 |1,hu=>simp at hu;subst hu;simp[go_sem]
 |2,hu=>simp at hu;subst hu;simp[go_sem]
 |3,hu=>simp at hu;subst hu;simp[go_sem]
 |4,hu=>simp at hu;subst hu;simp[go_sem]
 |(n+5),hu=>simp at hu
theorem IF{P:Ent->Bool}{k:Nat}(h:k<l.length):(l.take (k+1)).filter P=(l.take k).filter P++(if P (l.getD k default)=true then [l.getD k default]else []):=by
 rw[List.take_succ_eq_append_getElem h,List.filter_append]
 have e:l.getD k default=l[k]:=by rw[gDe,gEe h];rfl
 rw[e]
 congr 1
 simp only[List.filter_cons,List.filter_nil]
theorem Pz(fn:FuncId)(eg:∀args w,(callFunc fn args).run Tryz.prog w= .ok (.enter fn args) w)(caps:Array Value)(P:Ent->Bool)(a:Option Addr)(cap:Nat)(es:List EM)(l:List Ent)(w:World)(hl:l.length<=100000)(ha:Do w a es)(hr:ERs w es l)(hrow:∀x∈l,x.row.length<=1000000)
 (H:∀i w1,i<l.length->Bwz w w1->Calls Tryz.prog fn (#[(es.getD i default).val]++caps) w1 fun e w'=>e= .returned (.bool (P (l.getD i default)))/\Bwz w1 w'):
 Calls Tryz.prog 189 #[.slice a l.length cap,.func (.func fn) #[] caps] w fun e w'=>(∃v es',e= .returned v/\OE w' w.heap.size v es' (l.filter P))/\Bwz w w':=by
 obtain⟨i0,hi0,hz0,hz1,hz2⟩:=info_parts PO
 have HI:Hid (Tryz.prog.info? 63=some i0/\i0.zero=some (.agg #[.string ⟨#[]⟩,.int .i64 0,.int .i64 0,.slice none 0 0,.bool false])/\i0.size=5/\i0.bytes=64):=⟨hi0,hz0,hz1,hz2⟩
 clear hi0 hz0 hz1 hz2
 have HH:Hid (∀i w1,i<l.length->Bwz w w1->Calls Tryz.prog fn (#[(es.getD i default).val]++caps) w1 fun e w'=>e= .returned (.bool (P (l.getD i default)))/\Bwz w1 w'):=H
 have HR:Hid (Do w a es/\ERs w es l/\∀x∈l,x.row.length<=1000000):=⟨ha,hr,hrow⟩
 clear H ha hr hrow
 obtain⟨n,hn⟩:∃n,l.length=n:=⟨_,rfl⟩
 have HN:Hid (l.length=n):=hn
 rw[hn]at hl⊢
 clear hn
 go_enter func189,ntmps189
 go_wp2
 go_loopw [5,10] (fun x i wr=> ∃(k:Nat) (es':List EM),k<=n/\i= .int .i64 k/\OE wr w.heap.size x es' ((l.take k).filter P)/\Bwz w wr) (fun _ i _=>n - (intOf i).toNat)
 case atStart=>exact⟨0,[],Nat.zero_le _,rfl,De nR,bR⟩
 case round=>
  obtain⟨k,es',hk,rfl,hoe,hnx⟩:=hrel
  have HOE:Hid (OE wr w.heap.size u5 es' ((l.take k).filter P)):=hoe
  clear hoe
  by_cases hlt:k<n
  ·have hkl:k<l.length:=by rw[HN.out];exact hlt
   obtain⟨b,o,e,x1,x2,x3,x4,x5⟩:=HR.out.1 k (by rw[HR.out.2.1.1];exact hkl)
   subst e
   have q1:=cLz hnx x1
   have q2:=cLz hnx x2
   have q3:=cLz hnx x3
   have q4:=cLz hnx x4
   have q5:=cLz hnx x5
   clear x1 x2 x3 x4 x5
   have i1:(0:Int)<=(k:Int):=by omega
   have i2:(k:Int)<(n:Int):=by omega
   have KK:Hid (∀w1,Bwz wr w1->Calls Tryz.prog fn (#[(es.getD k default).val]++caps) w1 fun e w'=>e= .returned (.bool (P (l.getD k default)))/\Bwz w1 w'):=fun w1 hb=>HH.out k w1 hkl (hnx.trans (hb.mono hnx.size))
   have her:ER w (es.getD k default) (l.getD k default):=HR.out.2.1.2 k hkl
   have hrl:(l.getD k default).row.length<=1000000:=HR.out.2.2 _ (by rw[gDe,gEe hkl];exact List.getElem_mem hkl)
   have KF:Hid (∀w1,Bwz wr w1->Calls Tryz.prog 114 #[(es.getD k default).val] w1 fun r w'=>(∃ad c,r= .returned ((es.getD k default).to (ad,(l.getD k default).row.length,c)).val/\AM w' w1.heap.size (.slice ad (l.getD k default).row.length c) (l.getD k default).row)/\Bwz w1 w'):=fun w1 hb=>EH _ _ w1 (her.below (hnx.trans (hb.mono hnx.size))) hrl
   have HF:Hid ((l.take (k+1)).filter P=(l.take k).filter P++(if P (l.getD k default)=true then [l.getD k default]else [])):=IF hkl
   have HER:Hid (ER w (es.getD k default) (l.getD k default)):=her
   have hel:es'.length<=100000:=by
    have h1:=HOE.out.len
    have h2:=List.length_filter_le P (l.take k)
    rw[List.length_take]at h2
    omega
   obtain⟨xx,hxx⟩:=nM (l.getD k default)
   rw[hxx]at KK KF HF HER
   obtain⟨⟨ek,et,es1,⟨r1,r2,r3⟩,em⟩,hz⟩:∃z,es.getD k default=z:=⟨_,rfl⟩
   rw[hz]at q1 q2 q3 q4 q5 KK KF HER
   unfold EM.val EM.to hdV at KF
   unfold EM.val hdV at KK
   unfold hdV at q4
   dsimp only at q1 q2 q3 q4 q5 KK KF
   clear hz hxx her hrl
   have hsz:=hnx.size
   obtain⟨rl,hrl⟩:=nM xx.row.length
   have HRL:Hid (xx.row.length=rl):=hrl
   rw[hrl]at KF
   clear hrl
   cases hp:P xx with
   |false=>
    rw[hp]at KK HF
    go_wp2_with (go_at_fn fn;refine(KK.out _ (bR.alloc nR _)).mono ?_;rintro e w1 ⟨rfl,hb1⟩;have hbx:Bwz wr w1:=(bR.alloc nR _).trans (hb1.mono (by simp)))
    go_roundw
    case rel=>exact⟨k+1,es',by omega,by go_num,by rw[HF.out];simpa using HOE.out.below hbx,hnx.trans (hbx.mono hsz)⟩
    case measure=>simp[intOf];omega
   |true=>
    rw[hp]at KK HF
    obtain⟨en,hen⟩:=nM es'.length
    have HEN:Hid (es'.length=en):=hen
    rw[hen]at hel
    clear hen
    go_wp2_with (first
     |(go_at_fn fn;refine(KK.out _ (bR.alloc nR _)).mono ?_;rintro e w1 ⟨rfl,hb1⟩;have hbx:Bwz wr w1:=(bR.alloc nR _).trans (hb1.mono (by simp));have y1:w1.cell? ⟨wr.heap.size,0,none⟩=some (.string ek):=cLz hb1 (by go_simp);have y2:w1.cell? ⟨wr.heap.size,1,none⟩=some (.int .i64 et):=cLz hb1 (by go_simp);have y3:w1.cell? ⟨wr.heap.size,2,none⟩=some (.int .i64 es1):=cLz hb1 (by go_simp);have y4:w1.cell? ⟨wr.heap.size,3,none⟩=some (.slice r1 r2 r3):=cLz hb1 (by go_simp);have y5:w1.cell? ⟨wr.heap.size,4,none⟩=some (.bool em):=cLz hb1 (by go_simp))
     |(go_at_call 114;refine(KF.out _ hbx).mono ?_;rintro e w2 ⟨⟨ad2,c2,rfl,hov⟩,hb2⟩;have hb12:Bwz wr w2:=hbx.trans (hb2.mono hbx.size);have HO2:Hid (w2.ownsRow w.heap.size 63 5 u5 en (Ar es')):=(by have h:=own_below HOE.out.own hb12;rw[HEN.out]at h;exact h);have hs2:w.heap.size<=w2.heap.size:=Nat.le_trans hsz hb12.size)
     |(at_builtin;refine wpList_append_own _ rfl (.tmp 17) (.tmp 20) 26 rfl w.heap.size 63 i0 (.agg #[.string ⟨#[]⟩,.int .i64 0,.int .i64 0,.slice none 0 0,.bool false]) 5 64 underlying26 HI.out.1 HI.out.2.1 HI.out.2.2.1 HI.out.2.2.2 rfl (by decide) _ _ _ rfl (World.ownsRow.alloc HO2.out _) ⟨w2.heap.size,0,none⟩ 1 1 [.string ek,.int .i64 et,.int .i64 es1,.slice ad2 rl c2,.bool em] rfl rfl (D7 _ _ _ _ _ _ _) (by intro u hu;simp at hu;rcases hu with rfl|rfl|rfl|rfl|rfl<;>rfl) (by unfold maxLen;omega) (by omega) (by simp;omega) ?_;intro v3 w3 hown3 hgrow3 hnil3))
    obtain⟨g3,c3,hv3⟩:∃g c,v3= .slice (some ⟨g,0,none⟩) (en+1) c:=by
     rcases hown3.2 with⟨_,h0⟩|⟨g,cap,cur,rfl,_⟩
     ·exact absurd h0 (by omega)
     ·exact⟨_,_,rfl⟩
    subst hv3
    have HST:=LM (e:=⟨ek,et,es1,(ad2,rl,c2),em⟩) (x:=xx) (g:=g3) (cap2:=c3) HOE.out hb12 ⟨HER.out.key,HER.out.time,HER.out.seq,HER.out.met,HRL.out.symm,by unfold hdV;dsimp only;exact Cx hov (by have:=hbx.size;omega)⟩ (by rw[HEN.out];exact hown3) hgrow3
    rw[HEN.out]at HST
    go_roundw
    case rel=>exact⟨k+1,_,by omega,by go_num,by rw[HF.out];simpa using HST.1,hnx.trans HST.2⟩
    case measure=>simp[intOf];omega
  ·have HT:Hid (l.take k=l):=List.take_of_length_le (by rw[HN.out];omega)
   go_wp2
   go_ret
   exact⟨⟨_,es',rfl,by have:=HOE.out;rw[HT.out]at this;exact this⟩,hnx⟩
def An(w:World)(b:Nat)(t:TypeId):Prop:=∃cur f,w.heap[b]? =some (.cells cur t f)
theorem AD(h:An w b t)(hb:w'.heap[b]? =w.heap[b]?):An w' b t:=by
 obtain⟨c,f,h⟩:=h
 exact⟨c,f,hb.trans h⟩
theorem Ba(h:An w b t):b<w.heap.size:=by
 obtain⟨c,f,h⟩:=h
 exact(Array.getElem?_eq_some_iff.1 h).1
theorem Af(h:An w b t)(hb:Bwz w w'):An w' b t:=AD h (hb.block b (Ba h))
theorem tyAt_apart{b':Nat}{t':TypeId}(h:An w b t)(h':An w b' t')(ht:t≠t'):b≠b':=by
 rintro rfl
 obtain⟨c,f,h⟩:=h
 obtain⟨c',f',h'⟩:=h'
 rw[h]at h'
 injection h' with e
 injection e with _ e2 _
 exact ht e2
theorem AC(h:An w b t)(p:Addr)(v:Value):An (w.setCell p v) b t:=by
 obtain⟨c,f,h⟩:=h
 by_cases e:p.block=b
 ·subst e
  exact⟨if p.spot.isSome=true then c else c.setIfInBounds p.off v,f,by simp[World.setCell,Array.getElem?_modify,h]⟩
 ·exact⟨c,f,(heap_setCell_other w p b v (fun h=>e h.symm)).trans h⟩
theorem A7{e:TypeId}{s:Nat}{n:Nat}{xs:List Value}(h:w.ownsRow base e s v n xs)(hg:v.ownBlock=some g):An w g e:=by
 rcases h.2 with⟨rfl,_⟩|⟨b,cap,cur,rfl,_,hb,_⟩
 ·cases hg
 ·cases hg;exact⟨_,_,hb⟩
theorem OE.other{es:List EM}(h:OE w base v es l)(hs:w.heap.size<=w'.heap.size)(hb:∀g,An w g 63\/An w g 103->w'.heap[g]? =w.heap[g]?):OE w' base v es l:=
 h.same hs (fun g cur t hg ht=>by
  rcases ht with⟨_,rfl⟩|rfl
  ·exact hb g (.inl ⟨_,_,hg⟩)
  ·exact hb g (.inr ⟨_,_,hg⟩))
def apB(a b:Value):Prop:=∀g,a.ownBlock=some g->b.ownBlock≠some g
structure OB(w:World)(base:Nat)(x:BX)(b:Buf):Prop where
 low:base<=w.heap.size
 mem:OE w base (hdV x.m.1) x.m.2 b.mem
 hds:w.ownsRow base 26 1 (.slice x.ra x.rs.length x.rc) x.rs.length (x.rs.map fun p=>hdV p.1)
 rlen:x.rs.length=b.runs.length
 runs:∀i,i<b.runs.length->OE w base (hdV (x.rs.getD i default).1) (x.rs.getD i default).2 (b.runs.getD i default)
 two:((x.m::x.rs).map fun p=>hdV p.1).Pairwise apB
theorem OB.below{x:BX}{b:Buf}(h:OB w base x b)(hb:Bwz w w'):OB w' base x b:=
 ⟨Nat.le_trans h.low hb.size,h.mem.below hb,own_below h.hds hb,h.rlen,fun i hi=>(h.runs i hi).below hb,h.two⟩
def BX.more(x:BX)(g cap:Nat)(p:Part):BX:=⟨some ⟨g,0,none⟩,cap,x.m,x.rs++[p]⟩
def Buf.more(b:Buf)(l:List Ent):Buf:=⟨b.lim,b.mem,b.runs++[l]⟩
theorem Vv{w1 w2:World}{x:BX}{b:Buf}(h:OB w base x b)(hb1:Bwz w w1)(hp:OE w1 w.heap.size (hdV p.1) p.2 l)
 (hown2:w2.ownsRow base 26 1 (.slice (some ⟨g,0,none⟩) (x.rs.length+1) cap2) (x.rs.length+1) ((x.rs.map fun p=>hdV p.1)++[hdV p.1])) (hs:w1.heap.size<=w2.heap.size)
 (hch:∀b,An w1 b 63\/An w1 b 103->w2.heap[b]? =w1.heap[b]?):OB w2 base (x.more g cap2 p) (b.more l):=by
 have h1:=h.below hb1
 refine⟨Nat.le_trans h1.low hs,h1.mem.other hs hch,?_,?_,fun i hi=>?_,?_⟩
 ·unfold BX.more
  dsimp only
  rw[lAp,List.map_append]
  exact hown2
 ·unfold BX.more Buf.more
  dsimp only
  rw[lAp,lAp,h.rlen];rfl
 ·unfold BX.more Buf.more at *
  dsimp only at *
  rw[lAp]at hi
  by_cases hl:i<b.runs.length
  ·rw[AN (by rw[h.rlen];exact hl),AN hl]
   exact(h1.runs i hl).other hs hch
  ·have:i=b.runs.length:=by simp at hi;omega
   subst this
   rw[AA (by rw[h.rlen];exact Nat.le_refl _),AA nR,h.rlen,Nat.sub_self]
   exact(hp.other hs hch).mono h.low
 ·unfold BX.more
  dsimp only
  rw[show(x.m::(x.rs++[p]))=(x.m::x.rs)++[p]from rfl,List.map_append]
  refine List.pairwise_append.2 ⟨h.two,by simp,fun a ha c hc g hg=>?_⟩
  have hc':c=hdV p.1:=by simpa using hc
  subst hc'
  intro hg2
  have hge:=(AG hp.own hg2).1
  obtain⟨q,hq,rfl⟩:=List.mem_map.1 ha
  rcases List.mem_cons.1 hq with rfl|hq
  ·have:=(AG h.mem.own hg).2;omega
  ·obtain⟨i,hi,rfl⟩:=List.getElem_of_mem hq
   have hr:=h.runs i (by rw[<-h.rlen];exact hi)
   have e:x.rs.getD i default=x.rs[i]:=by rw[gDe,gEe hi];rfl
   rw[e]at hr
   have:=(AG hr.own hg).2;omega
structure KSt(W:World)(C NB base:Nat)(x:BX)(b:Buf):Prop where
 ob:OB W base x b
 c0:W.cell? ⟨NB,0,none⟩=some (.int .i64 b.lim)
 c1:W.cell? ⟨NB,1,none⟩=some (hdV x.m.1)
 c2:W.cell? ⟨NB,2,none⟩=some (.slice x.ra x.rs.length x.rc)
 f2:W.frozen? ⟨NB,2,none⟩=false
 ty:An W NB 29
 r0:W.cell? ⟨C,0,none⟩=some (.int .i64 0)
 r1:W.cell? ⟨C,1,none⟩=some (.slice none 0 0)
 r2:W.cell? ⟨C,2,none⟩=some (.slice none 0 0)
 g0:W.frozen? ⟨C,0,none⟩=false
 g1:W.frozen? ⟨C,1,none⟩=false
 g2:W.frozen? ⟨C,2,none⟩=false
 rt:An W C 29
 ne:C<NB
 up:base<=C
theorem KSt.below{W':World}{x:BX}{b:Buf}(h:KSt W C NB base x b)(hb:Bwz W W'):KSt W' C NB base x b:=by
 have l1:=Ba h.ty
 have l2:=Ba h.rt
 exact⟨h.ob.below hb,cLz hb h.c0,cLz hb h.c1,cLz hb h.c2,(hb.frozen (p:=⟨NB,2,none⟩) l1).trans h.f2,Af h.ty hb,cLz hb h.r0,cLz hb h.r1,cLz hb h.r2,(hb.frozen (p:=⟨C,0,none⟩) l2).trans h.g0,(hb.frozen (p:=⟨C,1,none⟩) l2).trans h.g1,(hb.frozen (p:=⟨C,2,none⟩) l2).trans h.g2,Af h.rt hb,h.ne,h.up⟩
theorem A6{p:Addr}(h:w'.heap[p.block]? =w.heap[p.block]?):w'.frozen? p=w.frozen? p:=by
 unfold World.frozen?
 rw[h]
theorem TR{W1 W2:World}{x:BX}{b:Buf}{o:Obj}(h:KSt W C NB base x b)(hb1:Bwz W W1)(hp:OE W1 W.heap.size (hdV p.1) p.2 l)
 (hown2:W2.ownsRow base 26 1 (.slice (some ⟨g,0,none⟩) (x.rs.length+1) cap2) (x.rs.length+1) ((x.rs.map fun p=>hdV p.1)++[hdV p.1])) (hg2:(W1.alloc o).grownBy W2 (Value.slice x.ra x.rs.length x.rc).ownBlock):
 KSt (W2.setCell ⟨NB,2,none⟩ (.slice (some ⟨g,0,none⟩) (x.rs.length+1) cap2)) C NB base (x.more g cap2 p) (b.more l)/\Below base W (W2.setCell ⟨NB,2,none⟩ (.slice (some ⟨g,0,none⟩) (x.rs.length+1) cap2)):=by
 have h1:=h.below hb1
 have hs2:W1.heap.size<=W2.heap.size:=by have:=hg2.size;simp at this;omega
 have hbl:∀c t,An W1 c t->t≠26->W2.heap[c]? =W1.heap[c]? :=fun c t hc ht=>by
  have hlt:=Ba hc
  rw[hg2.block c (by simp;omega) (fun e=>?_)]
  ·exact Below.heap_alloc _ _ c hlt
  ·exact tyAt_apart hc (A7 h1.ob.hds e.symm) ht rfl
 have eN:=hbl NB _ h1.ty (by decide)
 have eC:=hbl C _ h1.rt (by decide)
 have c0:=(cOb (a:=⟨NB,0,none⟩) eN).trans h1.c0
 have c1:=(cOb (a:=⟨NB,1,none⟩) eN).trans h1.c1
 have c2:=(cOb (a:=⟨NB,2,none⟩) eN).trans h1.c2
 have r0:=(cOb (a:=⟨C,0,none⟩) eC).trans h1.r0
 have r1:=(cOb (a:=⟨C,1,none⟩) eC).trans h1.r1
 have r2:=(cOb (a:=⟨C,2,none⟩) eC).trans h1.r2
 have hne:=h.ne
 have eO:∀c v,c≠NB->(W2.setCell ⟨NB,2,none⟩ v).heap[c]? =W2.heap[c]? :=fun c v hc=>heap_setCell_other _ _ _ _ hc
 refine⟨⟨Vv h.ob hb1 hp (A2 hown2 (fun k hk=>eO k _ ?_)) (by simp[World.setCell];omega) (fun c hc=>?_),?_,?_,?_,?_,?_,?_,?_,?_,?_,?_,?_,?_,h.ne,h.up⟩,?_⟩
 ·exact fun e=>tyAt_apart (A7 hown2 hk) (AD h1.ty eN) (by decide) e
 ·rcases hc with hc|hc
  ·exact(eO c _ (fun e=>tyAt_apart hc h1.ty (by decide) e)).trans (hbl c _ hc (by decide))
  ·exact(eO c _ (fun e=>tyAt_apart hc h1.ty (by decide) e)).trans (hbl c _ hc (by decide))
 ·show _=some (Value.int .i64 b.lim)
  go_simp
 ·show _=some (hdV x.m.1)
  go_simp
 ·unfold BX.more
  dsimp only
  rw[lAp]
  exact World.cell?_setCell_same _ _ _ c2
 ·have:=(A6 (p:=⟨NB,2,none⟩) eN).trans h1.f2
  go_simp
 ·exact AC (AD h1.ty eN) _ _
 ·rw[cOb (a:=⟨C,0,none⟩) (eO C _ (by omega))];exact r0
 ·rw[cOb (a:=⟨C,1,none⟩) (eO C _ (by omega))];exact r1
 ·rw[cOb (a:=⟨C,2,none⟩) (eO C _ (by omega))];exact r2
 ·rw[A6 (p:=⟨C,0,none⟩) (eO C _ (by omega)),A6 (p:=⟨C,0,none⟩) eC];exact h1.g0
 ·rw[A6 (p:=⟨C,1,none⟩) (eO C _ (by omega)),A6 (p:=⟨C,1,none⟩) eC];exact h1.g1
 ·rw[A6 (p:=⟨C,2,none⟩) (eO C _ (by omega)),A6 (p:=⟨C,2,none⟩) eC];exact h1.g2
 ·exact AD (AD h1.rt eC) (eO C _ (by omega))
 ·have hlow:=h.ob.low
  have hup:=h.up
  have hb2:Below base W W2:=((hb1.mono hlow).alloc h1.ob.low o).grown hg2 (by simp;have:=h1.ob.low;omega) (fun c hc=>(AG h1.ob.hds hc).1)
  exact hb2.setCell (by dsimp only;omega) _
end bf
namespace bf
open Go.ChangeShapes Go.WideShapes Go.ChangeAt Go.RowKit
open vl
attribute [local go_sem] Oper.semAt_some
variable {l : List Ent} {W w w2 : World} {B C N base base' : Nat} {v : Value} {es : List EM} {hh : Hdr} {lim : Int}
def CZ(P:Ent->Bool)(l:List (List Ent)):List (List Ent):=(l.map (·.filter P)).filter fun r=>decide (0<r.length)
def BU(P:Ent->Bool)(b:Buf):Buf:=⟨b.lim,b.mem.filter P,CZ P b.runs⟩
theorem P0{P:Ent->Bool}{l:List (List Ent)}{k:Nat}(h:k<l.length):CZ P (l.take (k+1))=CZ P (l.take k)++(if 0<((l.getD k default).filter P).length then [(l.getD k default).filter P]else []):=by
 unfold CZ
 rw[List.take_succ_eq_append_getElem h,List.map_append,List.filter_append]
 have e:l.getD k default=l[k]:=by rw[gDe,gEe h];rfl
 rw[e]
 congr 1
 simp only[List.map_cons,List.map_nil,List.filter_cons,List.filter_nil,decide_eq_true_eq]
theorem Bb{α:Type}{l:List α}{d:α}{j:Nat}(h:j<l.length):l.getD j d∈l:=by
 rw[gDe,gEe h];exact List.getElem_mem h
theorem VR:(Tryz.prog.info? 26).map (fun i=>(i.zero,i.size,i.bytes))=some (some (.slice none 0 0),1,24):=by kernel_rfl
structure nbAt(W:World)(B:Nat):Prop where
 n0:W.cell? ⟨B,0,none⟩=some (.int .i64 0)
 n1:W.cell? ⟨B,1,none⟩=some (.slice none 0 0)
 n2:W.cell? ⟨B,2,none⟩=some (.slice none 0 0)
 o0:W.frozen? ⟨B,0,none⟩=false
 o1:W.frozen? ⟨B,1,none⟩=false
 o2:W.frozen? ⟨B,2,none⟩=false
 ty:An W B 29
theorem Hx(W:World):nbAt (W.alloc (.cells #[.int .i64 0,.slice none 0 0,.slice none 0 0] 29)) W.heap.size:=⟨by go_simp,by go_simp,by go_simp,by go_simp,by go_simp,by go_simp,⟨_,_,World.alloc_heap_new W _⟩⟩
theorem IW(h:nbAt W B):nbAt W.drew B:=⟨h.n0,h.n1,h.n2,h.o0,h.o1,h.o2,h.ty⟩
theorem BM{W':World}(hb:Bwz W W')(h:nbAt W B):nbAt W' B:=by
 have l1:=Ba h.ty
 exact⟨cLz hb h.n0,cLz hb h.n1,cLz hb h.n2,(hb.frozen (p:=⟨B,0,none⟩) l1).trans h.o0,(hb.frozen (p:=⟨B,1,none⟩) l1).trans h.o1,(hb.frozen (p:=⟨B,2,none⟩) l1).trans h.o2,Af h.ty hb⟩
theorem Kd(h:OE w base v es l)(hN:An w N 29)(k:Nat)(u:Value):OE (w.setCell ⟨N,k,none⟩ u) base v es l:=
 h.other (by simp[World.setCell]) (fun g hg=>heap_setCell_other _ _ _ _ (by
  rcases hg with hg|hg
  ·exact tyAt_apart hg hN (by decide)
  ·exact tyAt_apart hg hN (by decide)))
theorem Cp(h:OE w base (hdV hh) es l):OB w base ⟨none,0,(hh,es),[]⟩ ⟨lim,l,[]⟩:=
 ⟨h.low,h,World.ownsRow_nil _ _ _ _,rfl,fun i hi=>absurd hi (Nat.not_lt_zero i),List.pairwise_singleton _ _⟩
theorem WF(nb:nbAt w2 C)(h:OE w2 base' (hdV hh) es l)(hb:base<=base')(hC:base<=C):
 KSt (w2.alloc (.cells #[.int .i64 lim,hdV hh,.slice none 0 0] 29)) C w2.heap.size base ⟨none,0,(hh,es),[]⟩ ⟨lim,l,[]⟩:=by
 have hbA:Bwz w2 (w2.alloc (.cells #[.int .i64 lim,hdV hh,.slice none 0 0] 29)):=bR.alloc nR _
 have nb2:=BM hbA nb
 have hlt:=Ba nb.ty
 refine⟨Cp ((h.mono hb).below hbA),?_,?_,?_,?_,⟨_,_,World.alloc_heap_new _ _⟩,nb2.n0,nb2.n1,nb2.n2,nb2.o0,nb2.o1,nb2.o2,nb2.ty,hlt,hC⟩
 ·unfold hdV;go_simp
 ·unfold hdV;go_simp
 ·unfold hdV;go_simp
 ·unfold hdV;go_simp
theorem WG(nb:nbAt w2 C)(nn:nbAt w2 N)(h:OE w2 base' (hdV hh) es l)(hb:base<=base')(hC:base<=C)(hN:C<N):
 KSt (((w2.setCell ⟨N,0,none⟩ (.int .i64 lim)).setCell ⟨N,1,none⟩ (hdV hh)).setCell ⟨N,2,none⟩ (.slice none 0 0)) C N base ⟨none,0,(hh,es),[]⟩ ⟨lim,l,[]⟩:=by
 obtain⟨n0,n1,n2,o0,o1,o2,ty⟩:=nn
 obtain⟨r0,r1,r2,g0,g1,g2,rt⟩:=nb
 have eC:(((w2.setCell ⟨N,0,none⟩ (.int .i64 lim)).setCell ⟨N,1,none⟩ (hdV hh)).setCell ⟨N,2,none⟩ (.slice none 0 0)).heap[C]? =w2.heap[C]? :=by
  rw[heap_setCell_other _ _ _ _ (by dsimp only;omega),heap_setCell_other _ _ _ _ (by dsimp only;omega),heap_setCell_other _ _ _ _ (by dsimp only;omega)]
 have y0:=AC ty ⟨N,0,none⟩ (.int .i64 lim)
 have y1:=AC y0 ⟨N,1,none⟩ (hdV hh)
 refine⟨Cp (Kd (Kd (Kd (h.mono hb) ty _ _) y0 _ _) y1 _ _),?_,?_,?_,?_,AC y1 _ _,?_,?_,?_,?_,?_,?_,AD rt eC,hN,hC⟩
 ·go_simp
 ·go_simp
 ·go_simp
 ·go_simp
 ·exact(cOb (a:=⟨C,0,none⟩) eC).trans r0
 ·exact(cOb (a:=⟨C,1,none⟩) eC).trans r1
 ·exact(cOb (a:=⟨C,2,none⟩) eC).trans r2
 ·exact(A6 (p:=⟨C,0,none⟩) eC).trans g0
 ·exact(A6 (p:=⟨C,1,none⟩) eC).trans g1
 ·exact(A6 (p:=⟨C,2,none⟩) eC).trans g2
theorem Vw{W1 W2:World}{NB:Nat}{x:BX}{b:Buf}{o:Obj}(h:KSt W C NB base x b)(hb1:Bwz W W1)(hg2:(W1.alloc o).grownBy W2 (Value.slice x.ra x.rs.length x.rc).ownBlock):
 W2.cell? ⟨NB,2,none⟩=some (.slice x.ra x.rs.length x.rc)/\W2.frozen? ⟨NB,2,none⟩=false:=by
 have h1:=h.below hb1
 have hlt:=Ba h1.ty
 have eN:W2.heap[NB]? =W1.heap[NB]? :=by
  rw[hg2.block NB (by simp;omega) (fun e=>tyAt_apart h1.ty (A7 h1.ob.hds e.symm) (by decide) rfl)]
  exact Below.heap_alloc _ _ NB hlt
 exact⟨(cOb (a:=⟨NB,2,none⟩) eN).trans h1.c2,(A6 (p:=⟨NB,2,none⟩) eN).trans h1.f2⟩
theorem Iy{x:BX}{b:Buf}(h:OB w base x b)(hN:An w N 29)(k:Nat)(u:Value):OB (w.setCell ⟨N,k,none⟩ u) base x b:=
 ⟨by simp[World.setCell];exact h.low,Kd h.mem hN k u,A2 h.hds (fun g hg=>heap_setCell_other _ _ _ _ (tyAt_apart (A7 h.hds hg) hN (by decide))),h.rlen,fun i hi=>Kd (h.runs i hi) hN k u,h.two⟩
theorem IX{x:BX}{b:Buf}(h:OB w base x b)(hN:An w N 29)(u0 u1 u2:Value):OB (((w.setCell ⟨N,0,none⟩ u0).setCell ⟨N,1,none⟩ u1).setCell ⟨N,2,none⟩ u2) base x b:=
 Iy (Iy (Iy h hN _ _) (AC hN _ _) _ _) (AC (AC hN _ _) _ _) _ _
theorem cell_one_new(w:World)(a:Value)(h:a.oneCell'=true)(t:TypeId):∀j u,[a][j]? =some u->(w.alloc (.cells #[a] t)).cell? ((⟨w.heap.size,0,none⟩:Addr).add j)=some u:=by
 intro j u hu
 rw[C9]
 match j,hu with
 |0,hu=>simp at hu;subst hu;simp[go_sem]
 |(n+1),hu=>simp at hu
theorem Ke{e:TypeId}{s:Nat}{n:Nat}{xs:List Value}(h:w.ownsRow base e s v (n+1) xs):∃g c,v= .slice (some ⟨g,0,none⟩) (n+1) c:=by
 rcases h.2 with⟨_,h0⟩|⟨g,cap,cur,rfl,_⟩
 ·exact absurd h0 (by omega)
 ·exact⟨_,_,rfl⟩
theorem RR(P:Ent->Bool)(l:List (List Ent)):(CZ P l).length<=l.length:=by
 unfold CZ
 have:=List.length_filter_le (fun r:List Ent=>decide (0<r.length)) (l.map (·.filter P))
 rwa[lMp]at this
theorem DA(fn:FuncId)(eg:∀args w,(callFunc fn args).run Tryz.prog w= .ok (.enter fn args) w)(caps:Array Value)(P:Ent->Bool)(b:Buf)(x:BX)(w:World)(h:bufAt w b x)(hl:∀l∈partsB b,l.length<=100000)(hr:b.runs.length<=100000)(hrow:∀y∈Ab b,y.row.length<=1000000)
 (H:∀e y w1,ER w1 e y->y∈Ab b->Bwz w w1->Calls Tryz.prog fn (#[e.val]++caps) w1 fun r w'=>r= .returned (.bool (P y))/\Bwz w1 w'):
 Calls Tryz.prog 145 #[AQ b x,.func (.func fn) #[] caps] w fun e w'=>(∃x',e= .returned (AQ (BU P b) x')/\OB w' w.heap.size x' (BU P b))/\Bwz w w':=by
 obtain⟨i0,hi0,hz0,hz1,hz2⟩:=info_parts VR
 have HI:Hid (Tryz.prog.info? 26=some i0/\i0.zero=some (.slice none 0 0)/\i0.size=1/\i0.bytes=24):=⟨hi0,hz0,hz1,hz2⟩
 clear hi0 hz0 hz1 hz2
 have HPL:(partsB b).length=(x.m::x.rs).length:=by simp[partsB,h.rlen]
 have KM:Hid (∀i w1,i<(x.m::x.rs).length->Bwz w w1->Calls Tryz.prog 189 #[hdV ((x.m::x.rs).getD i default).1,.func (.func fn) #[] caps] w1 fun e w'=>(∃(hh:Hdr) (es':List EM),e= .returned (hdV hh)/\OE w' w1.heap.size (hdV hh) es' (((partsB b).getD i default).filter P))/\Bwz w1 w'):=fun i w1 hi hb=>by
  have hmem:(x.m::x.rs).getD i default∈x.m::x.rs:=by rw[gDe,gEe hi];exact List.getElem_mem hi
  have hpm:(partsB b).getD i default∈partsB b:=by
   rw[gDe,gEe (by rw[HPL];exact hi)]
   exact List.getElem_mem (by rw[HPL];exact hi)
  have hE:ERs w ((x.m::x.rs).getD i default).2 ((partsB b).getD i default):=by
   cases i with
   |zero=>exact h.mem
   |succ i=>
    have hi':i<b.runs.length:=by rw[List.length_cons,h.rlen]at hi;omega
    simpa[partsB]using h.runs i hi'
  have hln:=h.len _ hmem
  have hin:∀y∈(partsB b).getD i default,y∈Ab b:=fun y hy=>List.mem_flatten.2 ⟨_,hpm,hy⟩
  obtain⟨⟨⟨z1,z2,z3⟩,zl⟩,hz⟩:∃z,(x.m::x.rs).getD i default=z:=⟨_,rfl⟩
  have hem:=h.ems _ hmem
  rw[hz]at hE hln hem⊢
  unfold hdV
  dsimp only at hE hln hem⊢
  have e2:z2=((partsB b).getD i default).length:=by rw[hln.1,hE.1]
  subst e2
  refine(Pz fn eg caps P z1 z3 zl ((partsB b).getD i default) w1 (hl _ hpm) (BO hem hb) (hE.below hb) (fun y hy=>hrow y (hin y hy)) (fun j w2 hj hb2=>H _ _ w2 (((hE.below hb).below hb2).2 j hj) (hin _ (Bb hj)) (hb.trans (hb2.mono hb.size)))).mono ?_
  rintro e w' ⟨⟨v,es',rfl,hoe⟩,hbb⟩
  obtain⟨ad,cp,rfl⟩:=hoe.form
  exact⟨⟨(ad,es'.length,cp),es',rfl,hoe⟩,hbb⟩
 have HB:Hid (bufAt w b x):=h
 have hnr:=h.rlen
 clear h H hl hrow
 obtain⟨ra,rc,⟨⟨m1,m2,m3⟩,ml⟩,rs⟩:=x
 obtain⟨lim,mem,runs⟩:=b
 unfold AQ
 dsimp only at KM HB hnr hr⊢
 obtain⟨n,hn⟩:∃n,rs.length=n:=⟨_,rfl⟩
 have HN:Hid (rs.length=n/\runs.length=n):=⟨hn,by rw[<-hnr,hn]⟩
 have hn9:n<=100000:=by omega
 rw[hn]
 clear hn hnr hr HPL
 have K0:Hid (∀w1,Bwz w w1->Calls Tryz.prog 189 #[.slice m1 m2 m3,.func (.func fn) #[] caps] w1 fun e w'=>(∃(hh:Hdr) (es':List EM),e= .returned (hdV hh)/\OE w' w1.heap.size (hdV hh) es' (mem.filter P))/\Bwz w1 w'):=fun w1 hb=>KM.out 0 w1 (by simp) hb
 have e1:hdV (m1,m2,m3)= .slice m1 m2 m3:=rfl
 rw[e1]
 have V0:((w.alloc (.cells #[.int .i64 lim,.slice m1 m2 m3,.slice ra n rc] 29)).alloc (.cells #[.int .i64 0,.slice none 0 0,.slice none 0 0] 29)).cell? ⟨w.heap.size,0,none⟩=some (.int .i64 lim):=by go_simp
 have V1:((w.alloc (.cells #[.int .i64 lim,.slice m1 m2 m3,.slice ra n rc] 29)).alloc (.cells #[.int .i64 0,.slice none 0 0,.slice none 0 0] 29)).cell? ⟨w.heap.size,1,none⟩=some (.slice m1 m2 m3):=by go_simp
 have V2:((w.alloc (.cells #[.int .i64 lim,.slice m1 m2 m3,.slice ra n rc] 29)).alloc (.cells #[.int .i64 0,.slice none 0 0,.slice none 0 0] 29)).cell? ⟨w.heap.size,2,none⟩=some (.slice ra n rc):=by go_simp
 have R0:((w.alloc (.cells #[.int .i64 lim,.slice m1 m2 m3,.slice ra n rc] 29)).alloc (.cells #[.int .i64 0,.slice none 0 0,.slice none 0 0] 29)).cell? ⟨w.heap.size+1,0,none⟩=some (.int .i64 0):=by go_simp
 have R1:((w.alloc (.cells #[.int .i64 lim,.slice m1 m2 m3,.slice ra n rc] 29)).alloc (.cells #[.int .i64 0,.slice none 0 0,.slice none 0 0] 29)).cell? ⟨w.heap.size+1,1,none⟩=some (.slice none 0 0):=by go_simp
 have R2:((w.alloc (.cells #[.int .i64 lim,.slice m1 m2 m3,.slice ra n rc] 29)).alloc (.cells #[.int .i64 0,.slice none 0 0,.slice none 0 0] 29)).cell? ⟨w.heap.size+1,2,none⟩=some (.slice none 0 0):=by go_simp
 have G0:((w.alloc (.cells #[.int .i64 lim,.slice m1 m2 m3,.slice ra n rc] 29)).alloc (.cells #[.int .i64 0,.slice none 0 0,.slice none 0 0] 29)).frozen? ⟨w.heap.size+1,0,none⟩=false:=by go_simp
 have G1:((w.alloc (.cells #[.int .i64 lim,.slice m1 m2 m3,.slice ra n rc] 29)).alloc (.cells #[.int .i64 0,.slice none 0 0,.slice none 0 0] 29)).frozen? ⟨w.heap.size+1,1,none⟩=false:=by go_simp
 have G2:((w.alloc (.cells #[.int .i64 lim,.slice m1 m2 m3,.slice ra n rc] 29)).alloc (.cells #[.int .i64 0,.slice none 0 0,.slice none 0 0] 29)).frozen? ⟨w.heap.size+1,2,none⟩=false:=by go_simp
 have VT:An ((w.alloc (.cells #[.int .i64 lim,.slice m1 m2 m3,.slice ra n rc] 29)).alloc (.cells #[.int .i64 0,.slice none 0 0,.slice none 0 0] 29)) (w.heap.size+1) 29:=⟨_,_,by
  have h:=World.alloc_heap_new (w.alloc (.cells #[.int .i64 lim,.slice m1 m2 m3,.slice ra n rc] 29)) (.cells #[.int .i64 0,.slice none 0 0,.slice none 0 0] 29)
  rw[World.size_alloc]at h
  exact h⟩
 have V8:Bwz w ((w.alloc (.cells #[.int .i64 lim,.slice m1 m2 m3,.slice ra n rc] 29)).alloc (.cells #[.int .i64 0,.slice none 0 0,.slice none 0 0] 29)):=by
  repeat (first|exact bR|(refine Below.alloc ?_ (by simp<;>omega) _))
 have V9:((w.alloc (.cells #[.int .i64 lim,.slice m1 m2 m3,.slice ra n rc] 29)).alloc (.cells #[.int .i64 0,.slice none 0 0,.slice none 0 0] 29)).heap.size=w.heap.size+1+1:=by simp
 have NBV:nbAt ((w.alloc (.cells #[.int .i64 lim,.slice m1 m2 m3,.slice ra n rc] 29)).alloc (.cells #[.int .i64 0,.slice none 0 0,.slice none 0 0] 29)) (w.heap.size+1):=⟨R0,R1,R2,G0,G1,G2,VT⟩
 clear R0 R1 R2 G0 G1 G2 VT
 go_enter func145,ntmps145
 go_wp2
 generalize ((w.alloc (.cells #[.int .i64 lim,.slice m1 m2 m3,.slice ra n rc] 29)).alloc (.cells #[.int .i64 0,.slice none 0 0,.slice none 0 0] 29))=V at *
 refine wp_mono (Q:=Exit.then (fun a' W'=> ∃(NB:Nat) (hh:Hdr) (es':List EM),a'={tmps:=#[.agg #[.int .i64 lim,.slice m1 m2 m3,.slice ra n rc],.func (.func fn) #[] caps,.pointer (some ⟨w.heap.size,0,none⟩),undef,.pointer (some ⟨w.heap.size+1,0,none⟩),.pointer (some ⟨NB,0,none⟩),undef,undef,undef,.pointer (some ⟨w.heap.size,0,none⟩),.int .i64 lim,.pointer (some ⟨w.heap.size,1,none⟩),.slice m1 m2 m3,.func (.func fn) #[] caps,hdV hh,.agg #[.int .i64 lim,hdV hh,.slice none 0 0],undef,undef,undef,undef,undef,undef,undef,undef,undef,undef,undef,undef,undef,undef,undef,undef,undef,undef,undef,undef,undef],defers:=[]}/\KSt W' (w.heap.size+1) NB w.heap.size ⟨none,0,(hh,es'),[]⟩ ⟨lim,mem.filter P,[]⟩/\W'.cell? ⟨w.heap.size,2,none⟩=some (.slice ra n rc)/\Bwz w W') (fun _ _ _=>False)) ?_ ?_
 ·go_region_law (go_simp;go_at_call 189;refine(K0.out _ (by first|exact V8.drew|exact(V8.alloc V8.size _).drew|exact V8|exact V8.alloc V8.size _|exact V8.drew.alloc V8.size _)).mono ?_;rintro e w2 ⟨⟨⟨h1,h2,h3⟩,es',rfl,hoe⟩,hb2⟩;unfold hdV;dsimp only;have k0:w2.cell? ⟨w.heap.size,0,none⟩=some (.int .i64 lim):=cLz hb2 (by go_simp);have k2:w2.cell? ⟨w.heap.size,2,none⟩=some (.slice ra n rc):=cLz hb2 (by go_simp);have lw:w.heap.size<w2.heap.size:=bLt _ _ k0;first|(obtain⟨n0,n1,n2,o0,o1,o2,n3⟩:=BM hb2 (IW (Hx V));rw[V9]at n0 n1 n2 o0 o1 o2 n3)|(obtain⟨n0,n1,n2,o0,o1,o2,n3⟩:=BM hb2 (Hx V.drew);rw[show V.drew.heap.size=w.heap.size+1+1 from V9]at n0 n1 n2 o0 o1 o2 n3)|skip)
  all_goals first
   | (have nbC:nbAt w2 (w.heap.size+1):=BM hb2 (IW NBV)
      have hbw:Bwz w w2:=V8.drew.trans (hb2.mono (by have:=V8.size;exact this))
      exact⟨w2.heap.size,(h1,h2,h3),es',rfl,WF nbC hoe (by have:=V8.size;exact this) (Nat.le_succ _),by go_simp,hbw.alloc hbw.size _⟩)
   | (have nbC:nbAt w2 (w.heap.size+1):=BM hb2 (IW (BM (bR.alloc nR _) NBV))
      have hbv:Bwz w (V.alloc (.cells #[.int .i64 0,.slice none 0 0,.slice none 0 0] 29)).drew:=(V8.alloc V8.size _).drew
      have hbw:Bwz w w2:=hbv.trans (hb2.mono hbv.size)
      exact⟨w.heap.size+1+1,(h1,h2,h3),es',rfl,WG nbC ⟨n0,n1,n2,o0,o1,o2,n3⟩ hoe hbv.size (Nat.le_succ _) (Nat.lt_succ_self _),by go_simp,((hbw.setCell (by dsimp only;omega) _).setCell (by dsimp only;omega) _).setCell (by dsimp only;omega) _⟩)
 ·intro e a' W' hQ
  cases e with
  |normal=>
   obtain⟨NB,hh,es',rfl,hst,hc2,hbW⟩:=hQ
   have KR:Hid (∀k w1,k<n->Bwz w w1->Calls Tryz.prog 189 #[hdV ((rs.map (·.1)).getD k (none,0,0)),.func (.func fn) #[] caps] w1 fun e w'=>(∃(hh:Hdr) (es':List EM),e= .returned (hdV hh)/\OE w' w1.heap.size (hdV hh) es' ((runs.getD k default).filter P))/\Bwz w1 w'):=fun k w1 hk hb=>by
    have hkr:k<rs.length:=by rw[HN.out.1];exact hk
    have h:=KM.out (k+1) w1 (by simpa using hkr) hb
    have e1:(rs.map (·.1)).getD k (none,0,0)=(rs.getD k default).1:=by rw[gDe,List.getElem?_map,gEe hkr,gDe,gEe hkr];rfl
    rw[e1]
    exact h
   have HR:Hid (Hb w ra (rs.map (·.1))):=HB.out.hds
   have HS:Hid (KSt W' (w.heap.size+1) NB w.heap.size ⟨none,0,(hh,es'),[]⟩ ⟨lim,mem.filter P,[]⟩):=hst
   obtain⟨h1,h2,h3⟩:=hh
   unfold hdV
   dsimp only
   clear KM K0 V0 V1 V2 V8 V9 NBV hst
   go_wp2
   go_loopw [19] (fun i wr=> ∃(k:Nat) (x':BX),k<=n/\i= .int .i64 k/\KSt wr (w.heap.size+1) NB w.heap.size x' ⟨lim,mem.filter P,CZ P (runs.take k)⟩/\Bwz w wr) (fun i _=>n - (intOf i).toNat)
   case atStart=>exact⟨0,_,Nat.zero_le _,rfl,HS.out,hbW⟩
   case round=>
    obtain⟨k,x',hk,rfl,hst,hnx⟩:=hrel
    have hrl:=hst.ob.rlen
    dsimp only at hrl
    have hrn:x'.rs.length<=100000:=by
     have h1:=RR P (runs.take k)
     rw[List.length_take]at h1
     omega
    have c0:=hst.c0
    have c1:=hst.c1
    have c2:=hst.c2
    have r0:=hst.r0
    have r1:=hst.r1
    have r2:=hst.r2
    have g0:=hst.g0
    have g1:=hst.g1
    have g2:=hst.g2
    have hne:=hst.ne
    obtain⟨ra',rc',⟨⟨a1,a2,a3⟩,ml'⟩,rs'⟩:=x'
    have HST:Hid (KSt wr (w.heap.size+1) NB w.heap.size ⟨ra',rc',((a1,a2,a3),ml'),rs'⟩ ⟨lim,mem.filter P,CZ P (runs.take k)⟩):=hst
    unfold hdV at c1
    dsimp only at c0 c1 c2 hrn
    obtain⟨rn,hrn0⟩:=nM rs'.length
    have HRN:Hid (rs'.length=rn):=hrn0
    rw[hrn0]at c2 hrn
    have HON:Hid (wr.ownsRow w.heap.size 26 1 (.slice ra' rn rc') rn (rs'.map fun p=>hdV p.1)):=by
     have h:=hst.ob.hds
     dsimp only at h
     rw[hrn0]at h;exact h
    clear hst hrl hrn0
    have hsz:=hnx.size
    have lC:w.heap.size+1<wr.heap.size:=bLt _ _ r0
    have lN:NB<wr.heap.size:=bLt _ _ c0
    by_cases hlt:k<n
    ·obtain⟨b,o,e,x1⟩:=HR.out k (by rw[lMp,HN.out.1];exact hlt)
     subst e
     have q1:=cLz hnx x1
     have KQ:Hid (Calls Tryz.prog 189 #[hdV ((rs.map (·.1)).getD k (none,0,0)),.func (.func fn) #[] caps] wr fun e w'=>(∃(hh:Hdr) (es':List EM),e= .returned (hdV hh)/\OE w' wr.heap.size (hdV hh) es' ((runs.getD k default).filter P))/\Bwz wr w'):=KR.out k wr hlt hnx
     have HF:Hid (CZ P (runs.take (k+1))=CZ P (runs.take k)++(if 0<((runs.getD k default).filter P).length then [(runs.getD k default).filter P]else [])):=P0 (by rw[HN.out.2];exact hlt)
     obtain⟨⟨z1,z2,z3⟩,hz⟩:∃z,(rs.map (·.1)).getD k (none,0,0)=z:=⟨_,rfl⟩
     rw[hz]at q1 KQ
     unfold hdV at q1
     rw[show hdV (z1,z2,z3)= .slice z1 z2 z3 from rfl]at KQ
     dsimp only at q1
     clear hz x1
     have i1:(0:Int)<=(k:Int):=by omega
     have i2:(k:Int)<(n:Int):=by omega
     obtain⟨L,hL⟩:=nM ((runs.getD k default).filter P)
     rw[hL]at KQ HF
     clear hL
     go_wp2_with fail
     refine KQ.out.mono ?_
     rintro e w1 ⟨⟨⟨y1,y2,y3⟩,es2,rfl,hoe⟩,hb1⟩
     unfold hdV
     dsimp only
     have HOE:Hid (OE w1 wr.heap.size (hdV (y1,y2,y3)) es2 L):=hoe
     have hy2:y2=L.length:=by
      obtain⟨ad,cp,hf⟩:=hoe.form
      unfold hdV at hf
      injection hf with _ e2 _
      exact Eq.trans e2 hoe.len
     clear hoe
     by_cases h0:0<y2
     ·have HE:Hid (CZ P (runs.take (k+1))=CZ P (runs.take k)++[L]):=by show _=_;rw[HF.out,if_pos (by rw[<-hy2];exact h0)]
      clear hy2
      have d2:=cLz hb1 c2
      have ln1:NB<w1.heap.size:=Nat.lt_of_lt_of_le lN hb1.size
      have HO1:Hid (w1.ownsRow w.heap.size 26 1 (.slice ra' rn rc') rn (rs'.map fun p=>hdV p.1)):=own_below HON.out hb1
      have hs1:w.heap.size<=w1.heap.size:=Nat.le_trans hsz hb1.size
      go_wp2_with (at_builtin;refine wpList_append_own _ rfl (.tmp 30) (.tmp 32) 27 rfl w.heap.size 26 i0 (.slice none 0 0) 1 24 underlying27 HI.out.1 HI.out.2.1 HI.out.2.2.1 HI.out.2.2.2 rfl (by decide) _ _ _ rfl (World.ownsRow.alloc HO1.out _) ⟨w1.heap.size,0,none⟩ 1 1 [.slice y1 y2 y3] rfl rfl (cell_one_new _ _ rfl _) (by intro u hu;simp at hu;rcases hu with rfl;rfl) (by unfold maxLen;omega) (by omega) (by simp;omega) ?_;intro v3 w3 hown3 hgrow3 hnil3;have hmid:=Vw HST.out hb1 (by dsimp only;rw[HRN.out];exact hgrow3);dsimp only at hmid;rw[HRN.out]at hmid;obtain⟨p2,pf⟩:=hmid;obtain⟨g3,c3,hv3⟩:=Ke hown3;subst hv3)
      have HSN:=TR (g:=g3) (cap2:=c3) (p:=((y1,y2,y3),es2)) (l:=L) HST.out hb1 HOE.out (by dsimp only;rw[HRN.out];exact hown3) (by dsimp only;rw[HRN.out];exact hgrow3)
      unfold BX.more Buf.more at HSN
      dsimp only at HSN
      rw[HRN.out]at HSN
      go_roundw
      case rel=>exact⟨k+1,_,by omega,by go_num,by rw[HE.out];exact HSN.1,hnx.trans HSN.2⟩
      case measure=>simp[intOf];omega
     ·have HE:Hid (CZ P (runs.take (k+1))=CZ P (runs.take k)):=by show _=_;rw[HF.out,if_neg (by rw[<-hy2];exact h0),List.append_nil]
      clear hy2
      go_wp2
      go_roundw
      case rel=>exact⟨k+1,_,by omega,by go_num,by rw[HE.out];exact HST.out.below hb1,hnx.trans (hb1.mono hsz)⟩
      case measure=>simp[intOf];omega
    ·have HT:Hid (runs.take k=runs):=List.take_of_length_le (by rw[HN.out.2];omega)
     go_wp2
     refine bodyPost_ret (v:=.agg #[.int .i64 lim,.slice a1 a2 a3,.slice ra' rn rc']) (by simp[results,results145,go_sem,r0,r1,r2,c0,c1,c2]) rfl ⟨⟨⟨ra',rc',((a1,a2,a3),ml'),rs'⟩,?_,?_⟩,?_⟩
     ·unfold BU hdV
      dsimp only
      rw[HRN.out]
     ·have hh:=HST.out.ob
      rw[HT.out]at hh
      exact IX hh HST.out.rt _ _ _
     ·exact((hnx.setCell (by dsimp only;omega) _).setCell (by dsimp only;omega) _).setCell (by dsimp only;omega) _
  |_=>exact hQ.elim
end bf
end Go.Proofs.YtdohnkkbkfhphaaGreat
