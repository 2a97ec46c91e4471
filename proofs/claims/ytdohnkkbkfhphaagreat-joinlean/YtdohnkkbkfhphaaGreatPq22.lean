import Derived.Test.YtdohnkkbkfhphaaGreatPq21
set_option linter.all false
set_option maxHeartbeats 4000000
set_option maxRecDepth 100000
namespace Go.Proofs.YtdohnkkbkfhphaaGreat
open Go.Proofs.Tryz
namespace jn
open Go.ChangeShapes Go.WideShapes Go.ChangeAt Go.RowKit
open vl bf
variable {l : List Ent} {b base g i j k : Nat} {ls : List (List Ent)} {t : Value} {hs : List Hdr} {V X Y w w0 : World} {x : BX} {p : pl.Pln} {s : Jn} {y : JX} {T : TypeId} {L : List CO}
def doneL(f:Ent->Ent)(l:List Ent)(k:Nat):List Ent:=(l.take k).map f++l.drop k
def BV(f:Ent->Ent)(ls:List (List Ent))(k:Nat):List (List Ent):=(ls.take k).map (fun l=>l.map f)++ls.drop k
def doneD(f:Ent->Ent)(ls:List (List Ent))(i j:Nat):List (List Ent):=(BV f ls i).set i (doneL f (ls.getD i []) j)
theorem Ii(f:Ent->Ent)(l:List Ent)(k:Nat):(doneL f l k).length=l.length:=by
 unfold doneL
 rw[lAp,lMp,List.length_take,List.length_drop]
 omega
theorem Jo(f:Ent->Ent)(l:List (List Ent))(k:Nat):(BV f l k).length=l.length:=by
 unfold BV
 rw[lAp,lMp,List.length_take,List.length_drop]
 omega
theorem Jp{f:Ent->Ent}(h:k<l.length):(doneL f l k).getD k default=l.getD k default:=by
 unfold doneL
 rw[CX (d:=default) h,gDe,List.getElem?_append_right (by rw[lMp,List.length_take];omega),lMp,List.length_take,show k - min k l.length=0 by omega]
 rfl
theorem Lg{f:Ent->Ent}{l:List (List Ent)}(h:k<l.length):(BV f l k).getD k []=l.getD k []:=by
 unfold BV
 rw[CX (d:=[]) h,gDe,List.getElem?_append_right (by rw[lMp,List.length_take];omega),lMp,List.length_take,show k - min k l.length=0 by omega]
 rfl
theorem O7{f:Ent->Ent}(h:k<l.length):(doneL f l k).set k (f (l.getD k default))=doneL f l (k+1):=by
 unfold doneL
 rw[CX (d:=default) h,set_mid f l k _ _ _ (by omega),N9 f l k default h,List.append_assoc]
 rfl
theorem O8(f:Ent->Ent)(l:List Ent):doneL f l 0=l:=by unfold doneL;rfl
theorem QN(f:Ent->Ent)(l:List Ent):doneL f l l.length=l.map f:=by unfold doneL;rw[List.take_length,List.drop_length,List.append_nil]
theorem MY{f:Ent->Ent}{l:List (List Ent)}(h:k<l.length):(BV f l k).set k ((l.getD k []).map f)=BV f l (k+1):=by
 unfold BV
 rw[CX (d:=[]) h,set_mid (fun l=>l.map f) l k _ _ _ (by omega),N9 (fun l=>l.map f) l k [] h,List.append_assoc]
 rfl
theorem MZ(f:Ent->Ent)(l:List (List Ent)):BV f l 0=l:=by unfold BV;rfl
theorem O9(qs:List Int)(b:Buf):BV (metE qs) (partsB b) (partsB b).length=partsB (BC qs b):=by
 unfold BV
 rw[List.take_length,List.drop_length,List.append_nil]
 rfl
theorem Jq{f:Ent->Ent}(h:i<ls.length):(doneD f ls i j).getD i []=doneL f (ls.getD i []) j:=CC (by rw[Jo];exact h)
theorem OA{f:Ent->Ent}(h:i<ls.length):doneD f ls i 0=BV f ls i:=by
 unfold doneD
 rw[O8,<-Lg (f:=f) h]
 exact set_self (by rw[Jo];exact h)
theorem QO{f:Ent->Ent}(h:i<ls.length):doneD f ls i (ls.getD i []).length=BV f ls (i+1):=by
 unfold doneD
 rw[QN,MY h]
def Na(hs:List Hdr):Nat->Obj->Prop:=fun g o=>(∀c f,o≠ .cells c 63 f)\/∀h∈hs,(hdV h).ownBlock≠some g
theorem EV{W:World}{t:TypeId}(h:An W b t)(ht:t≠63):names (Na hs) W b:=fun o ho=>.inl (Pg h ht o ho)
structure NSt(w0 V X:World)(base:Nat)(hs:List Hdr)(ls:List (List Ent)):Prop where
 op:∃ess,OP X base hs ess ls
 ko:Aj (Na hs) V X
 bl:Bwz w0 X
theorem NSt.row{row:Option Nat}{B:Nat}(h:NSt w0 V X base hs ls)(hB:w0.heap.size<=B)(hg:X.grownBy Y row)(hr:∀r,row=some r->B<=r/\∃x:Obj,X.heap[r]? =some x/\x.isCells=false):NSt w0 V Y base hs ls:=by
 obtain⟨ess,ho⟩:=h.op
 exact⟨⟨ess,ho.same hg.size (fun g hg'=>by rcases hg' with k|k;exact ty_row hg (fun r e=>(hr r e).2) k;exact ty_row hg (fun r e=>(hr r e).2) k)⟩,h.ko.grown hg (fun r e=>(hr r e).2),Cj h.bl nR hB hg hr⟩
theorem NSt.below(h:NSt w0 V X base hs ls)(hb:Bwz X Y):NSt w0 V Y base hs ls:=by
 obtain⟨ess,ho⟩:=h.op
 exact⟨⟨ess,ho.below hb⟩,h.ko.trans (JJ hb),h.bl.trans (hb.mono h.bl.size)⟩
theorem NSt.rec_put{D:Nat}{q:Obj}(h:NSt w0 V X base hs ls)(hD:X.heap[D]? =some q)(hq:q.isCells=false)(hl:w0.heap.size<=D)(o:Obj):NSt w0 V (X.putObj D o) base hs ls:=by
 obtain⟨ess,ho⟩:=h.op
 have hk:∀g t,An X g t->(X.putObj D o).heap[g]? =X.heap[g]? :=fun g t hg=>World.putObj_heap_other (fun e=>by
  obtain⟨c,f,k⟩:=hg
  rw[e,hD]at k
  injection k with k
  rw[k]at hq
  cases hq)
 exact⟨⟨ess,ho.same (by simp) (fun g hg=>hg.elim (hk g _) (hk g _))⟩,h.ko.trans (Aj.put X D q o hD hq),BQ h.bl hl hD o⟩
theorem NSt.read{f:Ent->Ent}(h:NSt w0 V X base hs (doneD f ls i j))(hi:i<hs.length)(hl:ls.length=hs.length)(hj:j<(ls.getD i []).length):
 ∃(g:Nat) (e:EM),hs.getD i hd0=(some ⟨g,0,none⟩,(ls.getD i []).length,(hs.getD i hd0).2.2)/\X.cell? ⟨g,j * 5+2,none⟩=some (.int .i64 e.seq)/\X.cell? ⟨g,j * 5+4,none⟩=some (.bool e.met)/\X.frozen? ⟨g,j * 5+4,none⟩=false/\((ls.getD i []).getD j default).seq=e.seq/\((ls.getD i []).getD j default).met=e.met:=by
 obtain⟨ess,ho⟩:=h.op
 have hok:=ho.oe i hi
 rw[Jq (by omega)]at hok
 have hlen:(doneL f (ls.getD i []) j).length=(ls.getD i []).length:=Ii _ _ _
 obtain⟨g,hh⟩:=Jc hok (by omega)
 have hel:(ess.getD i []).length=(ls.getD i []).length:=by rw[hok.len,hlen]
 rw[hel]at hh
 have hv:hdV (hs.getD i hd0)= .slice (some ⟨g,0,none⟩) (ess.getD i []).length (hs.getD i hd0).2.2:=by rw[hh,hel];rfl
 rw[hv]at hok
 obtain⟨b,o,ea,x1,x2,x3,x4,x5⟩:=hok.at j (by omega)
 cases ea
 have her:=hok.ers.2 j (by omega)
 rw[Jp hj]at her
 rw[Nat.zero_add]at x1 x2 x3 x4 x5
 exact⟨g,(ess.getD i []).getD j default,hh,x3,x5,UW hok.own _,her.seq.symm,her.met.symm⟩
theorem NSt.put{qs:List Int}{v:Bool}(h:NSt w0 V X base hs (doneD (metE qs) ls i j))(hw:w0.heap.size<=base)(hi:i<hs.length)(hl:ls.length=hs.length)(hj:j<(ls.getD i []).length)(hg:(hs.getD i hd0).1=some ⟨g,0,none⟩)
 (hc:X.cell? ⟨g,j * 5+4,none⟩=some (.bool ((ls.getD i []).getD j default).met)) (hm:v=(((ls.getD i []).getD j default).met||decide (((ls.getD i []).getD j default).seq∈qs))):
 NSt w0 V (X.setCell ⟨g,j * 5+4,none⟩ (.bool v)) base hs (doneD (metE qs) ls i (j+1))/\Aj (Na hs) X (X.setCell ⟨g,j * 5+4,none⟩ (.bool v)):=by
 have hil:i<ls.length:=by omega
 have e1:(doneD (metE qs) ls i j).set i (doneL (metE qs) (ls.getD i []) (j+1))=doneD (metE qs) ls i (j+1):=by unfold doneD;rw[List.set_set]
 have e2:=O7 (f:=metE qs) hj
 by_cases hp:((ls.getD i []).getD j default).seq∈qs
 ·have ev:v=true:=by rw[hm,decide_eq_true hp,Bool.or_true]
  rw[ev]
  have ef:metE qs ((ls.getD i []).getD j default)=((ls.getD i []).getD j default).meet:=by unfold metE;rw[if_pos hp];rfl
  obtain⟨ess,ho⟩:=h.op
  have hdl:j<((doneD (metE qs) ls i j).getD i []).length:=by rw[Jq hil,Ii];exact hj
  have hok:=ho.oe i hi
  have hob:(hdV (hs.getD i hd0)).ownBlock=some g:=by
   obtain⟨g',hh⟩:=Jc hok (by omega)
   rw[hh]at hg
   cases hg
   rw[hh];rfl
  have hge:=(AG hok.own hob).1
  have hko:Aj (Na hs) X (X.setCell ⟨g,j * 5+4,none⟩ (.bool true)):=fun b o h1 h2 h3=>by
   refine(heap_setCell_other _ _ _ _ (fun e=>?_)).trans h1
   dsimp only at e
   subst e
   rcases h3 with h3|h3
   ·obtain⟨c,f,h4⟩:=A7 hok.own hob
    rw[h1]at h4
    injection h4 with h4
    exact h3 c f h4
   ·exact h3 _ (Bb hi) hob
  have hop:=VY ho hi hdl hg
  rw[Jq hil,Jp hj,<-ef,e2,e1]at hop
  exact⟨⟨⟨_,hop⟩,h.ko.trans hko,h.bl.setCell (by dsimp only;omega) _⟩,hko⟩
 ·have ev:v=((ls.getD i []).getD j default).met:=by rw[hm,decide_eq_false hp,Bool.or_false]
  rw[ev,T5 hc]
  have ef:metE qs ((ls.getD i []).getD j default)=(ls.getD i []).getD j default:=by unfold metE;rw[if_neg hp]
  have e3:doneL (metE qs) (ls.getD i []) (j+1)=doneL (metE qs) (ls.getD i []) j:=by
   rw[<-e2,ef,<-Jp (f:=metE qs) hj]
   exact set_self (by rw[Ii];exact hj)
  have e4:doneD (metE qs) ls i (j+1)=doneD (metE qs) ls i j:=by unfold doneD;rw[e3]
  rw[e4]
  exact⟨h,Aj.refl _ _⟩
theorem NSt.hlen{f:Ent->Ent}(h:NSt w0 V X base hs (BV f ls i))(hi:i<hs.length)(hl:ls.length=hs.length):(hs.getD i hd0).2.1=(ls.getD i []).length:=by
 obtain⟨ess,ho⟩:=h.op
 have hok:=ho.oe i hi
 rw[Lg (by omega)]at hok
 obtain⟨ad,cp,e⟩:=hok.form
 unfold hdV at e
 injection e with _ e2 _
 rw[e2,hok.len]
theorem QP{b:Buf}{f:Ent->Ent}(h:OB V base x b)(hb:Bwz w0 V):NSt w0 V V base ((x.m::x.rs).map (·.1)) (BV f (partsB b) 0):=
 ⟨⟨_,by rw[MZ];exact WM h⟩,Aj.refl _ _,hb⟩
theorem PP{b':Buf}{ess:List (List EM)}(ho:OP X base ((x.m::x.rs).map (·.1)) ess (partsB b'))(hds:X.ownsRow base 26 1 (.slice x.ra x.rs.length x.rc) x.rs.length (x.rs.map fun p=>hdV p.1)):∃x':BX,x'.ra=x.ra/\x'.rc=x.rc/\x'.m.1=x.m.1/\x'.rs.map (·.1)=x.rs.map (·.1)/\OB X base x' b':=by
 have hl1:ess.length=x.rs.length+1:=by rw[ho.l1];simp
 have hz:(x.rs.map (·.1)).length=ess.tail.length:=by rw[lMp,List.length_tail,hl1];rfl
 have hzl:((x.rs.map (·.1)).zip ess.tail).length=x.rs.length:=by rw[List.length_zip,<-hz,lMp,Nat.min_self]
 have h1:((x.rs.map (·.1)).zip ess.tail).map (·.1)=x.rs.map (·.1):=List.map_fst_zip (by omega)
 have hl2:b'.runs.length=x.rs.length:=by have:=ho.l2;simp[partsB]at this;exact this
 have e1:((x.rs.map (·.1)).zip ess.tail).map (fun p=>hdV p.1)=x.rs.map fun p=>hdV p.1:=by
  have:((x.rs.map (·.1)).zip ess.tail).map (fun p=>hdV p.1)=(((x.rs.map (·.1)).zip ess.tail).map (·.1)).map hdV:=by rw[List.map_map];rfl
  rw[this,h1,List.map_map];rfl
 refine⟨⟨x.ra,x.rc,(x.m.1,ess.getD 0 []),(x.rs.map (·.1)).zip ess.tail⟩,rfl,rfl,rfl,h1,?_⟩
 refine⟨ho.low,ho.oe 0 (by simp),?_,?_,fun i hi=>?_,?_⟩
 ·dsimp only
  rw[hzl,e1];exact hds
 ·dsimp only
  rw[hzl,hl2]
 ·dsimp only
  have hi':i<x.rs.length:=by omega
  have hr:=ho.oe (i+1) (by simp;omega)
  have g1:((x.m::x.rs).map (·.1)).getD (i+1) hd0=(((x.rs.map (·.1)).zip ess.tail).getD i default).1:=by
   rw[List.map_cons,List.getD_cons_succ,gDe,gDe,gEe (by rw[lMp];exact hi'),gEe (by rw[hzl];exact hi')]
   simp
  have g2:ess.getD (i+1) []=(((x.rs.map (·.1)).zip ess.tail).getD i default).2:=by
   rw[gDe,gDe,gEe (by omega),gEe (by rw[hzl];exact hi')]
   simp
  have g3:(partsB b').getD (i+1) []=b'.runs.getD i default:=by
   unfold partsB;rw[List.getD_cons_succ];rfl
  rw[g1,g2,g3]at hr
  exact hr
 ·dsimp only
  rw[List.map_cons,e1]
  have:=ho.two
  rw[List.map_map,List.map_cons]at this
  exact this
theorem Nb{x':BX}(h1:x'.m.1=x.m.1)(h2:x'.rs.map (·.1)=x.rs.map (·.1)){p:Part}(hp:p∈x'.m::x'.rs):∃q∈x.m::x.rs,q.1=p.1:=by
 rcases List.mem_cons.1 hp with rfl|hp
 ·exact⟨x.m,List.mem_cons_self ..,h1.symm⟩
 ·have:p.1∈x.rs.map (·.1):=by rw[<-h2];exact List.mem_map.2 ⟨p,hp,rfl⟩
  obtain⟨q,hq,e⟩:=List.mem_map.1 this
  exact⟨q,List.mem_cons_of_mem _ hq,e⟩
theorem PQ{x1:BX}{b:Buf}(h:OB V base x b)(hs:V.heap.size<=X.heap.size)(hko:Aj (Na ((x1.m::x1.rs).map (·.1))) V X)(hap:∀p∈x.m::x.rs,∀q∈x1.m::x1.rs,apB (hdV p.1) (hdV q.1)):OB X base x b:=by
 have hty:∀g t,An V g t->t≠63->X.heap[g]? =V.heap[g]? :=fun g t hg ht=>by
  obtain⟨c,f,e⟩:=hg
  rw[e]
  exact hko g _ e rfl (.inl (fun c' f' e'=>by injection e' with _ e2 _;exact ht e2))
 have hoe:∀{p:Part} {l:List Ent},p∈x.m::x.rs->OE V base (hdV p.1) p.2 l->OE X base (hdV p.1) p.2 l:=fun {p l} hp ho=>ho.same hs (fun g cur t hg ht=>by
  rcases ht with⟨hv,rfl⟩|rfl
  ·rw[hg]
   refine hko g _ hg rfl (.inr (fun q hq e=>?_))
   obtain⟨z,hz,rfl⟩:=List.mem_map.1 hq
   exact hap p hp z hz g hv e
  ·exact hty g _ ⟨cur,_,hg⟩ (by decide))
 refine⟨Nat.le_trans h.low hs,hoe (List.mem_cons_self ..) h.mem,A2 h.hds (fun g hg=>hty g _ (A7 h.hds hg) (by decide)),h.rlen,fun i hi=>hoe (List.mem_cons_of_mem _ ?_) (h.runs i hi),h.two⟩
 exact Bb (by rw[h.rlen];exact hi)
theorem PU{U:World}{x:pl.PA}{s':Jn}{y':JX}(h:boxC U b p x s y t)(e1:s'.L.lim=s.L.lim)(e2:s'.R.lim=s.R.lim)(e3:s'.lm=s.lm)(e4:s'.rm=s.rm)(e5:s'.seq=s.seq)
 (l1:y'.l.m.1=y.l.m.1) (l2:y'.l.ra=y.l.ra) (l3:y'.l.rc=y.l.rc) (l4:y'.l.rs.length=y.l.rs.length) (r1:y'.r.m.1=y.r.m.1) (r2:y'.r.ra=y.r.ra) (r3:y'.r.rc=y.r.rc) (r4:y'.r.rs.length=y.r.rs.length):boxC U b p x s' y' t:=by
 refine⟨h.plan,?_,h.told,h.room⟩
 have:=h.join
 unfold jnC at *
 rw[e1,e2,e3,e4,e5,l1,l2,l3,l4,r1,r2,r3,r4]
 exact this
def GY(w w':World):Prop:=Below 0 w w'/\∀g e,An w g e->e≠63->w'.heap[g]? =w.heap[g]?
theorem GY.cell{e:TypeId}{w':World}{o:Nat}{v:Value}(h:GY w w')(hg:An w g e)(h1:e≠63)(hc:w.cell? ⟨g,o,none⟩=some v):w'.cell? ⟨g,o,none⟩=some v:=(cOb (w:=w) (a:=⟨g,o,none⟩) (h.2 g e hg h1)).trans hc
theorem S9{x:pl.PA}(h:JSt w0 w b T p x s y t L)(hb:Bwz w V)(hn:NSt w0 V X base hs ls)(hz:V.heap.size<=X.heap.size):GY w X:=by
 refine⟨⟨hn.bl.os.trans h.bl.os.symm,hn.bl.tape.trans h.bl.tape.symm,hn.bl.output.trans h.bl.output.symm,Nat.le_trans hb.size hz,fun k hk=>absurd hk (Nat.not_lt_zero k)⟩,fun g e hg he=>?_⟩
 have h1:=hb.block g (Ba hg)
 obtain⟨c,f,k⟩:=hg
 rw[k]
 exact hn.ko g _ (h1.trans k) rfl (.inl (fun c' f' e'=>by injection e' with _ e2 _;exact he e2))
theorem JSt.met{x:pl.PA}(h:JSt w0 V b T p x s y t L)(hT:calmC T)(side:Int)(qs:List Int)(hn:NSt w0 V X w0.heap.size (((Bj y side).m::(Bj y side).rs).map (·.1)) (partsB (BC qs (Ae s side))))(hz:V.heap.size<=X.heap.size):
 ∃y',JSt w0 X b T p x (Au s side (BC qs (Ae s side))) y' t L:=by
 have hko:=hn.ko
 have hty:∀g e,An V g e->e≠63->X.heap[g]? =V.heap[g]? :=fun g e hg he=>by
  obtain⟨c,f,k⟩:=hg
  rw[k]
  exact hko g _ k rfl (.inl (fun c' f' e'=>by injection e' with _ e2 _;exact he e2))
 obtain⟨ess,ho⟩:=hn.op
 have hbx:X.heap[b]? =V.heap[b]? :=hty b T h.ty hT.t.e
 have hbox:=FU h.box hbx
 have hcg:=CG.other h.cg hz (fun g hg=>hg.elim (fun k=>hty g _ k (by decide)) (fun k=>hty g _ k (by decide)))
 by_cases e:side=2
 ·have eb:Bj y side=y.r:=by unfold Bj;rw[if_pos e]
  have es:Ae s side=s.R:=by unfold Ae;rw[if_pos e]
  rw[eb]at ho hko
  rw[es]at ho
  rw[es]
  obtain⟨x',a1,a2,a3,a4,a5⟩:=PP ho (A2 h.r.hds (fun g hg=>hty g _ (A7 h.r.hds hg) (by decide)))
  have hl:x'.rs.length=y.r.rs.length:=by have:=congrArg List.length a4;simpa using this
  unfold Au
  rw[if_pos e]
  refine⟨⟨y.l,x'⟩,PU hbox rfl rfl rfl rfl rfl rfl rfl rfl rfl a3 a1 a2 hl,AD h.ty hbx,h.up,PQ h.l hz hko (fun p hp q hq=>h.ap p hp q hq),a5,fun p hp q hq=>?_,hcg,hn.bl⟩
  obtain⟨q',hq',e'⟩:=Nb a3 a4 hq
  rw[<-e']
  exact h.ap p hp q' hq'
 ·have eb:Bj y side=y.l:=by unfold Bj;rw[if_neg e]
  have es:Ae s side=s.L:=by unfold Ae;rw[if_neg e]
  rw[eb]at ho hko
  rw[es]at ho
  rw[es]
  obtain⟨x',a1,a2,a3,a4,a5⟩:=PP ho (A2 h.l.hds (fun g hg=>hty g _ (A7 h.l.hds hg) (by decide)))
  have hl:x'.rs.length=y.l.rs.length:=by have:=congrArg List.length a4;simpa using this
  unfold Au
  rw[if_neg e]
  refine⟨⟨x',y.r⟩,PU hbox rfl rfl rfl rfl rfl a3 a1 a2 hl rfl rfl rfl rfl,AD h.ty hbx,h.up,a5,PQ h.r hz hko (fun p hp q hq=>Jb (h.ap q hq p hp)),fun p hp q hq=>?_,hcg,hn.bl⟩
  obtain⟨p',hp',e'⟩:=Nb a3 a4 hp
  rw[<-e']
  exact h.ap p' hp' q hq
end jn
namespace jn
open Go.ChangeShapes Go.WideShapes Go.ChangeAt Go.RowKit
open vl bf
attribute [local go_sem] Oper.semAt_some
variable {p : pl.Pln} {s : Jn} {v : Ev} {tO : Int}
def Bo(p:pl.Pln)(v:Ev)(ra:Option Addr)(rc:Nat):Value:=.agg #[.int .i64 v.side,.int .i64 v.time,.slice ra v.row.length rc,.string (pl.Am p v.side v.row),.bool (pl.hasB p v.side v.row)]
theorem Nc(p:pl.Pln)(x:pl.PA)(v:Ev)(ra:Option Addr)(rc:Nat)(w:World)(hw:pl.wfPlan p)(hp:pl.planAt w p x)(hv:evAt w v ra):
 Calls Tryz.prog 49 #[pl.As p x,evV v ra rc] w fun e w'=>e= .returned (Bo p v ra rc)/\Bwz w w':=by
 have KK:=hIz (fun(w1:World) (hb:Bwz w w1)=>pl.Iq p x v.side ra rc v.row w1 hw (pl.Ah hp hb) (vl.Ac hv.row hb) hv.wf hv.len)
 unfold Bo
 obtain⟨kb,h1⟩:=nM (pl.Am p v.side v.row)
 obtain⟨hb,h2⟩:=nM (pl.hasB p v.side v.row)
 obtain⟨re,h3⟩:=nM (pl.AV p v.side v.row)
 rw[h1,h2,h3]at KK
 rw[h1,h2]
 clear h1 h2 h3 hw hp hv
 unfold pl.As at KK⊢
 unfold evV
 obtain⟨kd,sd,tm,row⟩:=v
 dsimp only at *
 obtain⟨n,hn⟩:=nM row.length
 rw[hn]at KK⊢
 clear hn
 go_enter func49,ntmps49
 go_wp2_with fail
 generalize hV:(World.alloc (World.alloc (World.alloc w _) _) _)=V
 have hb0:Bwz w V:=by rw[<-hV];exact((bR.alloc nR _).alloc (by simp) _).alloc (by simp;omega) _
 have q1:V.cell? ⟨w.heap.size+1,1,none⟩=some (.int .i64 sd):=by subst hV;go_simp
 have q2:V.cell? ⟨w.heap.size+1,2,none⟩=some (.int .i64 tm):=by subst hV;go_simp
 have q3:V.cell? ⟨w.heap.size+1,3,none⟩=some (.slice ra n rc):=by subst hV;go_simp
 have z0:V.cell? ⟨w.heap.size+1+1,0,none⟩=some (.int .i64 0):=by subst hV;go_simp
 have z1:V.cell? ⟨w.heap.size+1+1,1,none⟩=some (.int .i64 0):=by subst hV;go_simp
 have z2:V.cell? ⟨w.heap.size+1+1,2,none⟩=some (.slice none 0 0):=by subst hV;go_simp
 have z3:V.cell? ⟨w.heap.size+1+1,3,none⟩=some (.string ⟨#[]⟩):=by subst hV;go_simp
 have z4:V.cell? ⟨w.heap.size+1+1,4,none⟩=some (.bool false):=by subst hV;go_simp
 have o0:V.frozen? ⟨w.heap.size+1+1,0,none⟩=false:=by subst hV;go_simp
 have o1:V.frozen? ⟨w.heap.size+1+1,1,none⟩=false:=by subst hV;go_simp
 have o2:V.frozen? ⟨w.heap.size+1+1,2,none⟩=false:=by subst hV;go_simp
 have o3:V.frozen? ⟨w.heap.size+1+1,3,none⟩=false:=by subst hV;go_simp
 have o4:V.frozen? ⟨w.heap.size+1+1,4,none⟩=false:=by subst hV;go_simp
 clear hV
 refine(KK.out _ hb0).mono ?_
 rintro e w1 ⟨rfl,hb1⟩
 have hbw:Bwz w w1:=hb0.trans (hb1.mono hb0.size)
 have lz:=bLt _ _ z0
 replace q1:=cLz hb1 q1
 replace q2:=cLz hb1 q2
 replace q3:=cLz hb1 q3
 replace z0:=cLz hb1 z0
 replace z1:=cLz hb1 z1
 replace z2:=cLz hb1 z2
 replace z3:=cLz hb1 z3
 replace z4:=cLz hb1 z4
 replace o0:=(hb1.frozen (p:=⟨w.heap.size+1+1,0,none⟩) lz).trans o0
 replace o1:=(hb1.frozen (p:=⟨w.heap.size+1+1,1,none⟩) lz).trans o1
 replace o2:=(hb1.frozen (p:=⟨w.heap.size+1+1,2,none⟩) lz).trans o2
 replace o3:=(hb1.frozen (p:=⟨w.heap.size+1+1,3,none⟩) lz).trans o3
 replace o4:=(hb1.frozen (p:=⟨w.heap.size+1+1,4,none⟩) lz).trans o4
 clear hb1 hb0 KK lz
 go_wp2
 exact bodyPost_ret (v:=.agg #[.int .i64 sd,.int .i64 tm,.slice ra n rc,.string kb,.bool hb]) (by simp[results,results49,go_sem,z0,z1,z2,z3,z4]) rfl ⟨rfl,((((hbw.setCell (by dsimp only;omega) _).setCell (by dsimp only;omega) _).setCell (by dsimp only;omega) _).setCell (by dsimp only;omega) _).setCell (by dsimp only;omega) _⟩
theorem SA(h:pl.Ai p=0)(side:Int):1<=(pl.A1 p side).length/\(pl.A1 p side).length<=4:=by
 have:=pl.F5 (pl.BG h).2.2.1
 unfold pl.A1
 split<;>omega
theorem Jr(n:Nat):(bt.Cs n).length=n:=by unfold bt.Cs;rw[List.length_replicate]
theorem FJ(b:Nat)(p:pl.Pln)(x:pl.PA)(side:Int)(ra:Option Addr)(rc:Nat)(row:List Cel)(w:World)(hp:pl.Ai p=0)(hs:pl.A0 side=true)(hb:BB w b p x)(hr:vl.rowAt w ra row)(n1:0<row.length)(m1:row.length<=400):
 Calls Tryz.prog 270 #[.pointer (some ⟨b,0,none⟩),.int .i64 side,.slice ra row.length rc] w fun e w'=>(∃ad cap,e= .returned (.slice ad (AH p side row).length cap)/\AM w' w.heap.size (.slice ad (AH p side row).length cap) (AH p side row))/\Bwz w w':=by
 have hc:=SA hp (3 - side)
 have KO:=hIz (fun(w1:World)=>FP side w1 hs)
 have KN:=hIz (fun(w1:World)=>bt.QA p x (3 - side) w1 hc.1 hc.2)
 have KJ:Hid (∀gb w1,Bwz w w1->vl.rowAt w1 (some ⟨gb,0,none⟩) (bt.Cs (pl.A1 p (3 - side)).length)->Calls Tryz.prog 267 #[.int .i64 side,.slice ra row.length rc,.slice (some ⟨gb,0,none⟩) (pl.A1 p (3 - side)).length (pl.A1 p (3 - side)).length] w1 fun e w'=>(∃ad cap,e= .returned (.slice ad (AH p side row).length cap)/\AM w' w1.heap.size (.slice ad (AH p side row).length cap) (AH p side row))/\Bwz w1 w'):=fun gb w1 hb1 hn=>by
  have:=C0 side ra (some ⟨gb,0,none⟩) rc (pl.A1 p (3 - side)).length row (bt.Cs (pl.A1 p (3 - side)).length) w1 n1 (by rw[Jr];omega) m1 (by rw[Jr];omega) (vl.Ac hr hb1) hn
  rw[Jr]at this
  exact this
 obtain⟨v0,v1,v2,v3,v4,v5,v6,v7,v8,v9,v10,v11,v12⟩:=hb
 have SK:Hid (∀w',Bwz w w'->w'.cell? ⟨b,0,none⟩=some (.int .i64 p.kind)/\w'.cell? ⟨b,1,none⟩=some (.int .i64 p.mode)/\w'.cell? ⟨b,2,none⟩=some (.int .i64 p.low)/\w'.cell? ⟨b,3,none⟩=some (.int .i64 p.high)/\w'.cell? ⟨b,4,none⟩=some (.int .i64 p.size)/\w'.cell? ⟨b,5,none⟩=some (.int .i64 p.limit)/\w'.cell? ⟨b,6,none⟩=some (.slice x.l p.left.length x.lc)/\w'.cell? ⟨b,7,none⟩=some (.slice x.r p.right.length x.rc)/\w'.cell? ⟨b,8,none⟩=some (.slice x.lk p.lkeys.length x.lkc)/\w'.cell? ⟨b,9,none⟩=some (.slice x.rk p.rkeys.length x.rkc)/\w'.cell? ⟨b,10,none⟩=some (.bool p.grouped)/\w'.cell? ⟨b,11,none⟩=some (.slice x.g p.group.length x.gc)/\w'.cell? ⟨b,12,none⟩=some (.slice x.a p.aggs.length x.ac)):=fun w' hz=>⟨cLz hz v0,cLz hz v1,cLz hz v2,cLz hz v3,cLz hz v4,cLz hz v5,cLz hz v6,cLz hz v7,cLz hz v8,cLz hz v9,cLz hz v10,cLz hz v11,cLz hz v12⟩
 obtain⟨q,hq⟩:=nM ((AH p side row).length)
 obtain⟨n,hn⟩:=nM ((pl.A1 p (3 - side)).length)
 obtain⟨od,hod⟩:=nM (3 - side)
 obtain⟨rl,hrl⟩:=nM row.length
 rw[hn,hq,hrl]at KJ
 rw[hn,hod]at KN
 rw[hod]at KO
 rw[hq,hrl]
 clear hn hq hod hrl hc hp hs hr n1 m1
 unfold pl.As at KN
 go_enter func270,ntmps270
 go_wp2
 go_region_held3 (fun w'=>w'.cell? ⟨b,0,none⟩=some (.int .i64 p.kind)/\w'.cell? ⟨b,1,none⟩=some (.int .i64 p.mode)/\w'.cell? ⟨b,2,none⟩=some (.int .i64 p.low)/\w'.cell? ⟨b,3,none⟩=some (.int .i64 p.high)/\w'.cell? ⟨b,4,none⟩=some (.int .i64 p.size)/\w'.cell? ⟨b,5,none⟩=some (.int .i64 p.limit)/\w'.cell? ⟨b,6,none⟩=some (.slice x.l p.left.length x.lc)/\w'.cell? ⟨b,7,none⟩=some (.slice x.r p.right.length x.rc)/\w'.cell? ⟨b,8,none⟩=some (.slice x.lk p.lkeys.length x.lkc)/\w'.cell? ⟨b,9,none⟩=some (.slice x.rk p.rkeys.length x.rkc)/\w'.cell? ⟨b,10,none⟩=some (.bool p.grouped)/\w'.cell? ⟨b,11,none⟩=some (.slice x.g p.group.length x.gc)/\w'.cell? ⟨b,12,none⟩=some (.slice x.a p.aggs.length x.ac)) (first|exact SK.out _ hy|exact SK.out _ (bR.drew)|go_keep)
  (first
   |(go_at_call 267;refine(KJ.out _ _ hy hnr).mono ?_;rintro e wj ⟨⟨ad,cap,rfl,ho⟩,hbj⟩;have hyj:Bwz w wj:=hy.trans (hbj.mono hy.size);have hso:w.heap.size<=wn.heap.size:=hy.size;have hy:=hyj)
   |(go_at_call 275;refine(KN.out _).mono ?_;rintro e wn ⟨⟨gb,rfl,hgb,hnr⟩,hbn⟩;have hy:Bwz w wn:=bR.drew.trans hbn)
   |(go_at_call 264;refine(KO.out _).mono ?_;rintro e w2 ⟨rfl,rfl⟩))
 all_goals
  go_wp2
  go_ret
  exact⟨⟨ad,cap,rfl,World.ownsRow.mono ho hso⟩,hyj⟩
def Bv(p:pl.Pln)(s:Jn)(v:Ev)(fr tO:Int):List Ent:=if pl.hasB p v.side v.row=true then Cu (Ae s (3 - v.side)) (pl.Am p v.side v.row) fr tO else []
theorem QQ(b:Buf)(k:ByteArray)(a z:Int):((Ab b).filter fun y=>decide (y.key=k)&&decide (a<=y.time)&&decide (y.time<=z))=(Ab b).filter (GD k a z):=by
 congr 1
 funext y
 unfold GD
 rw[Bool.and_assoc]
theorem PV{b:Buf}(h:okB b){k:ByteArray}{a z:Int}{l:List Ent}(hp:l.Perm ((Ab b).filter (GD k a z)))(hb:Kf l):l=Cu b k a z:=by
 unfold Cu
 rw[QQ]
 exact Jl hp hb (h.once.sublist (List.filter_sublist.map _))
theorem GZ{fr:Int}(h:okB (Ae s (3 - v.side))):(Bv p s v fr tO).length<=4096:=by
 unfold Bv
 split
 ·unfold Cu
  rw[(AU _).length_eq]
  exact Nat.le_trans (List.length_filter_le ..) h.all
 ·exact Nat.zero_le _
theorem Ha{fr:Int}{y:Ent}(h:y∈Bv p s v fr tO):y∈Ab (Ae s (3 - v.side)):=by
 unfold Bv at h
 split at h
 ·unfold Cu at h
  exact(List.mem_filter.1 ((AU _).mem_iff.1 h)).1
 ·exact absurd h List.not_mem_nil
theorem Fo(b:Nat)(p:pl.Pln)(x:pl.PA)(s:Jn)(y:JX)(t:Value)(v:Ev)(ra:Option Addr)(rc:Nat)(fr tO:Int)(w:World)(hs:pl.A0 v.side=true)(h:boxC w b p x s y t)(hB:bufAt w (Ae s (3 - v.side)) (Bj y (3 - v.side)))(ok:okB (Ae s (3 - v.side)))(wf:∀z∈Ab (Ae s (3 - v.side)),wfE z/\wfP (AS z)):
 Calls Tryz.prog 266 #[.pointer (some ⟨b,0,none⟩),Bo p v ra rc,.int .i64 fr,.int .i64 tO] w fun e w'=>(∃hh es,e= .returned (hdV hh)/\OE w' w.heap.size (hdV hh) es (Bv p s v fr tO))/\Bwz w w':=by
 unfold Bv Bo
 cases hk:pl.hasB p v.side v.row with
 |false=>
  rw[if_neg (by decide)]
  obtain⟨kb,h1⟩:=nM (pl.Am p v.side v.row)
  obtain⟨rl,hrl⟩:=nM v.row.length
  rw[h1,hrl]
  clear h1 hrl
  go_enter func266,ntmps266
  go_wp2
  go_ret
  exact⟨⟨(none,0,0),[],rfl,De (by simp)⟩,bR.alloc nR _⟩
 |true=>
  rw[if_pos rfl]
  have KO:=hIz (fun(w1:World)=>FP v.side w1 hs)
  have KB:Hid (∀w1,Calls Tryz.prog 144 #[.pointer (some ⟨b,13,none⟩),.int .i64 (3 - v.side)] w1 fun e w'=>e= .returned (.pointer (some ⟨b,13+Ap (3 - v.side),none⟩))/\w'=w1):=fun w1=>Em b 13 (3 - v.side) w1
  obtain⟨HC0,HC1,HC2⟩:=DO h.join (3 - v.side)
  have hbl:=h.lt
  obtain⟨B,hBf⟩:=nM (Ae s (3 - v.side))
  obtain⟨X,hX⟩:=nM (Bj y (3 - v.side))
  rw[hBf]at HC0 hB ok wf⊢
  rw[hX]at HC1 HC2 hB
  have KS:Hid (∀w1,Bwz w w1->Calls Tryz.prog 273 #[AQ B X,.string (pl.Am p v.side v.row),.int .i64 fr,.int .i64 tO] w1 fun e w'=>(∃(hh:Hdr) (es':List EM),e= .returned (.tuple #[hdV hh,.int .i64 0])/\OE w' w1.heap.size (hdV hh) es' (Cu B (pl.Am p v.side v.row) fr tO))/\Bwz w1 w'):=fun w1 hb=>(Qr B X _ fr tO w1 (Ak hB hb) wf (by have:=ok.all;omega) (CV ok)).mono (by
   rintro e w' ⟨⟨hh,es',l',rfl,hp,hby,ho⟩,hb'⟩
   rw[PV ok hp hby]at ho
   exact⟨⟨hh,es',rfl,ho⟩,hb'⟩)
  obtain⟨kb,h1⟩:=nM (pl.Am p v.side v.row)
  obtain⟨rl,hrl⟩:=nM v.row.length
  obtain⟨k,hkk⟩:=nM (13+Ap (3 - v.side))
  rw[h1]at KS
  rw[hkk]at KB HC0 HC1 HC2
  rw[h1,hrl]
  obtain⟨LS,hLS⟩:=nM (Cu B kb fr tO)
  rw[hLS]at KS⊢
  obtain⟨od,hod⟩:=nM (3 - v.side)
  rw[hod]at KO KB
  obtain⟨ra',rc',⟨⟨m1,m2,m3⟩,ml⟩,rs⟩:=X
  obtain⟨lim,mem,runs⟩:=B
  unfold AQ hdV at KS
  dsimp only at KS HC0 HC1 HC2
  obtain⟨n,hn⟩:=nM rs.length
  rw[hn]at KS HC2
  clear h1 hrl hkk hLS hod hn h hB ok wf hBf hX hk hs
  have hne:b≠w.heap.size:=by omega
  go_enter func266,ntmps266
  go_wp2
  generalize hV:(World.alloc w _)=V
  have hb0:Bwz w V:=by rw[<-hV];exact bR.alloc nR _
  have c0:V.cell? ⟨w.heap.size,0,none⟩=some (.int .i64 v.side):=by subst hV;go_simp
  have c3:V.cell? ⟨w.heap.size,3,none⟩=some (.string kb):=by subst hV;go_simp
  replace HC0:=cLz hb0 HC0
  replace HC1:=cLz hb0 HC1
  replace HC2:=cLz hb0 HC2
  clear hV
  have SK:Hid (∀w',Bwz V w'->w'.cell? ⟨w.heap.size,0,none⟩=some (.int .i64 v.side)/\w'.cell? ⟨w.heap.size,3,none⟩=some (.string kb)/\w'.cell? ⟨b,k,none⟩=some (.int .i64 lim)/\w'.cell? ⟨b,k+1,none⟩=some (.slice m1 m2 m3)/\w'.cell? ⟨b,k+1+1,none⟩=some (.slice ra' n rc')):=fun w' hz=>⟨cLz hz c0,cLz hz c3,cLz hz HC0,cLz hz HC1,cLz hz HC2⟩
  go_region_held3 (fun w'=>w'.cell? ⟨w.heap.size,0,none⟩=some (.int .i64 v.side)/\w'.cell? ⟨w.heap.size,3,none⟩=some (.string kb)/\w'.cell? ⟨b,k,none⟩=some (.int .i64 lim)/\w'.cell? ⟨b,k+1,none⟩=some (.slice m1 m2 m3)/\w'.cell? ⟨b,k+1+1,none⟩=some (.slice ra' n rc')) (first|exact SK.out _ hy|exact SK.out _ (bR.drew)|go_keep)
   (first
    |(go_at_call 273;refine(KS.out _ hb0.drew).mono ?_;rintro e wn ⟨⟨hh,es',rfl,ho⟩,hbn⟩;have hy:Bwz V wn:=bR.drew.trans hbn;obtain⟨h1,h2,h3⟩:=hh;dsimp only at ho⊢)
    |(go_at_call 144;refine(KB.out _).mono ?_;rintro e w3 ⟨rfl,rfl⟩)
    |(go_at_call 264;refine(KO.out _).mono ?_;rintro e w2 ⟨rfl,rfl⟩))
  all_goals
   go_wp2
   go_ret
   exact⟨⟨(h1,h2,h3),es',rfl,ho.mono (by have:=hb0.size;simpa using this)⟩,hb0.trans (hy.mono hb0.size)⟩
end jn
end Go.Proofs.YtdohnkkbkfhphaaGreat
