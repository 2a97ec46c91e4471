import Derived.Test.YtfkihidbnfkbaaaGreatDoorPv25
import Derived.Test.YtfkihidbnfkbaaaGreatDoorPv24
import Derived.Deep.DeepCutAuto
set_option linter.all false
set_option maxHeartbeats 8000000
set_option maxRecDepth 100000
open Go.ChangeShapes Go.WideShapes Go.ChangeAt Go.RowKit Go.Shelf Go.Maps List
open Inhabited renaming default->ϰ
namespace Go.Proofs.YtfkihidbnfkbaaaGreatDoor
open Go.Proofs.Tryz
namespace bf
variable {w w':Ϡ}{base:Nat}{hs:List Hdr}{e:List (List EM)}{ls:List (List Ent)}
theorem OP.below(h:OP w base hs e ls)(c:ϣ w w'):OP w' base hs e ls:=⟨Nat.le_trans h.low c.size,h.l1,h.l2,λk q=>(h.oe k q).below c,h.two⟩
theorem OP.same(h:OP w base hs e ls)(c:w.heap.size<=w'.heap.size)(d:∀g,Ah w g 166\/Ah w g 119->w'.heap[g]? =w.heap[g]?):OP w' base hs e ls:=⟨Nat.le_trans h.low c,h.l1,h.l2,λk q=>(h.oe k q).other c d,h.two⟩
end bf
namespace jn
theorem boxC.later{U W:Ϡ}{b:Nat}{p:pl.Pln}{x:pl.PA}{s:Jn}{y:JX}{t:Value}(h:boxC U b p x s y t)(c:ϣ U W):boxC W b p x s y t:=by
 obtain⟨a,d,e,f,g,i,j,k,l⟩:=h.join;exact⟨Af h.plan c,⟨cLz c a,cLz c d,cLz c e,cLz c f,cLz c g,cLz c i,cLz c j,cLz c k,cLz c l⟩,cLz c h.told,Ci h.room c⟩
end jn
namespace jn
open vl bf
variable {V X Y w w' w0 : Ϡ} {b base g i j k : Nat} {x : BX} {t v : Value} {L : List CO} {T e : TypeId} {p : pl.Pln} {s : Jn} {y : JX} {l : List Ent} {ls : List (List Ent)} {hs : List Hdr}
structure calmC(T:TypeId):Prop where
 t:calmT T
 c:T≠217
theorem OB.other{b:Buf}(h:OB w base x b)(hs:w.heap.size<=w'.heap.size)(c:∀g,Ah w g 166\/Ah w g 119->w'.heap[g]? =w.heap[g]?)(f:∀g,Ah w g 33->w'.heap[g]? =w.heap[g]?):OB w' base x b:=
 ⟨Nat.le_trans h.low hs,h.mem.other hs c,A1 h.hds (λg d=>f g (A9 h.hds d)),h.rlen,λi m=>(h.runs i m).other hs c,h.two⟩
theorem CG.other(h:CG w base v L)(hs:w.heap.size<=w'.heap.size)(q:∀g,Ah w g 217\/Ah w g 119->w'.heap[g]? =w.heap[g]?):CG w' base v L:=by
 have f:bt.Est w base ((⟨v,217,2,L.length,ch.BF (L.map CO.pair)⟩:bt.Own1)::L.map λx=>Dx x.rv x.row):=h;refine bt.Est.mk (Nat.le_trans (bt.Est.low f) hs) (λz d=>?_) (bt.Est.two f);have m:=bt.Est.own f z d;refine A1 m (λg n=>q g ?_);rcases mem_cons.1 d with rfl|d
 ·exact .inl (A9 m n)
 ·obtain⟨c,_,rfl⟩:=mem_map.1 d;exact .inr (A9 m n)
structure JSt(w0 w:World)(b:Nat)(T:TypeId)(p:pl.Pln)(x:pl.PA)(s:Jn)(y:JX)(t:Value)(L:List CO):Prop where
 box:boxC w b p x s y t
 ty:Ah w b T
 up:w0.heap.size<=b
 l:OB w w0.heap.size y.l s.L
 r:OB w w0.heap.size y.r s.R
 ap:Acr y.l y.r
 cg:CG w w0.heap.size t L
 bl:ϣ w0 w
theorem JSt.below{x:pl.PA}(h:JSt w0 w b T p x s y t L)(c:ϣ w w'):JSt w0 w' b T p x s y t L:=
 ⟨h.box.later c,Ak h.ty c,h.up,h.l.below c,h.r.below c,h.ap,h.cg.below c,h.bl.trans (c.mono h.bl.size)⟩
theorem Xp(m:Us w w' b t)(f:Ah w b T)(h:CG w base t L)(h1:T≠e)(d:e≠217)(c:Ah w g e):w'.heap[g]? =w.heap[g]? :=
 m.2.1 g (AH c) (tyAt_apart c f h1.symm) (λk=>tyAt_apart c (A9 h.own k) d rfl)
theorem JSt.told{x:pl.PA}{n:Value}{q:List CO}(h:JSt w0 w b T p x s y t L)(f:calmC T)(D:boxC w' b p x s y n)(F:CG w' w0 n q)(c:Us w w' b t):JSt w0 w' b T p x s y n q:=by
 have m:∀e,T≠e->e≠217->∀g,Ah w g e->w'.heap[g]? =w.heap[g]? :=λe B C g d=>Xp c h.ty h.cg B C d;have r:=m _ f.t.e ϥ;have z:=m _ f.t.v ϥ;have u:=m _ f.t.h ϥ;have E:Ah w' b T:=c.2.2 T h.ty;exact⟨D,E,h.up,OB.other h.l c.1.size (λg d=>d.elim (r g) (z g)) (u),OB.other h.r c.1.size (λg d=>d.elim (r g) (z g)) u,h.ap,F,⟨c.1.os.trans h.bl.os,c.1.tape.trans h.bl.tape,c.1.output.trans h.bl.output,Nat.le_trans h.bl.size c.1.size,λk A=>(c.2.1 k (Nat.lt_of_lt_of_le A h.bl.size) (by have:=h.up;omega) (λe=>by have:=(AL h.cg.own e).1;omega)).trans (h.bl.block k A)⟩⟩
def doneL(f:Ent->Ent)(l:List Ent)(k:Nat):List Ent:=(l.take k).map f++l.drop k
def Df(f:Ent->Ent)(ls:List (List Ent))(k:Nat):List (List Ent):=(ls.take k).map (λl=>l.map f)++ls.drop k
def doneD(f:Ent->Ent)(ls:List (List Ent))(i j:Nat):List (List Ent):=(Df f ls i).set i (doneL f (ls.getD i []) j)
theorem Ma(f:Ent->Ent)(l:List Ent)(k:Nat):(doneL f l k).length=l.length:=by
 unfold doneL;rw[lAp,lMp,length_take,length_drop];omega
theorem Oo(f:Ent->Ent)(l:List (List Ent))(k:Nat):(Df f l k).length=l.length:=by
 unfold Df;rw[lAp,lMp,length_take,length_drop];omega
theorem Oq{f:Ent->Ent}(h:k<l.length):(doneL f l k).getD k ϰ=l.getD k ϰ:=by
 unfold doneL;rw[BG (d:=ϰ) h,gDe,getElem?_append_right (by rw[lMp,length_take];omega),lMp,length_take,show k - min k l.length=0 by omega];rfl
theorem Qm{f:Ent->Ent}{l:List (List Ent)}(h:k<l.length):(Df f l k).getD k []=l.getD k []:=by
 unfold Df;rw[BG (d:=[]) h,gDe,getElem?_append_right (by rw[lMp,length_take];omega),lMp,length_take,show k - min k l.length=0 by omega];rfl
theorem Vx{f:Ent->Ent}(h:k<l.length):(doneL f l k).set k (f (l.getD k ϰ))=doneL f l (k+1):=by
 unfold doneL;rw[BG (d:=ϰ) h,set_mid f l k _ _ _ Ϥ,Ti f l k ϰ h,append_assoc];rfl
theorem Vy(f:Ent->Ent)(l:List Ent):doneL f l 0=l:=by unfold doneL;rfl
theorem Za(f:Ent->Ent)(l:List Ent):doneL f l l.length=l.map f:=by unfold doneL;rw[take_length,drop_length,append_nil]
theorem TP{f:Ent->Ent}{l:List (List Ent)}(h:k<l.length):(Df f l k).set k ((l.getD k []).map f)=Df f l (k+1):=by
 unfold Df;rw[BG (d:=[]) h,set_mid (λl=>l.map f) l k _ _ _ Ϥ,Ti (λl=>l.map f) l k [] h,append_assoc];rfl
theorem TQ(f:Ent->Ent)(l:List (List Ent)):Df f l 0=l:=by unfold Df;rfl
theorem Vz(c:List Int)(b:Buf):Df (metE c) (partsB b) (partsB b).length=partsB (DL c b):=by
 unfold Df;rw[take_length,drop_length,append_nil];rfl
theorem Ot{f:Ent->Ent}(h:i<ls.length):(doneD f ls i j).getD i []=doneL f (ls.getD i []) j:=En (by rw[Oo];exact h)
theorem VA{f:Ent->Ent}(h:i<ls.length):doneD f ls i 0=Df f ls i:=by
 unfold doneD;rw[Vy,<-Qm (f:=f) h];exact set_self (by rw[Oo];exact h)
theorem Zb{f:Ent->Ent}(h:i<ls.length):doneD f ls i (ls.getD i []).length=Df f ls (i+1):=by
 unfold doneD;rw[Za,TP h]
def TR(hs:List Hdr):Nat->Obj->Prop:=λg o=>(∀c f,o≠ .cells c 166 f)\/∀h∈hs,(hdV h).ownBlock≠some g
theorem Ii{W:Ϡ}{t:TypeId}(h:Ah W b t)(ht:t≠166):names (TR hs) W b:=λo c=>.inl (Vd h ht o c)
structure NSt(w0 V X:World)(base:Nat)(hs:List Hdr)(ls:List (List Ent)):Prop where
 op:∃ess,OP X base hs ess ls
 ko:A0 (TR hs) V X
 bl:ϣ w0 X
theorem NSt.row{f:Option Nat}{B:Nat}(h:NSt w0 V X base hs ls)(n:w0.heap.size<=B)(c:X.grownBy Y f)(d:∀r,f=some r->B<=r/\∃x:Obj,X.heap[r]? =some x/\x.isCells=false):NSt w0 V Y base hs ls:=by
 obtain⟨m,u⟩:=h.op;exact⟨⟨m,u.same c.size (λg q=>by rcases q with k|k;exact ty_row c (λr e=>(d r e).2) k;exact ty_row c (λr e=>(d r e).2) k)⟩,h.ko.grown c (λr e=>(d r e).2),D4 h.bl nR n c d⟩
theorem NSt.below(h:NSt w0 V X base hs ls)(c:ϣ X Y):NSt w0 V Y base hs ls:=by
 obtain⟨d,f⟩:=h.op;exact⟨⟨d,f.below c⟩,h.ko.trans (ND c),h.bl.trans (c.mono h.bl.size)⟩
theorem NSt.rec_put{D:Nat}{q:Obj}(h:NSt w0 V X base hs ls)(d:X.heap[D]? =some q)(n:q.isCells=false)(z:w0.heap.size<=D)(o:Obj):NSt w0 V (X.putObj D o) base hs ls:=by
 obtain⟨u,A⟩:=h.op;have r:∀g t,Ah X g t->(X.putObj D o).heap[g]? =X.heap[g]? :=λg t m=>World.putObj_heap_other (λe=>by
  obtain⟨c,f,k⟩:=m;rw[e,d]at k;injection k with k
  rw[k]at n
  cases n)
 exact⟨⟨u,A.same Ϧ (λg m=>m.elim (r g _) (r g _))⟩,h.ko.trans (A0.put X D q o d n),CY h.bl z d o⟩
theorem NSt.read{f:Ent->Ent}(h:NSt w0 V X base hs (doneD f ls i j))(A:i<hs.length)(I:ls.length=hs.length)(B:j<(ls.getD i []).length):
 ∃(g:Nat) (e:EM),hs.getD i hd0=(some ⟨g,0,none⟩,(ls.getD i []).length,(hs.getD i hd0).2.2)/\Δ X g (j * 5+2) (vI e.seq)/\Δ X g (j * 5+4) (.bool e.met)/\Ξ X g (j * 5+4)/\((ls.getD i []).getD j ϰ).seq=e.seq/\((ls.getD i []).getD j ϰ).met=e.met:=by
 obtain⟨d,D⟩:=h.op;have c:=D.oe i A;rw[Ot Ϥ]at c;have C:(doneL f (ls.getD i []) j).length=(ls.getD i []).length:=Ma _ _ _;obtain⟨g,n⟩:=NA c Ϥ;have q:(d.getD i []).length=(ls.getD i []).length:=by rw[c.len,C]
 rw[q]at n;have E:hdV (hs.getD i hd0)=vS (ϋ g) (d.getD i []).length (hs.getD i hd0).2.2:=by rw[n,q];rfl
 rw[E]at c;obtain⟨b,o,z,F,G,r,H,u⟩:=c.at j Ϥ
 cases z
 have m:=c.ers.2 j Ϥ;rw[Oq B]at m;rw[Nat.zero_add]at F G r H u;exact⟨g,(d.getD i []).getD j ϰ,n,r,u,Aes c.own _,m.seq.symm,m.met.symm⟩
theorem NSt.put{d:List Int}{v:Bool}(h:NSt w0 V X base hs (doneD (metE d) ls i j))(hw:w0.heap.size<=base)(B:i<hs.length)(hl:ls.length=hs.length)(n:j<(ls.getD i []).length)(A:(hs.getD i hd0).1=some ⟨g,0,none⟩)
 (R:Δ X g (j * 5+4) (.bool ((ls.getD i []).getD j ϰ).met)) (J:v=(((ls.getD i []).getD j ϰ).met||decide (((ls.getD i []).getD j ϰ).seq∈d))):
 NSt w0 V (ό X g (j * 5+4) (.bool v)) base hs (doneD (metE d) ls i (j+1))/\A0 (TR hs) X (ό X g (j * 5+4) (.bool v)):=by
 have H:i<ls.length:=Ϥ;have N:(doneD (metE d) ls i j).set i (doneL (metE d) (ls.getD i []) (j+1))=doneD (metE d) ls i (j+1):=by unfold doneD;rw[List.set_set]
 have E:=Vx (f:=metE d) n;by_cases r:((ls.getD i []).getD j ϰ).seq∈d
 ·have z:v=true:=by rw[J,decide_eq_true r,Bool.or_true]
  rw[z];have u:metE d ((ls.getD i []).getD j ϰ)=((ls.getD i []).getD j ϰ).meet:=by unfold metE;rw[if_pos r];rfl
  obtain⟨U,K⟩:=h.op;have S:j<((doneD (metE d) ls i j).getD i []).length:=by rw[Ot H,Ma];exact n
  have D:=K.oe i B;have C:(hdV (hs.getD i hd0)).ownBlock=some g:=by
   obtain⟨W,G⟩:=NA D Ϥ;rw[G]at A
   cases A
   rw[G];rfl
  have aa:=(AL D.own C).1;have I:A0 (TR hs) X (ό X g (j * 5+4) (.bool true)):=λb o F Z m=>by
   refine(heap_setCell_other _ _ _ _ (λe=>?_)).trans F;dsimp only at e;subst e;rcases m with m|m
   ·obtain⟨c,f,q⟩:=A9 D.own C;rw[F]at q;injection q with q
    exact m c f q
   ·exact m _ (AN B) C
  have M:=Afi K B S A;rw[Ot H,Oq n,<-u,E,N]at M;exact⟨⟨⟨_,M⟩,h.ko.trans I,h.bl.setCell Ϫ _⟩,I⟩
 ·have z:v=((ls.getD i []).getD j ϰ).met:=by rw[J,decide_eq_false r,Bool.or_false]
  rw[z,Acg R];have u:metE d ((ls.getD i []).getD j ϰ)=(ls.getD i []).getD j ϰ:=by unfold metE;rw[if_neg r]
  have O:doneL (metE d) (ls.getD i []) (j+1)=doneL (metE d) (ls.getD i []) j:=by
   rw[<-E,u,<-Oq (f:=metE d) n];exact set_self (by rw[Ma];exact n)
  have P:doneD (metE d) ls i (j+1)=doneD (metE d) ls i j:=by unfold doneD;rw[O]
  rw[P];exact⟨h,A0.refl _ _⟩
theorem NSt.hlen{f:Ent->Ent}(h:NSt w0 V X base hs (Df f ls i))(m:i<hs.length)(z:ls.length=hs.length):(hs.getD i hd0).2.1=(ls.getD i []).length:=by
 obtain⟨u,n⟩:=h.op;have c:=n.oe i m;rw[Qm Ϥ]at c;obtain⟨q,r,e⟩:=c.form;unfold hdV at e;injection e with _ d _
 rw[d,c.len]
theorem Zc{b:Buf}{f:Ent->Ent}(h:OB V base x b)(c:ϣ w0 V):NSt w0 V V base ((x.m::x.rs).map (·.1)) (Df f (partsB b) 0):=
 ⟨⟨_,by rw[TQ];exact AfQ h⟩,A0.refl _ _,c⟩
theorem Xq{f:Buf}{c:List (List EM)}(d:OP X base ((x.m::x.rs).map (·.1)) c (partsB f))(C:X.ownsRow base 33 1 (vS x.ra x.rs.length x.rc) x.rs.length (x.rs.map λp=>hdV p.1)):∃h:BX,h.ra=x.ra/\h.rc=x.rc/\h.m.1=x.m.1/\h.rs.map (·.1)=x.rs.map (·.1)/\OB X base h f:=by
 have D:c.length=x.rs.length+1:=by rw[d.l1];simp
 have F:(x.rs.map (·.1)).length=c.tail.length:=by rw[lMp,length_tail,D];rfl
 have m:((x.rs.map (·.1)).zip c.tail).length=x.rs.length:=by rw[length_zip,<-F,lMp,Nat.min_self]
 have r:((x.rs.map (·.1)).zip c.tail).map (·.1)=x.rs.map (·.1):=map_fst_zip Ϥ;have E:f.runs.length=x.rs.length:=by have:=d.l2;simp[partsB]at this;exact this
 have q:((x.rs.map (·.1)).zip c.tail).map (λp=>hdV p.1)=x.rs.map λp=>hdV p.1:=by
  have:((x.rs.map (·.1)).zip c.tail).map (λp=>hdV p.1)=(((x.rs.map (·.1)).zip c.tail).map (·.1)).map hdV:=by rw[map_map];rfl
  rw[this,r,map_map];rfl
 refine⟨⟨x.ra,x.rc,(x.m.1,c.getD 0 []),(x.rs.map (·.1)).zip c.tail⟩,rfl,rfl,rfl,r,?_⟩;refine⟨d.low,d.oe 0 Ϧ,?_,?_,λi G=>?_,?_⟩
 ·dsimp only;rw[m,q];exact C
 ·dsimp only;rw[m,E]
 ·dsimp only;have n:i<x.rs.length:=Ϥ;have u:=d.oe (i+1) ϩ;have z:((x.m::x.rs).map (·.1)).getD (i+1) hd0=(((x.rs.map (·.1)).zip c.tail).getD i ϰ).1:=by
   rw[map_cons,getD_cons_succ,gDe,gDe,gEe (by rw[lMp];exact n),gEe (by rw[m];exact n)];simp
  have A:c.getD (i+1) []=(((x.rs.map (·.1)).zip c.tail).getD i ϰ).2:=by
   rw[gDe,gDe,gEe Ϥ,gEe (by rw[m];exact n)];simp
  have B:(partsB f).getD (i+1) []=f.runs.getD i ϰ:=by
   unfold partsB;rw[getD_cons_succ];rfl
  rw[z,A,B]at u;exact u
 ·dsimp only;rw[map_cons,q];have:=d.two;rw[map_map,map_cons]at this;exact this
theorem TS{x':BX}(h1:x'.m.1=x.m.1)(d:x'.rs.map (·.1)=x.rs.map (·.1)){p:Part}(c:p∈x'.m::x'.rs):∃q∈x.m::x.rs,q.1=p.1:=by
 rcases mem_cons.1 c with rfl|c
 ·exact⟨x.m,mem_cons_self ..,h1.symm⟩
 ·have:p.1∈x.rs.map (·.1):=by rw[<-d];exact mem_map.2 ⟨p,c,rfl⟩
  obtain⟨q,f,e⟩:=mem_map.1 this;exact⟨q,mem_cons_of_mem _ f,e⟩
theorem Xr{m:BX}{b:Buf}(h:OB V base x b)(hs:V.heap.size<=X.heap.size)(u:A0 (TR ((m.m::m.rs).map (·.1))) V X)(F:∀p∈x.m::x.rs,∀q∈m.m::m.rs,apB (hdV p.1) (hdV q.1)):OB X base x b:=by
 have B:∀g t,Ah V g t->t≠166->X.heap[g]? =V.heap[g]? :=λg t d n=>by
  obtain⟨c,f,e⟩:=d;rw[e];exact u g _ e rfl (.inl (λM N D=>by injection D with _ E _;exact n E))
 have A:∀{p:Part} {l:List Ent},p∈x.m::x.rs->OE V base (hdV p.1) p.2 l->OE X base (hdV p.1) p.2 l:=λ{p l} H G=>G.same hs (λg C t d n=>by
  rcases n with⟨J,rfl⟩|rfl
  ·rw[d];refine u g _ d rfl (.inr (λq I e=>?_));obtain⟨z,K,rfl⟩:=mem_map.1 I;exact F p H z K g J e
  ·exact B g _ ⟨C,_,d⟩ ϥ)
 refine⟨Nat.le_trans h.low hs,A (mem_cons_self ..) h.mem,A1 h.hds (λg d=>B g _ (A9 h.hds d) ϥ),h.rlen,λi r=>A (mem_cons_of_mem _ ?_) (h.runs i r),h.two⟩;exact AN (by rw[h.rlen];exact r)
theorem Xs{U:Ϡ}{x:pl.PA}{s':Jn}{c:JX}(h:boxC U b p x s y t)(d:s'.L.lim=s.L.lim)(f:s'.R.lim=s.R.lim)(m:s'.lm=s.lm)(n:s'.rm=s.rm)(q:s'.seq=s.seq)
 (r:c.l.m.1=y.l.m.1) (u:c.l.ra=y.l.ra) (z:c.l.rc=y.l.rc) (A:c.l.rs.length=y.l.rs.length) (B:c.r.m.1=y.r.m.1) (C:c.r.ra=y.r.ra) (D:c.r.rc=y.r.rc) (E:c.r.rs.length=y.r.rs.length):boxC U b p x s' c t:=by
 refine⟨h.plan,?_,h.told,h.room⟩;have:=h.join;unfold jnC at *;rw[d,f,m,n,q,r,u,z,A,B,C,D,E];exact this
def My(w w':World):Prop:=Below 0 w w'/\∀g e,Ah w g e->e≠166->w'.heap[g]? =w.heap[g]?
theorem My.cell{o:Nat}(h:My w w')(d:Ah w g e)(h1:e≠166)(c:Δ w g o v):Δ w' g o v:=(cOb (w:=w) (a:=⟨g,o,none⟩) (h.2 g e d h1)).trans c
theorem AbN{x:pl.PA}(h:JSt w0 w b T p x s y t L)(m:ϣ w V)(d:NSt w0 V X base hs ls)(B:V.heap.size<=X.heap.size):My w X:=by
 refine⟨⟨d.bl.os.trans h.bl.os.symm,d.bl.tape.trans h.bl.tape.symm,d.bl.output.trans h.bl.output.symm,Nat.le_trans m.size B,λk A=>absurd A (Nat.not_lt_zero k)⟩,λg e n z=>?_⟩;have u:=m.block g (AH n);obtain⟨c,f,k⟩:=n;rw[k];exact d.ko g _ (u.trans k) rfl (.inl (λC D q=>by injection q with _ r _;exact z r))
theorem JSt.met{x:pl.PA}(h:JSt w0 V b T p x s y t L)(U:calmC T)(side:Int)(R:List Int)(F:NSt w0 V X w0.heap.size (((Cf y side).m::(Cf y side).rs).map (·.1)) (partsB (DL R (Av s side))))(N:V.heap.size<=X.heap.size):
 ∃y',JSt w0 X b T p x (AU s side (DL R (Av s side))) y' t L:=by
 have C:=F.ko;have D:∀g e,Ah V g e->e≠166->X.heap[g]? =V.heap[g]? :=λg e d W=>by
  obtain⟨c,f,k⟩:=d;rw[k];exact C g _ k rfl (.inl (λc' f' A=>by injection A with _ S _;exact W S))
 obtain⟨ab,r⟩:=F.op;have K:X.heap[b]? =V.heap[b]? :=D b T h.ty U.t.e;have O:=Mi h.box K;have P:=CG.other h.cg N (λg d=>d.elim (λk=>D g _ k ϥ) (λk=>D g _ k ϥ));by_cases e:side=2
 ·have J:Cf y side=y.r:=by unfold Cf;rw[if_pos e]
  have B:Av s side=s.R:=by unfold Av;rw[if_pos e]
  rw[J]at r C;rw[B]at r;rw[B];obtain⟨E,G,H,u,z,I⟩:=Xq r (A1 h.r.hds (λg d=>D g _ (A9 h.r.hds d) ϥ));have M:E.rs.length=y.r.rs.length:=by have:=congrArg List.length z;simpa using this
  unfold AU;rw[if_pos e];refine⟨⟨y.l,E⟩,Xs O rfl rfl rfl rfl rfl rfl rfl rfl rfl u G H M,Aq h.ty K,h.up,Xr h.l N C (λp m q n=>h.ap p m q n),I,λp m q n=>?_,P,F.bl⟩;obtain⟨q',aa,A⟩:=TS u z n;rw[<-A];exact h.ap p m q' aa
 ·have J:Cf y side=y.l:=by unfold Cf;rw[if_neg e]
  have B:Av s side=s.L:=by unfold Av;rw[if_neg e]
  rw[J]at r C;rw[B]at r;rw[B];obtain⟨E,G,H,u,z,I⟩:=Xq r (A1 h.l.hds (λg d=>D g _ (A9 h.l.hds d) ϥ));have M:E.rs.length=y.l.rs.length:=by have:=congrArg List.length z;simpa using this
  unfold AU;rw[if_neg e];refine⟨⟨E,y.r⟩,Xs O rfl rfl rfl rfl rfl u G H M rfl rfl rfl rfl,Aq h.ty K,h.up,I,Xr h.r N C (λp m q n=>N9 (h.ap q n p m)),λp m q n=>?_,P,F.bl⟩;obtain⟨p',Z,A⟩:=TS u z m;rw[<-A];exact h.ap p' Z q n
end jn
namespace jn
open vl bf
attribute [local go_sem] Oper.semAt_some
variable {p : pl.Pln} {s : Jn} {v : Ev} {tO : Int}
theorem AbO(h:pl.Ag p=0)(side:Int):1<=(pl.AD p side).length/\(pl.AD p side).length<=4:=by
 have:=pl.Dp (pl.Bv h).2.2.1;unfold pl.AD;split<;>omega
theorem Ou(n:Nat):(bt.D3 n).length=n:=by unfold bt.D3;rw[length_replicate]
theorem Qn(b:Nat)(p:pl.Pln)(x:pl.PA)(side:Int)(ra:ϡ)(rc:Nat)(c:List Cel)(w:Ϡ)(G:pl.Ag p=0)(hs:pl.B8 side=true)(N:boxP w b p x)(H:vl.rowAt w ra c)(K:0<c.length)(J:c.length<=400):
 χ 356 #[ω b,vI side,vS ra c.length rc] w λe w'=>(∃f h,e= .returned (vS f (Ch p side c).length h)/\AM w' w (vS f (Ch p side c).length h) (Ch p side c))/\ϣ w w':=by
 have z:=AbO G (3 - side);have E:=hIz (λ(w1:Ϡ)=>Ju side w1 hs);have u:=hIz (λ(w1:Ϡ)=>bt.Y3 p x (3 - side) w1 z.1 z.2);have D:Ϣ (∀m w1,ϣ w w1->vl.rowAt w1 (ϋ m) (bt.D3 (pl.AD p (3 - side)).length)->CT 353 #[vI side,vS ra c.length rc,vS (ϋ m) (pl.AD p (3 - side)).length (pl.AD p (3 - side)).length] w1 λe w'=>(∃f h,e= .returned (vS f (Ch p side c).length h)/\AM w' w1 (vS f (Ch p side c).length h) (Ch p side c))/\ϣ w1 w'):=λm w1 O r=>by
  have:=Ew side ra (ϋ m) rc (pl.AD p (3 - side)).length c (bt.D3 (pl.AD p (3 - side)).length) w1 K (by rw[Ou];omega) J (by rw[Ou];omega) (vl.Ac H O) r;rw[Ou]at this;exact this
 obtain⟨Z,v1,v2,v3,v4,v5,v6,v7,v8,v9,aa,ab,ac⟩:=N;have F:Ϣ (∀w',ϣ w w'->Ϙ w' b (vI p.kind) (vI p.mode) (vI p.low) (vI p.high) (vI p.size) (vI p.limit) (vS x.l p.left.length x.lc) (vS x.r p.right.length x.rc) (vS x.lk p.lkeys.length x.lkc) (vS x.rk p.rkeys.length x.rkc) (.bool p.grouped) (vS x.g p.group.length x.gc) (vS x.a p.aggs.length x.ac)):=λw' d=>⟨cLz d Z,cLz d v1,cLz d v2,cLz d v3,cLz d v4,cLz d v5,cLz d v6,cLz d v7,cLz d v8,cLz d v9,cLz d aa,cLz d ab,cLz d ac⟩;obtain⟨q,B⟩:=nM ((Ch p side c).length);obtain⟨n,r⟩:=nM ((pl.AD p (3 - side)).length);obtain⟨od,A⟩:=nM (3 - side);obtain⟨rl,C⟩:=nM c.length;rw[r,B,C]at D;rw[r,A]at u;rw[A]at E;rw[B,C];clear r B A C z G hs H K J;unfold pl.Aj at u;go_enter func356,ntmps356;go_wp2
 go_region_held3 (λw'=>Ϙ w' b (vI p.kind) (vI p.mode) (vI p.low) (vI p.high) (vI p.size) (vI p.limit) (vS x.l p.left.length x.lc) (vS x.r p.right.length x.rc) (vS x.lk p.lkeys.length x.lkc) (vS x.rk p.rkeys.length x.rkc) (.bool p.grouped) (vS x.g p.group.length x.gc) (vS x.a p.aggs.length x.ac)) (first|exact F.o _ hy|exact F.o _ (bR.drew)|go_keep)
  (first
   |(go_at_call 353;refine(D.o _ _ hy S).mono ?_;rintro e wj ⟨⟨f,h,rfl,U⟩,P⟩;have I:ϣ w wj:=bT hy P;have W:w.heap.size<=M.heap.size:=hy.size;have hy:=I)
   |(go_at_call 365;refine(u.o _).mono ?_;rintro e M ⟨⟨m,rfl,ae,S⟩,R⟩;have hy:ϣ w M:=bR.drew.trans R)
   |(go_at_call 348;refine(E.o _).mono ?_;rintro e w2 ⟨rfl,rfl⟩))
 all_goals
  go_wp2;go_ret;exact⟨⟨f,h,rfl,World.ownsRow.mono U W⟩,I⟩
def DX(p:pl.Pln)(s:Jn)(v:Ev)(fr tO:Int):List Ent:=if pl.hasB p v.side v.row=true then FN (Av s (3 - v.side)) (pl.A6 p v.side v.row) fr tO else []
theorem Zd(b:Buf)(k:ByteArray)(a z:Int):((Ab b).filter λy=>decide (y.key=k)&&decide (a<=y.time)&&decide (y.time<=z))=(Ab b).filter (JY k a z):=by
 congr 1
 funext y
 unfold JY;rw[Bool.and_assoc]
theorem Aef{b:Buf}(h:okB b){k:ByteArray}{a z:Int}{l:List Ent}(d:l.Perm ((Ab b).filter (JY k a z)))(c:Pw l):l=FN b k a z:=by
 unfold FN;rw[Zd];exact Lz d c (h.once.sublist (filter_sublist.map _))
theorem TT{fr:Int}(h:okB (Av s (3 - v.side))):(DX p s v fr tO).length<=4096:=by
 unfold DX;split
 ·unfold FN;rw[(Dh _).length_eq];exact Nat.le_trans (length_filter_le ..) h.all
 ·exact Nat.zero_le _
theorem Xt{fr:Int}{y:Ent}(h:y∈DX p s v fr tO):y∈Ab (Av s (3 - v.side)):=by
 unfold DX at h;split at h
 ·unfold FN at h;exact(mem_filter.1 ((Dh _).mem_iff.1 h)).1
 ·exact absurd h not_mem_nil
theorem TU(b:Nat)(p:pl.Pln)(x:pl.PA)(s:Jn)(y:JX)(t:Value)(v:Ev)(ra:ϡ)(rc:Nat)(fr tO:Int)(w:Ϡ)(hs:pl.B8 v.side=true)(h:boxC w b p x s y t)(G:bufAt w (Av s (3 - v.side)) (Cf y (3 - v.side)))(ok:okB (Av s (3 - v.side)))(J:∀z∈Ab (Av s (3 - v.side)),wfE z/\wfP (AK z)):
 χ 352 #[ω b,El p v ra rc,vI fr,vI tO] w λe w'=>(∃c es,e= .returned (hdV c)/\OE w' w (hdV c) es (DX p s v fr tO))/\ϣ w w':=by
 unfold DX El
 cases hk:pl.hasB p v.side v.row with
 |false=>
  rw[if_neg ϥ];obtain⟨F,d⟩:=nM (pl.A6 p v.side v.row);obtain⟨rl,D⟩:=nM v.row.length;rw[d,D];clear d D;go_enter func352,ntmps352;go_wp2;go_ret;exact⟨⟨(none,0,0),[],rfl,E9 Ϧ⟩,ϯ⟩
 |true=>
  rw[if_pos rfl];have K:=hIz (λ(w1:Ϡ)=>Ju v.side w1 hs);have I:Ϣ (∀w1,CT 252 #[.pointer (some ⟨b,13,none⟩),vI (3 - v.side)] w1 λe w'=>e= .returned (.pointer (some ⟨b,13+A8 (3 - v.side),none⟩))/\w'=w1):=λw1=>GL b 13 (3 - v.side) w1;obtain⟨m,q,f⟩:=Jv h.join (3 - v.side);have af:=h.lt;obtain⟨B,N⟩:=nM (Av s (3 - v.side));obtain⟨X,P⟩:=nM (Cf y (3 - v.side));rw[N]at m G ok J⊢;rw[P]at q f G;have r:Ϣ (∀w1,ϣ w w1->CT 363 #[B5 B X,.string (pl.A6 p v.side v.row),vI fr,vI tO] w1 λe w'=>(∃(c:Hdr) (A:List EM),e= .returned (.tuple #[hdV c,Ϗ])/\OE w' w1 (hdV c) A (FN B (pl.A6 p v.side v.row) fr tO))/\ϣ w1 w'):=λw1 hb=>(Aep B X _ fr tO w1 (Ar G hb) J (by have:=ok.all;omega) (FW ok)).mono (by
   rintro e w' ⟨⟨c,A,l',rfl,hp,ae,C⟩,ac⟩;rw[Aef ok hp ae]at C;exact⟨⟨c,A,rfl,C⟩,ac⟩)
  obtain⟨F,d⟩:=nM (pl.A6 p v.side v.row);obtain⟨rl,D⟩:=nM v.row.length;obtain⟨k,R⟩:=nM (13+A8 (3 - v.side));rw[d]at r;rw[R]at I m q f;rw[d,D];obtain⟨LS,O⟩:=nM (FN B F fr tO);rw[O]at r⊢;obtain⟨od,U⟩:=nM (3 - v.side);rw[U]at K I;obtain⟨aa,ab,⟨⟨Z,m2,m3⟩,ml⟩,rs⟩:=X;obtain⟨W,ah,ai⟩:=B;unfold B5 hdV at r;dsimp only at r m q f;obtain⟨n,S⟩:=nM rs.length;rw[S]at r f;clear d D R O U S h G ok J N P hk hs;have ag:b≠w.heap.size:=Ϥ;go_enter func352,ntmps352;go_wp2;generalize H:(World.alloc w _)=V;have u:ϣ w V:=by rw[<-H];exact ϯ
  have c0:Δ V w 0 (vI v.side):=by subst H;go_simp
  have c3:Δ V w 3 (.string F):=by subst H;go_simp
  replace m:=cLz u m;replace q:=cLz u q;replace f:=cLz u f;clear H;have M:Ϣ (∀w',ϣ V w'->Δ w' w 0 (vI v.side)/\Δ w' w 3 (.string F)/\ϝ w' b k (vI W) (vS Z m2 m3) (vS aa n ab)):=λw' E=>⟨cLz E c0,cLz E c3,cLz E m,cLz E q,cLz E f⟩
  go_region_held3 (λw'=>Δ w' w 0 (vI v.side)/\Δ w' w 3 (.string F)/\ϝ w' b k (vI W) (vS Z m2 m3) (vS aa n ab)) (first|exact M.o _ hy|exact M.o _ (bR.drew)|go_keep)
   (first
    |(go_at_call 363;refine(r.o _ u.drew).mono ?_;rintro e wn ⟨⟨c,A,rfl,C⟩,ad⟩;have hy:ϣ V wn:=bR.drew.trans ad;obtain⟨d,h2,h3⟩:=c;dsimp only at C⊢)
    |(go_at_call 252;refine(I.o _).mono ?_;rintro e w3 ⟨rfl,rfl⟩)
    |(go_at_call 348;refine(K.o _).mono ?_;rintro e w2 ⟨rfl,rfl⟩))
  all_goals
   go_wp2;go_ret;exact⟨⟨(d,h2,h3),A,rfl,C.mono (by have:=u.size;simpa using this)⟩,bT u hy⟩
end jn
namespace jn
open vl bf
attribute [local go_sem] Oper.semAt_some
theorem Ze{l:List Ent}{k:Nat}(h:k<l.length):(l.take (k+1)).map (·.seq)=(l.take k).map (·.seq)++[(l.getD k ϰ).seq]:=Kh h
theorem Zf(l:List Int)(s:Int):decide ((0:Int)<((l.count s:Nat):Int))=decide (s∈l):=by
 by_cases h:s∈l
 ·have:=count_pos_iff.2 h;rw[decide_eq_true h,decide_eq_true Ϥ]
 ·have:l.count s=0:=count_eq_zero.2 h;rw[decide_eq_false h,this];rfl
theorem VC(b:Nat)(T:TypeId)(p:pl.Pln)(x:pl.PA)(s:Jn)(y:JX)(t:Value)(L:List CO)(side:Int)(hh:Hdr)(N:List EM)(l:List Ent)(w0 w:Ϡ)(h:JSt w0 w b T p x s y t L)(hT:calmC T)(ok:okB (Av s side))(hs:∀z∈Ab (Av s side),pl.i64 z.seq)(U:hh.2.1=l.length)(bd:BR w hh.1 N)(b6:N.length=l.length)(cc:∀k,k<l.length->(N.getD k ϰ).seq=(l.getD k ϰ).seq)(hl:l.length<=1000000)(hq:∀z∈l,pl.i64 z.seq):
 χ 358 #[ω b,vI side,hdV hh] w λe w'=>e= .returned (.tuple #[])/\∃y',JSt w0 w' b T p x (AU s side (DL (l.map (·.seq)) (Av s side))) y' t L/\My w w':=by
 have KB:Ϣ (∀w1,CT 252 #[.pointer (some ⟨b,13,none⟩),vI side] w1 λe w'=>e= .returned (.pointer (some ⟨b,13+A8 side,none⟩))/\w'=w1):=λw1=>GL b 13 side w1;have HJ:=hV0 h;have bz:Ϣ (okB (Av s side)/\∀z∈Ab (Av s side),pl.i64 z.seq):=⟨ok,hs⟩;have HQ:Ϣ (∀k,k<l.length->pl.i64 (l.getD k ϰ).seq):=λk hk=>hq _ (AN hk);obtain⟨O,G,h3⟩:=hh;dsimp only at U bd;have HE:Ϣ (BR w O N/\N.length=l.length/\∀k,k<l.length->(N.getD k ϰ).seq=(l.getD k ϰ).seq):=⟨bd,b6,cc⟩;obtain⟨ln,bn⟩:=nM l.length;have bx:=hV0 bn;rw[bn]at hl U;subst U;clear h ok hs bd b6 cc hq bn;unfold hdV;dsimp only;have dj:=@run_makeMap Tryz.prog;refine(callsIn_wide (n:=0)).1 ?_;refine callsIn_of_wp_marks func358 rfl trivial ?_ rfl;simp only[ntmps358,size_toArray,length_cons,length_nil,Nat.reduceAdd,Nat.reduceSub,Array.replicate_succ,Array.replicate_zero,push_toArray,append_toArray,nil_append,cons_append]
 gi_wp2
 gi_loopw [14] (λi wr=> ∃k:Nat,k<=G/\i=vI k/\EJ wr w.heap.size k ((l.take k).map (·.seq))/\Δ wr (w+1) 0 (.map (some w.heap.size))/\Ϣ (Ah wr (w+1) 298)/\ϣ w wr) (λi _=>G - (intOf i).toNat)
 case atStart=>exact⟨0,Nat.zero_le _,rfl,C8 (Ty w) ϯ,Ϩ,(by have:=World.alloc_heap_new (w.alloc (.map #[] 0)) (.cells #[.map (some w.heap.size)] 298);rw[World.size_alloc]at this;exact⟨_,_,this⟩),ϯ.alloc Ϧ _⟩
 case round=>
  obtain⟨k,hk,rfl,ad,al,a7,J⟩:=hrel;by_cases c9:k<G
  ·have av:k<l.length:=by rw[bx.o];exact c9
   obtain⟨gb,dp,ea,x1,x2,x3,x4,x5⟩:=HE.o.1 k (by rw[HE.o.2.1];exact av);subst ea;obtain⟨q1,q2,q3,q4,q5⟩:=lk5 J x1 x2 x3 x4 x5;clear x1 x2 x3 x4 x5;have br:(N.getD k ϰ).seq=(l.getD k ϰ).seq:=HE.o.2.2 k av;have am:=HQ.o k av;rw[<-br]at am;have ba:Ϣ ((l.take (k+1)).map (·.seq)=(l.take k).map (·.seq)++[(N.getD k ϰ).seq]):=by
    show _=_;rw[br];exact Ze av
   obtain⟨⟨ek,et,C,⟨r1,r2,r3⟩,em⟩,hz⟩:∃z,N.getD k ϰ=z:=⟨_,rfl⟩;rw[hz]at q1 q2 q3 q4 q5 am ba;unfold hdV at q4;dsimp only at q1 q2 q3 q4 q5 am ba;have i1:=nn0 k;have i2:(k:Int)<(G:Int):=Ϥ;have be:=C8 ad ((Below.refl wr.heap.size wr).alloc nR (.cells (φ ek et C r1 r2 r3 em) 166));have c8:=Fz be am;have b5:=count_le_length (a:=C) (l:=(l.take k).map (·.seq));rw[lMp,length_take]at b5;obtain⟨X1,dc,q0,H⟩:=Oc be am Ϯ (by rw[lMp,length_take];omega);have de:Ϣ (∃o:Obj,wr.heap[w.heap.size]? =some o/\o.isCells=false):=Le ad;have cw:Ϣ (EJ X1 w.heap.size (k+1) ((l.take (k+1)).map (·.seq))):=by
    show EJ _ _ _ _;rw[ba.o];exact q0
   obtain⟨c,hc⟩:=nM (((l.take k).map (·.seq)).count C);rw[hc]at c8 dc b5;have dm:IntKind.i64.wrap ((c:Int)+1)=(c:Int)+1:=by rw[ch.Cq];omega
   have lw:w.heap.size+1<wr.heap.size:=bLt _ _ al;have aw:Δ X1 (w+1) 0 (.map (some w.heap.size)):=(cOb (w:=wr) (a:=⟨w+1,0,none⟩) ((H.block (w.heap.size+1) (by rw[World.size_alloc];omega) (λe=>by injection e with e;omega)).trans (Below.heap_alloc _ _ _ lw))).trans al;have ct:Ϣ (Ah X1 (w+1) 298):=Aq a7.o ((H.block (w.heap.size+1) (by rw[World.size_alloc];omega) (λe=>by injection e with e;omega)).trans (Below.heap_alloc _ _ _ lw));have ck:Ϣ (ϣ w X1):=⟨H.os.trans J.os,H.tape.trans J.tape,H.output.trans J.output,Nat.le_trans J.size (Nat.le_trans (Nat.le_of_lt (by rw[World.size_alloc];exact Nat.lt_succ_self _)) H.size),λg c3=>((H.block g (by rw[World.size_alloc];have:=J.size;omega) (λe=>by injection e with e;omega)).trans (Below.heap_alloc _ _ _ (by have:=J.size;omega))).trans (J.block g c3)⟩;clear hz ad be q0 hc br H
   gi_wp2
   exact⟨⟨k+1,Ϥ,by go_num,cw.o,aw,ct,ck.o⟩,by simp[intOf];omega⟩
  ·have b9:k=G:=Ϥ;have b7:(l.take k).map (·.seq)=l.map (·.seq):=by rw[b9,<-bx.o,take_length]
   rw[b7]at ad;have bs:=hV0 ad;have au:¬((k:Int)<(G:Int)):=Ϥ;have ab:Ϣ (JSt w0 wr b T p x s y t L):=HJ.o.below J;obtain⟨ae,an,af⟩:=Jv ab.o.box.join side;have cb:OB wr w0 (Cf y side) (Av s side):=by
    unfold Cf Av;split
    ·exact ab.o.r
    ·exact ab.o.l
   have ao:=hV0 cb;have di:w.heap.size+1<wr.heap.size:=bLt _ _ al;obtain⟨kk,b8⟩:=nM (13+A8 side);rw[b8]at KB ae an af;obtain⟨cf,ca⟩:=nM ((Av s side).lim);rw[ca]at ae;obtain⟨ci,bc⟩:=nM (Cf y side);rw[bc]at an af ao;obtain⟨az,a0,⟨⟨m1,m2,m3⟩,ml⟩,rs⟩:=ci;dsimp only at an af;obtain⟨n',bp⟩:=nM rs.length;have HN:=hV0 bp;rw[bp]at af;have cl:=hV0 bc;clear ad cb bp b8 ca bc b9 b7 hk;have lb:b<wr.heap.size:=ab.o.box.lt
   gi_wp2_with (refine⟨trivial,rfl,?_⟩;first
    |(gi_at_call 252;refine(callsIn_wide.2 (KB.o _)).mono ?_;rintro e w' ⟨rfl,rfl⟩)
    |(gi_at_call 233;refine(callsIn_wide.2 (Jo _ _ _ rfl rfl rfl _)).mono ?_;rintro e w' ⟨rfl,rfl⟩))
   generalize ah:(w'.alloc (.cells (τ cf m1 m2 m3 az n' a0) 36))=V at *;have V1:Δ V w' 1 (vS m1 m2 m3):=by subst ah;go_simp
   have V2:Δ V w' 2 (vS az n' a0):=by subst ah;go_simp
   have V8:ϣ w' V:=by subst ah;exact ϯ
   have T2:Ah V w' 36:=by subst ah;exact⟨_,_,World.alloc_heap_new w' _⟩
   have VM:=cLz V8 al;have TM:=Ak a7.o V8;clear ah;have a6:Ϣ (JSt w0 V b T p x s y t L):=ab.o.below V8;have cj:Ϣ (ϣ w V):=bT J V8;have a2:Ϣ (EJ V w.heap.size k (l.map (·.seq))):=C8 bs.o V8;have a8:Ϣ (w.heap.size<V.heap.size/\w0.heap.size<=V.heap.size):=⟨Xe a2.o,a6.o.bl.size⟩;have a9:Ϣ (OB V w0 ⟨az,a0,((m1,m2,m3),ml),rs⟩ (Av s side)):=ao.o.below V8;obtain⟨P,hP⟩:∃z:List Part,(((m1,m2,m3),ml)::rs)=z:=⟨_,rfl⟩;have cu:=hV0 hP;obtain⟨E,aq⟩:∃z:List Hdr,P.map (·.1)=z:=⟨_,rfl⟩;have bu:=hV0 aq;have bj:=JU ao.o.at V8 w'.heap.size (TR E) V1 (by rw[HN.o];exact V2) (Ii T2 ϥ) (λa h0 ha=>Ii (A9 a9.o.hds (by dsimp only at ha⊢;rw[ha];rfl)) ϥ);obtain⟨r,ac⟩:=nM (partsB (Av s side));have cv:=hV0 ac;have ag:Ϣ (r.length=P.length):=by show _=_;rw[<-ac,<-hP];have:=a9.o.rlen;dsimp only at this;simp[partsB,this]
   have cy:Ϣ (∀i,i<r.length->(r.getD i []).length<=ύ):=λi F=>by
    have:=(bz.o.1.small).1 (r.getD i []) (by rw[ac];exact AN F);omega
   have cz:Ϣ (∀i j,i<r.length->j<(r.getD i []).length->pl.i64 ((r.getD i []).getD j ϰ).seq):=λi j F hj=>bz.o.2 _ (by unfold Ab;rw[ac];exact mem_flatten.2 ⟨r.getD i [],AN F,AN hj⟩);obtain⟨A,bq⟩:=nM (l.map (·.seq));have cx:=hV0 bq;rw[bq]at a2;have c0:Ϣ (NSt w0 V V w0.heap.size E (Df (metE A) r 0)):=by
    show NSt _ _ _ _ _ _;rw[<-ac,<-aq,<-hP];exact Zc a9.o a6.o.bl
   dsimp only at bj;rw[hP]at bj;have ap:E.length=P.length:=by rw[<-aq,lMp]
   clear ac hP aq bq V1 V2 T2 bs ab ao al a7 KB ae an af;refine DD (gf:=268) (lb:=#[.pointer (some ⟨w',0,none⟩)]) rfl (enters_of func268 ϧ rfl) bj bR (λx hx=>by obtain⟨p,_,rfl⟩:=mem_map.1 hx;rfl) (λh k=>A0.trans h k) (λW l o o' _ h ho=>A0.put W l o o' h ho)
    (λi X=>NSt w0 V X w0.heap.size E (Df (metE A) r i)/\EJ X w.heap.size k A) (λc X=>False)
    (λi X X' cg hs hg hr=>⟨hs.1.row (by have:=a8.o.2;omega) hg hr,LU hs.2 hg (λe=>by have:=(hr _ e.symm).1;have:=a8.o.1;omega)⟩)
    (λc X X' cg hs hg hr=>hs)
    ⟨c0.o,a2.o⟩
    (λi a' X=>a'={tmps:=#[.pointer (some ⟨b,0,none⟩),vI side,vS O G h3,undef,undef,undef,.pointer (some ⟨w+1,0,none⟩),undef,u8,hdV (P.getD i ϰ).1,undef,.map (some w.heap.size),vS O G h3,vI G,vI k,.bool false,u16,u17,u18,u19,u20,u21,u22,u23,.pointer (some ⟨b,0,none⟩),.pointer (some ⟨b,0,none⟩),.pointer (some ⟨b,13,none⟩),vI side,.pointer (some ⟨b,kk,none⟩),.pointer (some ⟨b,kk,none⟩),.agg #[vI cf,vS m1 m2 m3,vS az n' a0],.func (.func 268) #[] #[.pointer (some ⟨w',0,none⟩)],hdV (P.getD i ϰ).1,undef,undef,undef,undef,undef,undef,undef,undef,undef,undef,undef,undef,undef,undef,undef,undef,undef,undef,undef,undef,undef,undef,undef,undef,undef],defers:=[]})
    (λi a' u X X' cg hs hg hr=>hs) ?assign ?body ?done ?stop
   case assign=>
    intro l' k1 x1 X K hx F m;obtain⟨hk,ay⟩:=List.getElem?_eq_some_iff.1 hx;rw[lMp]at hk;rw[getElem_map]at ay;subst ay;have hd:P.getD k1 ϰ=P[k1]:=by rw[gDe,gEe hk];rfl
    have ak:=λW' O G h3=>m _ W' O G h3 rfl;rw[hd]at ak;clear m hd hx;obtain⟨⟨⟨z1,z2,z3⟩,zl⟩,hz⟩:∃z,P[k1]=z:=⟨_,rfl⟩;rw[hz]at ak⊢;unfold hdV at ak⊢;dsimp only at ak⊢
    gi_wp2
    exact ak X (KeepsFrom.refl _ _) (A0.refl _ _) F
   case body=>
    intro l' i x1 a' X hx dh dl aj b3;obtain⟨aj,b4⟩:=aj;obtain⟨F,ay⟩:=List.getElem?_eq_some_iff.1 hx;rw[lMp]at F;have hd:P.getD i ϰ=P[i]:=by rw[gDe,gEe F];rfl
    have ai:E.getD i hd0=(P[i]).1:=by rw[<-bu.o,gDe,getElem?_map,gEe F];rfl
    rw[hd]at b3;subst b3;have U:=aj.hlen (by rw[ap];exact F) (by rw[ag.o,ap]);have db:=cy.o i (by rw[ag.o];exact F);clear hx ay hd;obtain⟨⟨⟨z1,z2,z3⟩,zl⟩,hz⟩:∃z,P[i]=z:=⟨_,rfl⟩;rw[hz]at ai⊢;rw[ai]at U;dsimp only at ai U⊢;obtain⟨q,hq⟩:∃q,(r.getD i []).length=q:=⟨_,rfl⟩;have b0:=hV0 hq;rw[hq]at U db;subst U;have a3:=hV0 ai;have a4:Ϣ (i<E.length):=by show _<_;rw[ap];exact F
    have a5:Ϣ (i<r.length):=by show _<_;rw[ag.o];exact F
    have bv:Ϣ (r.length=E.length):=by show _=_;rw[ag.o,ap]
    have cp:=hV0 aj;have ae:=hV0 b4;unfold hdV;dsimp only;clear hz hq ai aj F b4
    gi_wp2
    gi_loopw [35] (λt wr=> ∃j:Nat,j<=z2/\t=vI j/\NSt w0 V wr w0.heap.size E (doneD (metE A) r i j)/\EJ wr w.heap.size k A/\A0 (TR E) X wr/\KeepsFrom V.heap.size X wr) (λt _=>z2 - (intOf t).toNat)
    case atStart=>exact⟨0,Nat.zero_le _,rfl,by rw[VA a5.o];exact cp.o,ae.o,A0.refl _ _,KeepsFrom.refl _ _⟩
    case round=>
     obtain⟨j,hj,rfl,Z,aa,bk,au⟩:=hrel;have cr:=hV0 Z;have c6:=Z.ko.cell (Ii TM ϥ) VM;by_cases c7:j<z2
     ·have ar:j<(r.getD i []).length:=by rw[b0.o];exact c7
      obtain⟨g,e,hg,x3,x5,x6,bi,bh⟩:=Z.read a4.o bv.o ar;rw[a3.o]at hg;injection hg with H c2
      clear c2;have HG:Ϣ ((E.getD i hd0).1=some ⟨g,0,none⟩):=by show _=_;rw[a3.o];exact H
      have ax:=cz.o i j a5.o ar;rw[bi]at ax;have bm:=Fz aa ax;have R:Ϣ (∀Y,ϣ wr Y->NSt w0 V (ό Y g (j * 5+4) (.bool (e.met||decide (e.seq∈A)))) w0.heap.size E (doneD (metE A) r i (j+1))/\A0 (TR E) Y (ό Y g (j * 5+4) (.bool (e.met||decide (e.seq∈A))))):=λY I=>(cr.o.below I).put nR a4.o bv.o ar HG.o (by rw[bh];exact cLz I x5) (by rw[bh,bi]);have bb:Ϣ (Ah wr g 166):=by
       obtain⟨df,ho⟩:=Z.op;have da:=ho.oe i a4.o;refine A9 da.own ?_;rw[a3.o,H];rfl
      have a1:Ϣ (∀Y v,ϣ wr Y->EJ (ό Y g (j * 5+4) v) w.heap.size k A):=λY v I=>Qe (C8 aa I) (heap_setCell_other _ _ _ _ (λM=>by
       dsimp only at M;obtain⟨o,O,G⟩:=Le aa;obtain⟨c,f,h3⟩:=bb.o;rw[M,h3]at O
       cases O
       cases G))
      have c1:=H.symm;subst c1;obtain⟨ek,et,C,⟨r1,r2,r3⟩,em⟩:=e;dsimp only at bm R x3 x5 x6 ax;have lg:g<wr.heap.size:=bLt _ _ x3;have i1:=nn0 j;have i2:(j:Int)<(z2:Int):=Ϥ;have aw:Tryz.prog.follows .mixedOrders=true:=ϧ;obtain⟨B,hB⟩:=nM (decide (C∈A));have c4:∀t,binOp .gtr t (vI ((A.count C:Nat):Int)) (vI 0)=pure (.bool B):=pl.Ex B (by rw[<-hB,<-Zf]);rw[hB]at R;obtain⟨cn,bg⟩:=nM (A.count C);rw[bg]at bm c4;have bw:Ϣ (∀Y,EJ Y w.heap.size k A->(Instr.lookup 298 (.map (some w.heap.size)) (vI C) false).run Tryz.prog Y= .ok (vI cn) Y):=λY hc=>by
       have:=Fz hc ax;rw[bg]at this;exact this
      have cm:=hV0 aa;have co:Ϣ (g≠w.heap.size+1):=tyAt_apart bb.o (Aq TM (Z.ko.block (Ii TM ϥ) VM)) ϥ;clear Z H ar HG bi bh aa hB bg bb;have b1:Ϣ (∀Y,ϣ wr Y->Δ Y g (j * 5+2) (vI C)/\Δ Y (w+1) 0 (.map (some w.heap.size))/\(Instr.lookup 298 (.map (some w.heap.size)) (vI C) false).run Tryz.prog Y= .ok (vI cn) Y):=λY I=>⟨cLz I x3,cLz I c6,bw.o _ (C8 cm.o I)⟩;have b2:Ϣ (∀Y v,ϣ wr Y->Δ (ό Y g (j * 5+4) v) g (j * 5+2) (vI C)/\Δ (ό Y g (j * 5+4) v) (w+1) 0 (.map (some w.heap.size))/\(Instr.lookup 298 (.map (some w.heap.size)) (vI C) false).run Tryz.prog (ό Y g (j * 5+4) v)= .ok (vI cn) (ό Y g (j * 5+4) v)):=λY v I=>⟨(World.cell?_setCell_other _ _ _ _ (λM=>by injection M with _ M;omega)).trans (cLz I x3),(World.cell?_setCell_other _ _ _ _ (λM=>by injection M with M _;exact co.o M)).trans (cLz I c6),bw.o _ (a1.o Y v I)⟩;clear bm
      cases em with
      |true=>
       rw[Bool.true_or]at R
       gi_wp2
       refine Aax 20 rfl aw ϧ (λ⟨_,_,h⟩=>h) (S:=λw'=>Δ w' g (j * 5+2) (vI C)/\Δ w' (w+1) 0 (.map (some w.heap.size))/\(Instr.lookup 298 (.map (some w.heap.size)) (vI C) false).run Tryz.prog w'= .ok (vI cn) w') (b1.o _ bR.drew) (λd=>?_);refine tkz 0 38 d ?_;refine tkz 1 39 d ?_;refine tkz 2 40 d ?_;refine tkz 3 41 d ?_;refine tkz 4 42 d ?_;refine tkz 5 43 d ?_;refine rD 6 λK m=>?_;go_simp;refine m.out _ _ d (λd=>?_);clear m K
       try simp only[Act.put,sI,sZ,sSz]
       refine tkz 7 45 d ?_;refine sk 8 46 d ?_;refine sk 9 47 d ?_;refine sk 10 48 d ?_;refine sk 11 49 d ?_;refine sk 12 50 d ?_;refine sk 13 51 d ?_;refine sk 14 52 d ?_;refine sk 15 53 d ?_;refine tkz 16 54 d ?_;refine tkz 17 55 d ?_;refine tkz 18 56 d ?_;refine rD 19 λK m=>?_;go_simp;refine m.out _ _ (b2.o _ _ bR.drew) (λd=>?_);clear m K;refine wpAnyH_done ϧ ?_ _
       gi_wp2
       exact⟨⟨j+1,Ϥ,by go_num,(R.o _ bR).1.below bR.drew,C8 (a1.o _ _ bR) bR.drew,bk.trans ((R.o _ bR).2.trans (ND bR.drew)),au.trans (((KeepsOthers.setCell _ _ _).from _).trans (Ca bR.drew))⟩,by simp[intOf];omega⟩
      |false=>
       rw[Bool.false_or]at R
       gi_wp2
       refine Aax 20 rfl aw ϧ (λ⟨_,_,h⟩=>h) (S:=λw'=>Δ w' g (j * 5+2) (vI C)/\Δ w' (w+1) 0 (.map (some w.heap.size))/\(Instr.lookup 298 (.map (some w.heap.size)) (vI C) false).run Tryz.prog w'= .ok (vI cn) w') (b1.o _ bR.drew) (λd=>?_);refine tkz 0 38 d ?_;refine tkz 1 39 d ?_;refine tkz 2 40 d ?_;refine tkz 3 41 d ?_;refine tkz 4 42 d ?_;refine tkz 5 43 d ?_;refine rD 6 λK m=>?_;go_simp;refine m.out _ _ d (λd=>?_);clear m K
       try simp only[Act.put,sI,sZ,sSz]
       refine tkz 7 45 d ?_;refine tkz 8 46 d ?_;refine tkz 9 47 d ?_;refine tkz 10 48 d ?_;refine tkz 11 49 d ?_;refine tkz 12 50 d ?_;refine tkz 13 51 d ?_;refine tkz 14 52 d ?_;refine tkz 15 53 d ?_;refine tkz 16 54 d ?_;refine tkz 17 55 d ?_;refine tkz 18 56 d ?_;refine rD 19 λK m=>?_;go_simp;refine m.out _ _ (b2.o _ _ bR.drew) (λd=>?_);clear m K;refine wpAnyH_done ϧ ?_ _
       gi_wp2
       exact⟨⟨j+1,Ϥ,by go_num,(R.o _ bR).1.below bR.drew,C8 (a1.o _ _ bR) bR.drew,bk.trans ((R.o _ bR).2.trans (ND bR.drew)),au.trans (((KeepsOthers.setCell _ _ _).from _).trans (Ca bR.drew))⟩,by simp[intOf];omega⟩
     ·have c5:j=z2:=Ϥ;have cs:Ϣ (NSt w0 V wr w0.heap.size E (Df (metE A) r (i+1))/\EJ wr w.heap.size k A):=by
       refine⟨?_,aa⟩;rw[<-Zb a5.o,b0.o,<-c5];exact Z
      have dg:¬((j:Int)<(z2:Int)):=Ϥ;clear Z aa
      gi_wp2
      exact⟨au,bk,cs.o⟩
   case done=>
    rintro D X hD bo m;have cq:Ϣ (NSt w0 V X w0.heap.size E (Df (metE A) r P.length)):=by
     show NSt _ _ _ _ _ _;rw[lMp]at bo;exact bo.1
    clear bo
    gi_wp2
    refine⟨Ϧ,.inl ⟨_,_,rfl,run_takeDeferred m,?_⟩⟩;have hn:=cq.o.rec_put m rfl (by have:=a8.o.2;omega) (.deferred none);rw[<-ag.o,<-bu.o,<-cu.o,<-cv.o,Vz]at hn;refine⟨.tuple #[],(by simp[results,results358,go_sem]),rfl,?_⟩;rw[cx.o];have cd:V.heap.size<=(X.putObj D (.deferred none)).heap.size:=by have O:=(Array.getElem?_eq_some_iff.1 m).1;simp;omega
    obtain⟨y',dd⟩:=JSt.met a6.o hT side A (by rw[cl.o];exact hn) cd;exact⟨y',dd,AbN HJ.o cj.o hn cd⟩
   case stop=>
    rintro D c X hD h m;exact h.elim
theorem VD(b:Nat)(T:TypeId)(p:pl.Pln)(x:pl.PA)(s:Jn)(y:JX)(t:Value)(L:List CO)(side:Int)(c:Hdr)(f:List EM)(l:List Ent)(base:Nat)(w0 w:Ϡ)(h:JSt w0 w b T p x s y t L)(n:calmC T)(ok:okB (Av s side))(hs:∀z∈Ab (Av s side),pl.i64 z.seq)(d:OE w base (hdV c) f l)(r:l.length<=1000000)(u:∀z∈l,pl.i64 z.seq):
 χ 358 #[ω b,vI side,hdV c] w λe w'=>e= .returned (.tuple #[])/\∃A,JSt w0 w' b T p x (AU s side (DL (l.map (·.seq)) (Av s side))) A t L/\My w w':=
 have m:=GA (p:=(c,f)) d
 VC b T p x s y t L side c f l w0 w h n ok hs (by rw[<-d.len];exact m.1.1) m.2 d.len (λk q=>(d.rows k q).seq) r u
end jn
namespace jn
open vl bf
attribute [local go_sem] Oper.semAt_some
variable {T e : TypeId} {w w' w0 w1 w2 : Ϡ} {b base g o rc rn : Nat} {t v : Value} {L : List CO} {p : pl.Pln} {x : pl.PA} {s : Jn} {y : JX} {ra : ϡ} {ops : Array Oper} {op : Oper} {a : Act} {Q : Exit -> Act -> World -> Prop} {rest : List Oper}
def EG(T:TypeId)(w w':World):Prop:=Below 0 w w'/\∀g e,Ah w g e->e≠T->e≠217->w'.heap[g]? =w.heap[g]?
theorem EG.refl(T:TypeId)(w:Ϡ):EG T w w:=⟨bR,λ_ _ _ _ _=>rfl⟩
theorem EG.trans(h:EG T w w1)(k:EG T w1 w2):EG T w w2:=⟨h.1.trans k.1,λg e f c d=>(k.2 g e (Aq f (h.2 g e f c d)) c d).trans (h.2 g e f c d)⟩
theorem II(h:ϣ w w'):EG T w w':=⟨h.mono (Nat.zero_le _),λg e c _ _=>h.block g (AH c)⟩
theorem Ov(c:Us w w' b t)(h:Ah w b T)(m:CG w base t L):EG T w w':=⟨c.1,λg e n d f=>Xp c h m d.symm f n⟩
theorem EG.cell(h:EG T w w')(f:Ah w g e)(h1:e≠T)(c:e≠217)(d:Δ w g o v):Δ w' g o v:=(cOb (w:=w) (a:=⟨g,o,none⟩) (h.2 g e f h1 c)).trans d
theorem EG.ty(h:EG T w w')(c:Ah w g e)(h1:e≠T)(d:e≠217):Ah w' g e:=Aq c (h.2 g e c h1 d)
theorem EG.oe{c:List EM}{l:List Ent}(h:EG T w w')(d:calmC T)(m:OE w base v c l):OE w' base v c l:=m.other h.1.size (λg f=>f.elim (λk=>h.2 g _ k d.t.e.symm ϥ) (λk=>h.2 g _ k d.t.v.symm ϥ))
def Cy(T:TypeId)(w w':World):Prop:=Below 0 w w'/\∀g e,Ah w g e->e≠T->e≠217->e≠166->w'.heap[g]? =w.heap[g]?
theorem Cy.trans(h:Cy T w w1)(k:Cy T w1 w2):Cy T w w2:=⟨h.1.trans k.1,λg e m c d f=>(k.2 g e (Aq m (h.2 g e m c d f)) c d f).trans (h.2 g e m c d f)⟩
theorem Bl(h:ϣ w w'):Cy T w w':=⟨h.mono (Nat.zero_le _),λg e c _ _ _=>h.block g (AH c)⟩
theorem EG.m(h:EG T w w'):Cy T w w':=⟨h.1,λg e f c d _=>h.2 g e f c d⟩
theorem My.m(h:My w w'):Cy T w w':=⟨h.1,λg e d _ _ c=>h.2 g e d c⟩
theorem Cy.cell(h:Cy T w w')(m:Ah w g e)(h1:e≠T)(c:e≠217)(d:e≠166)(f:Δ w g o v):Δ w' g o v:=(cOb (w:=w) (a:=⟨g,o,none⟩) (h.2 g e m h1 c d)).trans f
theorem Mb{f:List Cel}(h:JSt w0 w b T p x s y t L)(d:calmC T)(z:L.length<=1000000)(n:ϣ w w1)(A:AM w1 w (vS ra rn rc) f):
 χ 357 #[ω b,vS ra rn rc] w1 λe w'=>e= .returned (.tuple #[])/\∃m,JSt w0 w' b T p x s y m (L++[⟨1,vS ra rn rc,f⟩])/\EG T w1 w':=
 have c:=h.below n
 (Wt b p x s y t T ra rn rc f L w0.heap.size w w1 c.box c.ty d.c d.t.v h.cg n A z).mono (by
  rintro e w' ⟨rfl,m,r,u,q⟩;exact⟨rfl,m,c.told d r u q,Ov q c.ty c.cg⟩)
theorem Aeg{d:ϡ}{m f:Nat}{q r:List Cel}(h:JSt w0 w b T p x s y t L)(n:calmC T)(F:L.length<=1000000)(z:ϣ w w1)(G:AM w1 w (vS d m f) r)(A:ϣ w1 w2)(H:AM w2 w1 (vS ra rn rc) q):
 χ 355 #[ω b,vS ra rn rc,vS d m f] w2 λe w'=>e= .returned (.tuple #[])/\∃u,JSt w0 w' b T p x s y u (L++[⟨3,vS ra rn rc,q⟩,⟨4,vS d m f,r⟩])/\EG T w2 w':=
 have C:=bT z A;have c:=h.below C
 (Acx b p x s y t T ra d rn rc m f q r L w0.heap.size w2 c.box c.ty n.c n.t.v (h.cg.two2 z G A H) F).mono (by
  rintro e w' ⟨rfl,u,D,E,B⟩;exact⟨rfl,u,c.told n D E B,Ov B c.ty c.cg⟩)
def kindT(k:Int):TypeId:=if k=1 then 270 else if k=2 then 272 else 274
def kindP(k:Int):TypeId:=if k=1 then 268 else if k=2 then 271 else 273
theorem Ow{K:Act->World->Prop}{E:Prop}(d:op.guard=none)(c:TypeId)(x y:Operand)(m:op.op= .store c x y)
 (b o:Nat) (cells:Array Value) (q:a.eval x= .pointer (some ⟨b,o,none⟩)) (hy:a.eval y= .agg cells) (ht:w.there b o cells.size) (f:(Tryz.prog.info? c).map (·.size)=some cells.size) (h1:cells.all (·.oneCell')=true)
 (h:K (a.put op.dst undef) (w.setCells b o cells.toList)):
 if Region.wanted op (yielded ops a.tmps)=true then Oper.wp Tryz.prog op a w K Q else E:=by
 have n:Region.wanted op (yielded ops a.tmps)=true:=by simp[Region.wanted,d]
 rw[if_pos n];exact wp_store_mid c x y m b o cells q hy ht f h1 h
theorem Ms:(Tryz.prog.info? 267).map (·.size)=some 23:=ϧ
theorem Lp{o:Oper}(t:TypeId)(c:Array (Nat×Operand))(d:o.op= .build t c)(cells:Array Value)(h:Tryz.prog.built t (c.map λ(i,x)=>(i,a.eval x)).toList=some cells)(w:Ϡ):(execOp a.eval o).run Tryz.prog w= .ok (.value (.agg cells)) w:=by
 unfold execOp;simp only[d,Sem.run_bind,run_build w t _ cells h,Result.andThen_ok];rfl
theorem Rw(w:Ϡ)(t:TypeId)(c d E I c4 J K M N O f m q r u z A B C D F G H:Value):(w.alloc (.cells #[c,d,E,I,c4,J,K,M,N,O,f,m,q,r,u,z,A,B,C,D,F,G,H] t)).there w.heap.size 0 23:=by
 intro j P
 match j,P with
 |0,_=>exact⟨Ϩ,Ϩ⟩
 |1,_=>exact⟨Ϩ,Ϩ⟩
 |2,_=>exact⟨Ϩ,Ϩ⟩
 |3,_=>exact⟨Ϩ,Ϩ⟩
 |4,_=>exact⟨Ϩ,Ϩ⟩
 |5,_=>exact⟨Ϩ,Ϩ⟩
 |6,_=>exact⟨Ϩ,Ϩ⟩
 |7,_=>exact⟨Ϩ,Ϩ⟩
 |8,_=>exact⟨Ϩ,Ϩ⟩
 |9,_=>exact⟨Ϩ,Ϩ⟩
 |10,_=>exact⟨Ϩ,Ϩ⟩
 |11,_=>exact⟨Ϩ,Ϩ⟩
 |12,_=>exact⟨Ϩ,Ϩ⟩
 |13,_=>exact⟨Ϩ,Ϩ⟩
 |14,_=>exact⟨Ϩ,Ϩ⟩
 |15,_=>exact⟨Ϩ,Ϩ⟩
 |16,_=>exact⟨Ϩ,Ϩ⟩
 |17,_=>exact⟨Ϩ,Ϩ⟩
 |18,_=>exact⟨Ϩ,Ϩ⟩
 |19,_=>exact⟨Ϩ,Ϩ⟩
 |20,_=>exact⟨Ϩ,Ϩ⟩
 |21,_=>exact⟨Ϩ,Ϩ⟩
 |22,_=>exact⟨Ϩ,Ϩ⟩
 |n+23,h=>exact absurd h Ϥ
theorem Rx{o:Oper}(f:o.guard=none)(t:TypeId)(c:Array (Nat×Operand))(m:o.op= .build t c)(cells:Array Value)
 (d:Tryz.prog.built t (c.map λ(i,x)=>(i,a.eval x)).toList=some cells) (h:wpList Tryz.prog ops Q rest (a.put o.dst (.agg cells)) w):wpList Tryz.prog ops Q (o::rest) a w:=
 wpList_build f t c m (by rw[d];rfl) (by rw[d];exact h)
theorem VE{U:Ϡ}(h:boxC U b p x s y t):U.rangeAt b 0 (η p x (ν s y.l y.r [t])):=λj v c=>by
 obtain⟨f,m,z,A,B,C,D,E,F,G,q,r,u⟩:=h.plan;obtain⟨u0,u1,u2,u3,u4,u5,u6,u7,u8⟩:=h.join;have d:=h.told
 match j,c with
 |0,c=>injection c with c;subst c;exact f
 |1,c=>injection c with c;subst c;exact m
 |2,c=>injection c with c;subst c;exact z
 |3,c=>injection c with c;subst c;exact A
 |4,c=>injection c with c;subst c;exact B
 |5,c=>injection c with c;subst c;exact C
 |6,c=>injection c with c;subst c;exact D
 |7,c=>injection c with c;subst c;exact E
 |8,c=>injection c with c;subst c;exact F
 |9,c=>injection c with c;subst c;exact G
 |10,c=>injection c with c;subst c;exact q
 |11,c=>injection c with c;subst c;exact r
 |12,c=>injection c with c;subst c;exact u
 |13,c=>injection c with c;subst c;exact u0
 |14,c=>injection c with c;subst c;exact u1
 |15,c=>injection c with c;subst c;exact u2
 |16,c=>injection c with c;subst c;exact u3
 |17,c=>injection c with c;subst c;exact u4
 |18,c=>injection c with c;subst c;exact u5
 |19,c=>injection c with c;subst c;exact u6
 |20,c=>injection c with c;subst c;exact u7
 |21,c=>injection c with c;subst c;exact u8
 |22,c=>injection c with c;subst c;exact d
 |n+23,c=>cases c
theorem Pt(f:op.guard=none)(x:Operand)(n:op.op= .load 267 x)(b:Nat)(q:a.eval x= .pointer (ϋ b))(c:Array Value)(m:c.size=23)(d:w.rangeAt b 0 c.toList)
 (h:wpList Tryz.prog ops Q rest (a.put op.dst (.agg c)) w):wpList Tryz.prog ops Q (op::rest) a w:=
 wpList_load_mid f _ x n b 0 q c.toList _ d underlying267 rfl (by rw[Array.length_toList,m];exact Ms) h
theorem Ry:calmT 267:=⟨ϥ,ϥ,ϥ⟩
theorem AbP(w:Ϡ)(T:TypeId)(p:pl.Pln)(x:pl.PA)(s:Jn)(y:JX)(t:Value)(ht:t.oneCell'=true):boxC (ϊ w (θ p x (ν s y.l y.r [t])) T) w.heap.size p x s y t/\Ah (ϊ w (θ p x (ν s y.l y.r [t])) T) w.heap.size T:=by
 refine⟨⟨?_,?_,Ϩ,Rw _ _ _ _ _ _ _ _ _ _ _ _ _ _ _ _ _ _ _ _ _ _ _ _ _⟩,⟨_,_,World.alloc_heap_new w _⟩⟩
 ·unfold boxP;refine⟨?_,?_,?_,?_,?_,?_,?_,?_,?_,?_,?_,?_,?_⟩<;>go_simp
 ·unfold jnC;refine⟨?_,?_,?_,?_,?_,?_,?_,?_,?_⟩<;>go_simp
theorem TV(h:w.there b 0 23)(p:pl.Pln)(x:pl.PA)(s:Jn)(y:JX)(t:Value):boxC (w.setCells b 0 (η p x (ν s y.l y.r [t]))) b p x s y t:=by
 have hs:=World.rangeAt_setCells_same w b 0 (η p x (ν s y.l y.r [t])) h;have c:∀i v,[vI p.kind,vI p.mode,vI p.low,vI p.high,vI p.size,vI p.limit,vS x.l p.left.length x.lc,vS x.r p.right.length x.rc,vS x.lk p.lkeys.length x.lkc,vS x.rk p.rkeys.length x.rkc,.bool p.grouped,vS x.g p.group.length x.gc,vS x.a p.aggs.length x.ac,vI s.L.lim,vS y.l.m.1.1 y.l.m.1.2.1 y.l.m.1.2.2,vS y.l.ra y.l.rs.length y.l.rc,vI s.R.lim,vS y.r.m.1.1 y.r.m.1.2.1 y.r.m.1.2.2,vS y.r.ra y.r.rs.length y.r.rc,vI s.lm,vI s.rm,vI s.seq,t][i]? =some v->Δ (w.setCells b 0 (η p x (ν s y.l y.r [t]))) b i v:=λi v d=>by
  have:=hs i v d;simpa using this
 exact⟨⟨c 0 _ rfl,c 1 _ rfl,c 2 _ rfl,c 3 _ rfl,c 4 _ rfl,c 5 _ rfl,c 6 _ rfl,c 7 _ rfl,c 8 _ rfl,c 9 _ rfl,c 10 _ rfl,c 11 _ rfl,c 12 _ rfl⟩,⟨c 13 _ rfl,c 14 _ rfl,c 15 _ rfl,c 16 _ rfl,c 17 _ rfl,c 18 _ rfl,c 19 _ rfl,c 20 _ rfl,c 21 _ rfl⟩,c 22 _ rfl,World.there_setCells h _ _ _⟩
theorem VF(p:pl.Pln)(x:pl.PA)(s:Jn)(y:JX)(w:Ϡ)(h1:p.kind=1)(h:joinAt w s y)(O:okB s.L)(P:okB s.R):
 χ 154 #[pl.Aj p x,joinV s y] w λe w'=> ∃K y',e= .returned (.iface (kindP p.kind) (.pointer (ϋ K)))/\JSt w w' K (kindT p.kind) p x s y' (vS none 0 0) []:=by
 have F:=hIz (λ(w1:Ϡ) (hb:ϣ w w1)=>Ws s y w1 (h.below hb) O P);have aa:=hV0 h1;clear h O P h1;unfold pl.Aj;rw[AY]at F⊢;go_enter func154,ntmps154;go_wp2;generalize C:(World.alloc (World.alloc w _) _)=V;have n:ϣ w V:=by rw[<-C];exact ϯ.alloc Ϧ _
 have r:Ϣ (boxP V w p x):=by
  subst C;exact Af (BQ ..) ϯ
 have q:Ϣ (BZ V (w+1) s y):=by
  subst C;have:=C7 (ϊ w (Φ p x) 32) s y 38;rw[World.size_alloc]at this;exact this
 clear C
 go_cut [5] (λpt wc=> ∃(B:Nat) (c d:BX),pt= .pointer (ϋ B)/\w.heap.size<=B/\Ϣ (boxC wc B p x s ⟨c,d⟩ (vS none 0 0))/\Ϣ (boxP wc w p x)/\Ϣ (OB wc w c s.L/\OB wc w d s.R/\Acr c d)/\ϣ w wc)
 case first=>
  refine gr.Dm 6 rfl ϧ (S:=λw'=>boxP w' w p x/\BZ w' (w+1) s y) ⟨r.o,q.o⟩ (λm=>?_);refine gr.PK (v:=.agg (Φ p x)) 0 (some 6) m ?_ (hy:=by intro w' G;obtain⟨⟨v0,v1,v2,v3,v4,v5,v6,v7,v8,v9,ad,ae,af⟩, -⟩:=G;go_simp);refine gr.PK (v:=.agg (Ψ s y)) 1 (some 7) m ?_ (hy:=by intro w' G;obtain⟨-,⟨u0,u1,u2,u3,u4,u5,u6,u7,u8⟩⟩:=G;go_simp);refine wpAnyH_ready (rs:=[2,4]) ϧ Ϧ ?_;refine AllReadyH.cons rfl (λK f=>?_) (AllReadyH.cons rfl (λK f=>?_) AllReadyH.nil)
  ·go_simp;go_at_call 213;refine(F.o _ n.drew).mono ?_;rintro e wc ⟨⟨c,d,rfl,J,M,N⟩,A⟩;rw[AY];go_wp2_with fail;have hy:ϣ V wc:=bR.drew.trans A;refine f.out _ _ ⟨Af r.o hy,A4 q.o hy⟩ (λm=>?_);clear f K
   try simp only[Act.put,sI,sZ,sSz]
   refine gr.PK (v:=.agg (θ p x (ν s c d [ώ]))) 3 (some 9) m ?_ (hy:=λw' _=>Lp 267 #[(0,.tmp 6),(1,.tmp 8)] rfl _ ϧ w');refine rD 4 λK f=>?_;go_simp;have I:=hy.alloc hy.size;refine f.out _ _ ⟨Af r.o (I _),A4 q.o (I _)⟩ (λm=>?_);clear f K
   try simp only[Act.put,sI,sZ,sSz]
   refine rD 5 λK f=>?_;refine Ow rfl 267 (.tmp 5) (.tmp 9) rfl wc.heap.size 0 (θ p x (ν s c d [ώ])) rfl rfl (Rw _ _ _ _ _ _ _ _ _ _ _ _ _ _ _ _ _ _ _ _ _ _ _ _ _) Ms ϭ ?_;have u:=below_setCells hy.size (η p x (ν s c d [ώ])) 0 _ (I (.cells #[Ϗ,Ϗ,Ϗ,Ϗ,Ϗ,Ϗ,ώ,ώ,ώ,ώ,ϑ,ώ,ώ,Ϗ,ώ,ώ,Ϗ,ώ,ώ,Ϗ,Ϗ,Ϗ,ώ] 267));refine f.out _ _ ⟨Af r.o u,A4 q.o u⟩ (λm=>?_);refine wpAnyH_done ϧ ?_ _;go_wp2;go_meet;exact⟨wc.heap.size,c,d,rfl,by have:=n.size;have:=hy.size;omega,TV (Rw _ _ _ _ _ _ _ _ _ _ _ _ _ _ _ _ _ _ _ _ _ _ _ _ _) p x s ⟨c,d⟩ _,m.1,⟨BI Ry _ _ _ ((CX J n.size).below ϯ) ⟨_,_,World.alloc_heap_new wc _⟩,BI Ry _ _ _ ((CX M n.size).below ϯ) ⟨_,_,World.alloc_heap_new wc _⟩,N⟩,bT n u⟩
  ·go_simp;have z:ϣ V (ϊ (V.drew) #[Ϗ,Ϗ,Ϗ,Ϗ,Ϗ,Ϗ,ώ,ώ,ώ,ώ,ϑ,ώ,ώ,Ϗ,ώ,ώ,Ϗ,ώ,ώ,Ϗ,Ϗ,Ϗ,ώ] 267):=bR.drew.alloc nR _;refine f.out _ _ ⟨Af r.o z,A4 q.o z⟩ (λm=>?_);clear f K
   try simp only[Act.put,sI,sZ,sSz]
   refine rD 2 λK f=>?_;go_simp;go_at_call 213;refine(F.o _ (bT n z)).mono ?_;rintro e wc ⟨⟨c,d,rfl,J,M,N⟩,A⟩;rw[AY];go_wp2_with fail;have hy:ϣ V wc:=bT z A;refine f.out _ _ ⟨Af r.o hy,A4 q.o hy⟩ (λm=>?_);clear f K
   try simp only[Act.put,sI,sZ,sSz]
   refine gr.PK (v:=.agg (θ p x (ν s c d [ώ]))) 3 (some 9) m ?_ (hy:=λw' _=>Lp 267 #[(0,.tmp 6),(1,.tmp 8)] rfl _ ϧ w');refine rD 5 λK f=>?_;have U:wc.there V.heap.size 0 23:=Ci (Rw V.drew 267 (vI 0) (vI 0) (vI 0) (vI 0) (vI 0) (vI 0) (vS none 0 0) (vS none 0 0) (vS none 0 0) (vS none 0 0) (.bool false) (vS none 0 0) (vS none 0 0) (vI 0) (vS none 0 0) (vS none 0 0) (vI 0) (vS none 0 0) (vS none 0 0) (vI 0) (vI 0) (vI 0) (vS none 0 0)) A;refine Ow rfl 267 (.tmp 5) (.tmp 9) rfl V.heap.size 0 (θ p x (ν s c d [ώ])) rfl rfl U Ms ϭ ?_;have u:=below_setCells (Nat.le_refl V.heap.size) (η p x (ν s c d [ώ])) 0 _ hy;refine f.out _ _ ⟨Af r.o u,A4 q.o u⟩ (λm=>?_);refine wpAnyH_done ϧ ?_ _;have Z:Ah wc V 267:=Ak ⟨_,_,World.alloc_heap_new V.drew _⟩ A;go_wp2;go_meet;exact⟨V.heap.size,c,d,rfl,n.size,TV U p x s ⟨c,d⟩ _,m.1,⟨BI Ry _ _ _ (CX J (Nat.le_trans n.size z.size)) Z,BI Ry _ _ _ (CX M (Nat.le_trans n.size z.size)) Z,N⟩,bT n u⟩
 case rest=>
  obtain⟨B,c,d,rfl,hB,HC,ab,E,H⟩:=hcut;rename World=>W;have k0:=ab.o.1;have ac:Ϣ (W.rangeAt B 0 (η p x (ν s c d [ώ]))):=VE HC.o;have HX:Ϣ (∀T,JSt w (ϊ W (θ p x (ν s c d [ώ])) T) W.heap.size T p x s ⟨c,d⟩ (vS none 0 0) []):=λT=>by
   have D:ϣ W (ϊ W (θ p x (ν s c d [ώ])) T):=ϯ;have R:=AbP W T p x s ⟨c,d⟩ (vS none 0 0) rfl;exact⟨R.1,R.2,H.size,E.o.1.below D,E.o.2.1.below D,E.o.2.2,CG.start (Nat.le_trans H.size D.size),bT H D⟩
  have h1:=aa.o;have e1:(p.kind==1)=true:=by simpa using h1
  have eP:Ϣ (kindP p.kind=268):=by show _=_;unfold kindP;rw[if_pos h1]
  have eT:Ϣ (kindT p.kind=270):=by show _=_;unfold kindT;rw[if_pos h1]
  clear h1;go_wp2_with (first
   |((with_reducible refine Pt ?_ (.tmp 5) ?_ B ?_ (θ p x (ν s c d [ώ])) ?_ ?_ ?_);exact rfl;exact rfl;exact rfl;exact rfl;exact ac.o)
   |((with_reducible refine Rx ?_ 270 #[(0,.tmp 14)] ?_ (θ p x (ν s c d [ώ])) ?_ ?_);exact rfl;exact rfl;exact ϧ))
  go_ret;exact⟨W.heap.size,⟨c,d⟩,by rw[eP.o];rfl,by rw[eT.o];exact HX.o _⟩
end jn
end Go.Proofs.YtfkihidbnfkbaaaGreatDoor
