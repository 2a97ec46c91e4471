import Derived.Test.YtfkihidbnfkbaaaGreatDoorPv24
import Derived.Test.YtfkihidbnfkbaaaGreatDoorPv25
import Derived.Deep.DeepCutAuto
set_option linter.all false
set_option maxHeartbeats 8000000
set_option maxRecDepth 100000
open Inhabited renaming default->ϰ
open List renaming length->ϲ
namespace Go.Proofs.YtfkihidbnfkbaaaGreatDoor
open ChangeShapes WideShapes ChangeAt RowKit Shelf Maps List Proofs.Tryz
namespace jn
open vl bf
variable {V X Y w w' w0 : ϟ} {b base g i j k : Nat} {x : BX} {t v : Value} {L : List CO} {T e : TypeId} {p : pl.Pln} {s : Jn} {y : JX} {l : List Ent} {ls : List (List Ent)} {hs : List Hdr}
structure calmC(T:TypeId):Prop where
 t:calmT T
 c:T≠217
def OB.other{b:Buf}(h:OB w base x b)(hs:w.heap.size<=w'.heap.size)(c:∀g,Am w g 166\/Am w g 119->w'.heap[g]? =w.heap[g]?)(f:∀g,Am w g 33->w'.heap[g]? =w.heap[g]?):OB w' base x b:=
 ⟨B0 h.low hs,h.mem.other hs c,A4 h.hds (λg d=>f g (Az h.hds d)),h.rlen,λi m=>(h.runs i m).other hs c,h.two⟩
def CG.other(h:CG w base v L)(hs:w.heap.size<=w'.heap.size)(q:∀g,Am w g 217\/Am w g 119->w'.heap[g]? =w.heap[g]?):CG w' base v L:=by
 have f:bt.Est w base ((⟨v,217,2,ϲ L,ch.Bv (L.map CO.pair)⟩:bt.Own1)::L.map λx=>Cz x.rv x.row):=h;refine bt.Est.mk (B0 (bt.Est.low f) hs) (λz d=>?_) (bt.Est.two f);have m:=bt.Est.own f z d;refine A4 m (λg n=>q g ?_);rcases E3.1 d with rfl|d
 ·exact .inl (Az m n)
 ·obtain⟨c,_,rfl⟩:=DS.1 d;exact .inr (Az m n)
structure JSt(w0 w:World)(b:Nat)(T:TypeId)(p:pl.Pln)(x:pl.PA)(s:Jn)(y:JX)(t:Value)(L:List CO):Prop where
 box:boxC w b p x s y t
 ty:Am w b T
 up:w0.heap.size<=b
 l:OB w w0.heap.size y.l s.L
 r:OB w w0.heap.size y.r s.R
 ap:Adn y.l y.r
 cg:CG w w0.heap.size t L
 bl:Ϣ w0 w
def JSt.below{x:pl.PA}(h:JSt w0 w b T p x s y t L)(c:Ϣ w w'):JSt w0 w' b T p x s y t L:=
 ⟨h.box.later c,Ak h.ty c,h.up,h.l.below c,h.r.below c,h.ap,h.cg.below c,h.bl.trans (c.mono h.bl.size)⟩
def Yn(m:US w w' b t)(f:Am w b T)(h:CG w base t L)(h1:T≠e)(d:e≠217)(c:Am w g e):w'.heap[g]? =w.heap[g]? :=
 m.2.1 g (A7 c) (tyAt_apart c f h1.symm) (λk=>tyAt_apart c (Az h.own k) d rfl)
theorem JSt.told{x:pl.PA}{n:Value}{q:List CO}(h:JSt w0 w b T p x s y t L)(f:calmC T)(D:boxC w' b p x s y n)(F:CG w' w0 n q)(c:US w w' b t):JSt w0 w' b T p x s y n q:=by
 have m:∀e,T≠e->e≠217->∀g,Am w g e->w'.heap[g]? =w.heap[g]? :=λe B C g d=>Yn c h.ty h.cg B C d;have r:=m _ f.t.e Ϥ;have z:=m _ f.t.v Ϥ;have u:=m _ f.t.h Ϥ;have E:Am w' b T:=c.2.2 T h.ty;exact⟨D,E,h.up,OB.other h.l c.1.size (λg d=>d.elim (r g) (z g)) (u),OB.other h.r c.1.size (λg d=>d.elim (r g) (z g)) u,h.ap,F,⟨c.1.os.trans h.bl.os,c.1.tape.trans h.bl.tape,c.1.output.trans h.bl.output,B0 h.bl.size c.1.size,λk A=>(c.2.1 k (NE A h.bl.size) (by have:=h.up;omega) (λe=>by have:=(AL h.cg.own e).1;omega)).trans (h.bl.block k A)⟩⟩
def doneL(f:Ent->Ent)(l:List Ent)(k:Nat):List Ent:=(l.take k).map f++l.drop k
def Dc(f:Ent->Ent)(ls:List (List Ent))(k:Nat):List (List Ent):=(ls.take k).map (λl=>l.map f)++ls.drop k
def doneD(f:Ent->Ent)(ls:List (List Ent))(i j:Nat):List (List Ent):=(Dc f ls i).set i (doneL f (ls.getD i []) j)
def M6(f:Ent->Ent)(l:List Ent)(k:Nat):ϲ (doneL f l k)=ϲ l:=by
 unfold doneL;rw[lAp,lMp,DA,RC];omega
def Pa(f:Ent->Ent)(l:List (List Ent))(k:Nat):ϲ (Dc f l k)=ϲ l:=by
 unfold Dc;rw[lAp,lMp,DA,RC];omega
def Pb{f:Ent->Ent}(h:k<ϲ l):(doneL f l k).getD k ϰ=l.getD k ϰ:=by
 unfold doneL;rw[BE (d:=ϰ) h,gDe,bB (by rw[lMp,DA];omega),lMp,DA,show k - min k (ϲ l)=0 by omega];rfl
def QK{f:Ent->Ent}{l:List (List Ent)}(h:k<ϲ l):(Dc f l k).getD k []=l.getD k []:=by
 unfold Dc;rw[BE (d:=[]) h,gDe,bB (by rw[lMp,DA];omega),lMp,DA,show k - min k (ϲ l)=0 by omega];rfl
def WT{f:Ent->Ent}(h:k<ϲ l):(doneL f l k).set k (f (l.getD k ϰ))=doneL f l (k+1):=by
 unfold doneL;rw[BE (d:=ϰ) h,set_mid f l k _ _ _ ϣ,TE f l k ϰ h,Bx];rfl
def WU(f:Ent->Ent)(l:List Ent):doneL f l 0=l:=by unfold doneL;rfl
def Aaj(f:Ent->Ent)(l:List Ent):doneL f l (ϲ l)=l.map f:=by unfold doneL;rw[Ok,drop_length,Nd]
def Us{f:Ent->Ent}{l:List (List Ent)}(h:k<ϲ l):(Dc f l k).set k ((l.getD k []).map f)=Dc f l (k+1):=by
 unfold Dc;rw[BE (d:=[]) h,set_mid (λl=>l.map f) l k _ _ _ ϣ,TE (λl=>l.map f) l k [] h,Bx];rfl
def Ut(f:Ent->Ent)(l:List (List Ent)):Dc f l 0=l:=by unfold Dc;rfl
def WV(c:List Int)(b:Buf):Dc (metE c) (partsB b) (ϲ (partsB b))=partsB (DL c b):=by
 unfold Dc;rw[Ok,drop_length,Nd];rfl
def Pd{f:Ent->Ent}(h:i<ϲ ls):(doneD f ls i j).getD i []=doneL f (ls.getD i []) j:=Et (by rw[Pa];exact h)
def WX{f:Ent->Ent}(h:i<ϲ ls):doneD f ls i 0=Dc f ls i:=by
 unfold doneD;rw[WU,<-QK (f:=f) h];exact set_self (by rw[Pa];exact h)
def Aak{f:Ent->Ent}(h:i<ϲ ls):doneD f ls i (ϲ (ls.getD i []))=Dc f ls (i+1):=by
 unfold doneD;rw[Aaj,Us h]
def Uu(hs:List Hdr):Nat->Obj->Prop:=λg o=>(∀c f,o≠ .cells c 166 f)\/∀h∈hs,(hdV h).ownBlock≠some g
def I2{W:ϟ}{t:TypeId}(h:Am W b t)(ht:t≠166):names (Uu hs) W b:=λo c=>.inl (Wp h ht o c)
structure NSt(w0 V X:World)(base:Nat)(hs:List Hdr)(ls:List (List Ent)):Prop where
 op:∃ess,OP X base hs ess ls
 ko:Aw (Uu hs) V X
 bl:Ϣ w0 X
def NSt.row{f:Option Nat}{B:Nat}(h:NSt w0 V X base hs ls)(n:w0.heap.size<=B)(c:X.grownBy Y f)(d:∀r,f=some r->B<=r/\∃x:Obj,X.heap[r]? =some x/\x.isCells=false):NSt w0 V Y base hs ls:=by
 obtain⟨m,u⟩:=h.op;exact⟨⟨m,u.same c.size (λg q=>by rcases q with k|k;exact ty_row c (λr e=>(d r e).2) k;exact ty_row c (λr e=>(d r e).2) k)⟩,h.ko.grown c (λr e=>(d r e).2),Dy h.bl nR n c d⟩
def NSt.below(h:NSt w0 V X base hs ls)(c:Ϣ X Y):NSt w0 V Y base hs ls:=by
 obtain⟨d,f⟩:=h.op;exact⟨⟨d,f.below c⟩,h.ko.trans (O8 c),h.bl.trans (c.mono h.bl.size)⟩
def NSt.rec_put{D:Nat}{q:Obj}(h:NSt w0 V X base hs ls)(d:X.heap[D]? =some q)(n:q.isCells=false)(z:w0.heap.size<=D)(o:Obj):NSt w0 V (X.putObj D o) base hs ls:=by
 obtain⟨u,A⟩:=h.op;have r:∀g t,Am X g t->(X.putObj D o).heap[g]? =X.heap[g]? :=λg t m=>Ts (λe=>by
  obtain⟨c,f,k⟩:=m;rw[e,d]at k;injection k with k
  rw[k]at n
  cases n)
 exact⟨⟨u,A.same ϥ (λg m=>m.elim (r g _) (r g _))⟩,h.ko.trans (Aw.put X D q o d n),CI h.bl z d o⟩
theorem NSt.read{f:Ent->Ent}(h:NSt w0 V X base hs (doneD f ls i j))(A:i<ϲ hs)(I:ϲ ls=ϲ hs)(B:j<ϲ (ls.getD i [])):
 ∃(g:Nat) (e:EM),hs.getD i hd0=(some ⟨g,0,none⟩,ϲ (ls.getD i []),(hs.getD i hd0).2.2)/\Δ X g (j * 5+2) (vI e.seq)/\Δ X g (j * 5+4) (.bool e.met)/\Ξ X g (j * 5+4)/\((ls.getD i []).getD j ϰ).seq=e.seq/\((ls.getD i []).getD j ϰ).met=e.met:=by
 obtain⟨d,D⟩:=h.op;have c:=D.oe i A;rw[Pd ϣ]at c;have C:ϲ (doneL f (ls.getD i []) j)=ϲ (ls.getD i []):=M6 _ _ _;obtain⟨g,n⟩:=O6 c ϣ;have q:ϲ (d.getD i [])=ϲ (ls.getD i []):=by rw[c.len,C]
 rw[q]at n;have E:hdV (hs.getD i hd0)=vS (ϋ g) (ϲ (d.getD i [])) (hs.getD i hd0).2.2:=by rw[n,q];rfl
 rw[E]at c;obtain⟨b,o,z,F,G,r,H,u⟩:=c.at j ϣ
 cases z
 have m:=c.ers.2 j ϣ;rw[Pb B]at m;rw[Fr]at F G r H u;exact⟨g,(d.getD i []).getD j ϰ,n,r,u,Af3 c.own _,m.seq.symm,m.met.symm⟩
theorem NSt.put{d:List Int}{v:Bool}(h:NSt w0 V X base hs (doneD (metE d) ls i j))(hw:w0.heap.size<=base)(B:i<ϲ hs)(hl:ϲ ls=ϲ hs)(n:j<ϲ (ls.getD i []))(A:(hs.getD i hd0).1=some ⟨g,0,none⟩)
 (R:Δ X g (j * 5+4) (.bool ((ls.getD i []).getD j ϰ).met)) (J:v=(((ls.getD i []).getD j ϰ).met||decide (((ls.getD i []).getD j ϰ).seq∈d))):
 NSt w0 V (ό X g (j * 5+4) (.bool v)) base hs (doneD (metE d) ls i (j+1))/\Aw (Uu hs) X (ό X g (j * 5+4) (.bool v)):=by
 have H:i<ϲ ls:=ϣ;have N:(doneD (metE d) ls i j).set i (doneL (metE d) (ls.getD i []) (j+1))=doneD (metE d) ls i (j+1):=by unfold doneD;rw[List.set_set]
 have E:=WT (f:=metE d) n;by_cases r:((ls.getD i []).getD j ϰ).seq∈d
 ·have z:v=true:=by rw[J,DB r,Bool.or_true]
  rw[z];have u:metE d ((ls.getD i []).getD j ϰ)=((ls.getD i []).getD j ϰ).meet:=by unfold metE;rw[AE r];rfl
  obtain⟨U,K⟩:=h.op;have S:j<ϲ ((doneD (metE d) ls i j).getD i []):=by rw[Pd H,M6];exact n
  have D:=K.oe i B;have C:(hdV (hs.getD i hd0)).ownBlock=some g:=by
   obtain⟨W,G⟩:=O6 D ϣ;rw[G]at A
   cases A
   rw[G];rfl
  have aa:=(AL D.own C).1;have I:Aw (Uu hs) X (ό X g (j * 5+4) (.bool true)):=λb o F Z m=>by
   refine(CB _ _ _ _ (λe=>?_)).trans F;dsimp only at e;subst e;rcases m with m|m
   ·obtain⟨c,f,q⟩:=Az D.own C;rw[F]at q;injection q with q
    exact m c f q
   ·exact m _ (Bc B) C
  have M:=Agq K B S A;rw[Pd H,Pb n,<-u,E,N]at M;exact⟨⟨⟨_,M⟩,h.ko.trans I,h.bl.setCell ϩ _⟩,I⟩
 ·have z:v=((ls.getD i []).getD j ϰ).met:=by rw[J,BP r,Bool.or_false]
  rw[z,AdE R];have u:metE d ((ls.getD i []).getD j ϰ)=(ls.getD i []).getD j ϰ:=by unfold metE;rw[AC r]
  have O:doneL (metE d) (ls.getD i []) (j+1)=doneL (metE d) (ls.getD i []) j:=by
   rw[<-E,u,<-Pb (f:=metE d) n];exact set_self (by rw[M6];exact n)
  have P:doneD (metE d) ls i (j+1)=doneD (metE d) ls i j:=by unfold doneD;rw[O]
  rw[P];exact⟨h,Aw.refl _ _⟩
def NSt.hlen{f:Ent->Ent}(h:NSt w0 V X base hs (Dc f ls i))(m:i<ϲ hs)(z:ϲ ls=ϲ hs):(hs.getD i hd0).2.1=ϲ (ls.getD i []):=by
 obtain⟨u,n⟩:=h.op;have c:=n.oe i m;rw[QK ϣ]at c;obtain⟨q,r,e⟩:=c.form;unfold hdV at e;injection e with _ d _
 rw[d,c.len]
def Aal{b:Buf}{f:Ent->Ent}(h:OB V base x b)(c:Ϣ w0 V):NSt w0 V V base ((x.m::x.rs).map (·.1)) (Dc f (partsB b) 0):=
 ⟨⟨_,by rw[Ut];exact AgU h⟩,Aw.refl _ _,c⟩
theorem Yo{f:Buf}{c:List (List EM)}(d:OP X base ((x.m::x.rs).map (·.1)) c (partsB f))(C:X.ownsRow base 33 1 (vS x.ra (ϲ x.rs) x.rc) (ϲ x.rs) (x.rs.map λp=>hdV p.1)):∃h:BX,h.ra=x.ra/\h.rc=x.rc/\h.m.1=x.m.1/\h.rs.map (·.1)=x.rs.map (·.1)/\OB X base h f:=by
 have D:ϲ c=ϲ x.rs+1:=by rw[d.l1];simp
 have F:ϲ (x.rs.map (·.1))=ϲ c.tail:=by rw[lMp,length_tail,D];rfl
 have m:ϲ ((x.rs.map (·.1)).zip c.tail)=ϲ x.rs:=by rw[length_zip,<-F,lMp,Nat.min_self]
 have r:((x.rs.map (·.1)).zip c.tail).map (·.1)=x.rs.map (·.1):=map_fst_zip ϣ;have E:ϲ f.runs=ϲ x.rs:=by have:=d.l2;simp[partsB]at this;exact this
 have q:((x.rs.map (·.1)).zip c.tail).map (λp=>hdV p.1)=x.rs.map λp=>hdV p.1:=by
  have:((x.rs.map (·.1)).zip c.tail).map (λp=>hdV p.1)=(((x.rs.map (·.1)).zip c.tail).map (·.1)).map hdV:=by rw[aR];rfl
  rw[this,r,aR];rfl
 refine⟨⟨x.ra,x.rc,(x.m.1,c.getD 0 []),(x.rs.map (·.1)).zip c.tail⟩,rfl,rfl,rfl,r,?_⟩;refine⟨d.low,d.oe 0 ϥ,?_,?_,λi G=>?_,?_⟩
 ·dsimp only;rw[m,q];exact C
 ·dsimp only;rw[m,E]
 ·dsimp only;have n:i<ϲ x.rs:=ϣ;have u:=d.oe (i+1) Ϩ;have z:((x.m::x.rs).map (·.1)).getD (i+1) hd0=(((x.rs.map (·.1)).zip c.tail).getD i ϰ).1:=by
   rw[P3,cB,gDe,gDe,gEe (by rw[lMp];exact n),gEe (by rw[m];exact n)];simp
  have A:c.getD (i+1) []=(((x.rs.map (·.1)).zip c.tail).getD i ϰ).2:=by
   rw[gDe,gDe,gEe ϣ,gEe (by rw[m];exact n)];simp
  have B:(partsB f).getD (i+1) []=f.runs.getD i ϰ:=by
   unfold partsB;rw[cB];rfl
  rw[z,A,B]at u;exact u
 ·dsimp only;rw[P3,q];have:=d.two;rw[aR,P3]at this;exact this
def Uv{x':BX}(h1:x'.m.1=x.m.1)(d:x'.rs.map (·.1)=x.rs.map (·.1)){p:Part}(c:p∈x'.m::x'.rs):∃q∈x.m::x.rs,q.1=p.1:=by
 rcases E3.1 c with rfl|c
 ·exact⟨x.m,E0 ..,h1.symm⟩
 ·have:p.1∈x.rs.map (·.1):=by rw[<-d];exact DS.2 ⟨p,c,rfl⟩
  obtain⟨q,f,e⟩:=DS.1 this;exact⟨q,EQ _ f,e⟩
theorem Yp{m:BX}{b:Buf}(h:OB V base x b)(hs:V.heap.size<=X.heap.size)(u:Aw (Uu ((m.m::m.rs).map (·.1))) V X)(F:∀p∈x.m::x.rs,∀q∈m.m::m.rs,apB (hdV p.1) (hdV q.1)):OB X base x b:=by
 have B:∀g t,Am V g t->t≠166->X.heap[g]? =V.heap[g]? :=λg t d n=>by
  obtain⟨c,f,e⟩:=d;rw[e];exact u g _ e rfl (.inl (λM N D=>by injection D with _ E _;exact n E))
 have A:∀{p:Part} {l:List Ent},p∈x.m::x.rs->OE V base (hdV p.1) p.2 l->OE X base (hdV p.1) p.2 l:=λ{p l} H G=>G.same hs (λg C t d n=>by
  rcases n with⟨J,rfl⟩|rfl
  ·rw[d];refine u g _ d rfl (.inr (λq I e=>?_));obtain⟨z,K,rfl⟩:=DS.1 I;exact F p H z K g J e
  ·exact B g _ ⟨C,_,d⟩ Ϥ)
 refine⟨B0 h.low hs,A (E0 ..) h.mem,A4 h.hds (λg d=>B g _ (Az h.hds d) Ϥ),h.rlen,λi r=>A (EQ _ ?_) (h.runs i r),h.two⟩;exact Bc (by rw[h.rlen];exact r)
def Yq{U:ϟ}{x:pl.PA}{s':Jn}{c:JX}(h:boxC U b p x s y t)(d:s'.L.lim=s.L.lim)(f:s'.R.lim=s.R.lim)(m:s'.lm=s.lm)(n:s'.rm=s.rm)(q:s'.seq=s.seq)
 (r:c.l.m.1=y.l.m.1) (u:c.l.ra=y.l.ra) (z:c.l.rc=y.l.rc) (A:ϲ c.l.rs=ϲ y.l.rs) (B:c.r.m.1=y.r.m.1) (C:c.r.ra=y.r.ra) (D:c.r.rc=y.r.rc) (E:ϲ c.r.rs=ϲ y.r.rs):boxC U b p x s' c t:=by
 refine⟨h.plan,?_,h.told,h.room⟩;have:=h.join;unfold jnC at *;rw[d,f,m,n,q,r,u,z,A,B,C,D,E];exact this
def Nb(w w':World):Prop:=Below 0 w w'/\∀g e,Am w g e->e≠166->w'.heap[g]? =w.heap[g]?
def Nb.cell{o:Nat}(h:Nb w w')(d:Am w g e)(h1:e≠166)(c:Δ w g o v):Δ w' g o v:=(cOb (w:=w) (a:=⟨g,o,none⟩) (h.2 g e d h1)).trans c
def AcO{x:pl.PA}(h:JSt w0 w b T p x s y t L)(m:Ϣ w V)(d:NSt w0 V X base hs ls)(B:V.heap.size<=X.heap.size):Nb w X:=by
 refine⟨⟨d.bl.os.trans h.bl.os.symm,d.bl.tape.trans h.bl.tape.symm,d.bl.output.trans h.bl.output.symm,B0 m.size B,λk A=>absurd A (CA k)⟩,λg e n z=>?_⟩;have u:=m.block g (A7 n);obtain⟨c,f,k⟩:=n;rw[k];exact d.ko g _ (u.trans k) rfl (.inl (λC D q=>by injection q with _ r _;exact z r))
theorem JSt.met{x:pl.PA}(h:JSt w0 V b T p x s y t L)(U:calmC T)(side:Int)(R:List Int)(F:NSt w0 V X w0.heap.size (((BZ y side).m::(BZ y side).rs).map (·.1)) (partsB (DL R (Ar s side))))(N:V.heap.size<=X.heap.size):
 ∃y',JSt w0 X b T p x (AP s side (DL R (Ar s side))) y' t L:=by
 have C:=F.ko;have D:∀g e,Am V g e->e≠166->X.heap[g]? =V.heap[g]? :=λg e d W=>by
  obtain⟨c,f,k⟩:=d;rw[k];exact C g _ k rfl (.inl (λc' f' A=>by injection A with _ S _;exact W S))
 obtain⟨ab,r⟩:=F.op;have K:X.heap[b]? =V.heap[b]? :=D b T h.ty U.t.e;have O:=MD h.box K;have P:=CG.other h.cg N (λg d=>d.elim (λk=>D g _ k Ϥ) (λk=>D g _ k Ϥ));by_cases e:side=2
 ·have J:BZ y side=y.r:=by unfold BZ;rw[AE e]
  have B:Ar s side=s.R:=by unfold Ar;rw[AE e]
  rw[J]at r C;rw[B]at r;rw[B];obtain⟨E,G,H,u,z,I⟩:=Yo r (A4 h.r.hds (λg d=>D g _ (Az h.r.hds d) Ϥ));have M:ϲ E.rs=ϲ y.r.rs:=by have:=Bk List.length z;simpa using this
  unfold AP;rw[AE e];refine⟨⟨y.l,E⟩,Yq O rfl rfl rfl rfl rfl rfl rfl rfl rfl u G H M,A1 h.ty K,h.up,Yp h.l N C (λp m q n=>h.ap p m q n),I,λp m q n=>?_,P,F.bl⟩;obtain⟨q',aa,A⟩:=Uv u z n;rw[<-A];exact h.ap p m q' aa
 ·have J:BZ y side=y.l:=by unfold BZ;rw[AC e]
  have B:Ar s side=s.L:=by unfold Ar;rw[AC e]
  rw[J]at r C;rw[B]at r;rw[B];obtain⟨E,G,H,u,z,I⟩:=Yo r (A4 h.l.hds (λg d=>D g _ (Az h.l.hds d) Ϥ));have M:ϲ E.rs=ϲ y.l.rs:=by have:=Bk List.length z;simpa using this
  unfold AP;rw[AC e];refine⟨⟨E,y.r⟩,Yq O rfl rfl rfl rfl rfl u G H M rfl rfl rfl rfl,A1 h.ty K,h.up,I,Yp h.r N C (λp m q n=>O5 (h.ap q n p m)),λp m q n=>?_,P,F.bl⟩;obtain⟨p',Z,A⟩:=Uv u z m;rw[<-A];exact h.ap p' Z q n
attribute [local go_sem] Oper.semAt_some
variable {p : pl.Pln} {s : Jn} {v : Ev} {tO : Int}
def AcP(h:pl.Ag p=0)(side:Int):1<=ϲ (pl.A9 p side)/\(ϲ (pl.A9 p side))<=4:=by
 have:=pl.Dm (pl.Bt h).2.2.1;unfold pl.A9;split<;>omega
def Pe(n:Nat):ϲ (bt.D3 n)=n:=by unfold bt.D3;rw[length_replicate]
theorem QL(b:Nat)(p:pl.Pln)(x:pl.PA)(side:Int)(ra:Ϡ)(rc:Nat)(c:List Cel)(w:ϟ)(G:pl.Ag p=0)(hs:pl.Bw side=true)(N:boxP w b p x)(H:vl.rowAt w ra c)(K:0<ϲ c)(J:ϲ c<=400):
 χ 356 #[ω b,vI side,vS ra (ϲ c) rc] w λe w'=>(∃f h,e= .returned (vS f (ϲ (Ce p side c)) h)/\AF w' w (vS f (ϲ (Ce p side c)) h) (Ce p side c))/\Ϣ w w':=by
 have z:=AcP G (3 - side);have E:=hIz (λ(w1:ϟ)=>JM side w1 hs);have u:=hIz (λ(w1:ϟ)=>bt.ZJ p x (3 - side) w1 z.1 z.2);have D:ϡ (∀m w1,Ϣ w w1->vl.rowAt w1 (ϋ m) (bt.D3 (ϲ (pl.A9 p (3 - side))))->CT 353 #[vI side,vS ra (ϲ c) rc,vS (ϋ m) (ϲ (pl.A9 p (3 - side))) (ϲ (pl.A9 p (3 - side)))] w1 λe w'=>(∃f h,e= .returned (vS f (ϲ (Ce p side c)) h)/\AF w' w1 (vS f (ϲ (Ce p side c)) h) (Ce p side c))/\Ϣ w1 w'):=λm w1 O r=>by
  have:=EJ side ra (ϋ m) rc (ϲ (pl.A9 p (3 - side))) c (bt.D3 (ϲ (pl.A9 p (3 - side)))) w1 K (by rw[Pe];omega) J (by rw[Pe];omega) (vl.Ac H O) r;rw[Pe]at this;exact this
 obtain⟨Z,v1,v2,v3,v4,v5,v6,v7,v8,v9,aa,ab,ac⟩:=N;have F:ϡ (∀w',Ϣ w w'->Ϝ w' b (vI p.kind) (vI p.mode) (vI p.low) (vI p.high) (vI p.size) (vI p.limit) (vS x.l (ϲ p.left) x.lc) (vS x.r (ϲ p.right) x.rc) (vS x.lk (ϲ p.lkeys) x.lkc) (vS x.rk (ϲ p.rkeys) x.rkc) (.bool p.grouped) (vS x.g (ϲ p.group) x.gc) (vS x.a (ϲ p.aggs) x.ac)):=λw' d=>⟨cLz d Z,cLz d v1,cLz d v2,cLz d v3,cLz d v4,cLz d v5,cLz d v6,cLz d v7,cLz d v8,cLz d v9,cLz d aa,cLz d ab,cLz d ac⟩;obtain⟨q,B⟩:=nM (ϲ (Ce p side c));obtain⟨n,r⟩:=nM (ϲ (pl.A9 p (3 - side)));obtain⟨od,A⟩:=nM (3 - side);obtain⟨rl,C⟩:=nM (ϲ c);rw[r,B,C]at D;rw[r,A]at u;rw[A]at E;rw[B,C];clear r B A C z G hs H K J;unfold pl.Ai at u;go_enter func356,ntmps356;go_wp2
 go_region_held3 (λw'=>Ϝ w' b (vI p.kind) (vI p.mode) (vI p.low) (vI p.high) (vI p.size) (vI p.limit) (vS x.l (ϲ p.left) x.lc) (vS x.r (ϲ p.right) x.rc) (vS x.lk (ϲ p.lkeys) x.lkc) (vS x.rk (ϲ p.rkeys) x.rkc) (.bool p.grouped) (vS x.g (ϲ p.group) x.gc) (vS x.a (ϲ p.aggs) x.ac)) (first|exact F.o _ hy|exact F.o _ (bR.drew)|go_keep)
  (first
   |(go_at_call 353;refine(D.o _ _ hy S).mono ?_;rintro e wj ⟨⟨f,h,rfl,U⟩,P⟩;have I:Ϣ w wj:=bT hy P;have W:w.heap.size<=M.heap.size:=hy.size;have hy:=I)
   |(go_at_call 365;refine(u.o _).mono ?_;rintro e M ⟨⟨m,rfl,ae,S⟩,R⟩;have hy:Ϣ w M:=bR.drew.trans R)
   |(go_at_call 348;refine(E.o _).mono ?_;rintro e w2 ⟨rfl,rfl⟩))
 all_goals
  go_wp2;go_ret;exact⟨⟨f,h,rfl,World.ownsRow.mono U W⟩,I⟩
def DW(p:pl.Pln)(s:Jn)(v:Ev)(fr tO:Int):List Ent:=if pl.hasB p v.side v.row=true then FX (Ar s (3 - v.side)) (pl.A0 p v.side v.row) fr tO else []
def Aam(b:Buf)(k:ByteArray)(a z:Int):((Ab b).filter λy=>decide (y.key=k)&&decide (a<=y.time)&&decide (y.time<=z))=(Ab b).filter (Kw k a z):=by
 congr 1
 funext y
 unfold Kw;rw[Bool.and_assoc]
def Afc{b:Buf}(h:okB b){k:ByteArray}{a z:Int}{l:List Ent}(d:l.Perm ((Ab b).filter (Kw k a z)))(c:Nq l):l=FX b k a z:=by
 unfold FX;rw[Aam];exact LR d c (h.once.sublist (filter_sublist.map _))
def Uw{fr:Int}(h:okB (Ar s (3 - v.side))):ϲ (DW p s v fr tO)<=4096:=by
 unfold DW;split
 ·unfold FX;rw[(De _).length_eq];exact B0 (aZ ..) h.all
 ·exact At _
def Yr{fr:Int}{y:Ent}(h:y∈DW p s v fr tO):y∈Ab (Ar s (3 - v.side)):=by
 unfold DW at h;split at h
 ·unfold FX at h;exact(cF.1 ((De _).mem_iff.1 h)).1
 ·exact absurd h SW
theorem Ux(b:Nat)(p:pl.Pln)(x:pl.PA)(s:Jn)(y:JX)(t:Value)(v:Ev)(ra:Ϡ)(rc:Nat)(fr tO:Int)(w:ϟ)(hs:pl.Bw v.side=true)(h:boxC w b p x s y t)(G:bufAt w (Ar s (3 - v.side)) (BZ y (3 - v.side)))(ok:okB (Ar s (3 - v.side)))(J:∀z∈Ab (Ar s (3 - v.side)),wfE z/\wfP (AJ z)):
 χ 352 #[ω b,Ep p v ra rc,vI fr,vI tO] w λe w'=>(∃c es,e= .returned (hdV c)/\OE w' w (hdV c) es (DW p s v fr tO))/\Ϣ w w':=by
 unfold DW Ep
 cases hk:pl.hasB p v.side v.row with
 |false=>
  rw[AC Ϥ];obtain⟨F,d⟩:=nM (pl.A0 p v.side v.row);obtain⟨rl,D⟩:=nM (ϲ v.row);rw[d,D];clear d D;go_enter func352,ntmps352;go_wp2;go_ret;exact⟨⟨(none,0,0),[],rfl,DJ ϥ⟩,Ϯ⟩
 |true=>
  rw[AE rfl];have K:=hIz (λ(w1:ϟ)=>JM v.side w1 hs);have I:ϡ (∀w1,CT 252 #[.pointer (some ⟨b,13,none⟩),vI (3 - v.side)] w1 λe w'=>e= .returned (.pointer (some ⟨b,13+A6 (3 - v.side),none⟩))/\w'=w1):=λw1=>He b 13 (3 - v.side) w1;obtain⟨m,q,f⟩:=JN h.join (3 - v.side);have af:=h.lt;obtain⟨B,N⟩:=nM (Ar s (3 - v.side));obtain⟨X,P⟩:=nM (BZ y (3 - v.side));rw[N]at m G ok J⊢;rw[P]at q f G;have r:ϡ (∀w1,Ϣ w w1->CT 363 #[Bh B X,.string (pl.A0 p v.side v.row),vI fr,vI tO] w1 λe w'=>(∃(c:Hdr) (A:List EM),e= .returned (.tuple #[hdV c,Ϗ])/\OE w' w1 (hdV c) A (FX B (pl.A0 p v.side v.row) fr tO))/\Ϣ w1 w'):=λw1 hb=>(AeW B X _ fr tO w1 (Ao G hb) J (by have:=ok.all;omega) (Gh ok)).mono (by
   rintro e w' ⟨⟨c,A,l',rfl,hp,ae,C⟩,ac⟩;rw[Afc ok hp ae]at C;exact⟨⟨c,A,rfl,C⟩,ac⟩)
  obtain⟨F,d⟩:=nM (pl.A0 p v.side v.row);obtain⟨rl,D⟩:=nM (ϲ v.row);obtain⟨k,R⟩:=nM (13+A6 (3 - v.side));rw[d]at r;rw[R]at I m q f;rw[d,D];obtain⟨LS,O⟩:=nM (FX B F fr tO);rw[O]at r⊢;obtain⟨od,U⟩:=nM (3 - v.side);rw[U]at K I;obtain⟨aa,ab,⟨⟨Z,m2,m3⟩,ml⟩,rs⟩:=X;obtain⟨W,ah,ai⟩:=B;unfold Bh hdV at r;dsimp only at r m q f;obtain⟨n,S⟩:=nM (ϲ rs);rw[S]at r f;clear d D R O U S h G ok J N P hk hs;have ag:b≠w.heap.size:=ϣ;go_enter func352,ntmps352;go_wp2;generalize H:(World.alloc w _)=V;have u:Ϣ w V:=by rw[<-H];exact Ϯ
  have c0:Δ V w 0 (vI v.side):=by subst H;go_simp
  have c3:Δ V w 3 (.string F):=by subst H;go_simp
  replace m:=cLz u m;replace q:=cLz u q;replace f:=cLz u f;clear H;have M:ϡ (∀w',Ϣ V w'->Δ w' w 0 (vI v.side)/\Δ w' w 3 (.string F)/\ϙ w' b k (vI W) (vS Z m2 m3) (vS aa n ab)):=λw' E=>⟨cLz E c0,cLz E c3,cLz E m,cLz E q,cLz E f⟩
  go_region_held3 (λw'=>Δ w' w 0 (vI v.side)/\Δ w' w 3 (.string F)/\ϙ w' b k (vI W) (vS Z m2 m3) (vS aa n ab)) (first|exact M.o _ hy|exact M.o _ (bR.drew)|go_keep)
   (first
    |(go_at_call 363;refine(r.o _ u.drew).mono ?_;rintro e wn ⟨⟨c,A,rfl,C⟩,ad⟩;have hy:Ϣ V wn:=bR.drew.trans ad;obtain⟨d,h2,h3⟩:=c;dsimp only at C⊢)
    |(go_at_call 252;refine(I.o _).mono ?_;rintro e w3 ⟨rfl,rfl⟩)
    |(go_at_call 348;refine(K.o _).mono ?_;rintro e w2 ⟨rfl,rfl⟩))
  all_goals
   go_wp2;go_ret;exact⟨⟨(d,h2,h3),A,rfl,C.mono (by have:=u.size;simpa using this)⟩,bT u hy⟩
def Aan{l:List Ent}{k:Nat}(h:k<ϲ l):(l.take (k+1)).map (·.seq)=(l.take k).map (·.seq)++[(l.getD k ϰ).seq]:=Ma h
def Aao(l:List Int)(s:Int):decide ((0:Int)<((l.count s:Nat):Int))=decide (s∈l):=by
 by_cases h:s∈l
 ·have:=fp.2 h;rw[DB h,DB ϣ]
 ·have:l.count s=0:=count_eq_zero.2 h;rw[BP h,this];rfl
theorem WY(b:Nat)(T:TypeId)(p:pl.Pln)(x:pl.PA)(s:Jn)(y:JX)(t:Value)(L:List CO)(side:Int)(hh:Hdr)(N:List EM)(l:List Ent)(w0 w:ϟ)(h:JSt w0 w b T p x s y t L)(hT:calmC T)(ok:okB (Ar s side))(hs:∀z∈Ab (Ar s side),pl.i64 z.seq)(U:hh.2.1=ϲ l)(bd:Cn w hh.1 N)(b6:ϲ N=ϲ l)(cc:∀k,k<ϲ l->(N.getD k ϰ).seq=(l.getD k ϰ).seq)(hl:ϲ l<=1000000)(hq:∀z∈l,pl.i64 z.seq):
 χ 358 #[ω b,vI side,hdV hh] w λe w'=>e= .returned (.tuple #[])/\∃y',JSt w0 w' b T p x (AP s side (DL (l.map (·.seq)) (Ar s side))) y' t L/\Nb w w':=by
 have KB:ϡ (∀w1,CT 252 #[.pointer (some ⟨b,13,none⟩),vI side] w1 λe w'=>e= .returned (.pointer (some ⟨b,13+A6 side,none⟩))/\w'=w1):=λw1=>He b 13 side w1;have HJ:=hV0 h;have bz:ϡ (okB (Ar s side)/\∀z∈Ab (Ar s side),pl.i64 z.seq):=⟨ok,hs⟩;have HQ:ϡ (∀k,k<ϲ l->pl.i64 (l.getD k ϰ).seq):=λk hk=>hq _ (Bc hk);obtain⟨O,G,h3⟩:=hh;dsimp only at U bd;have HE:ϡ (Cn w O N/\(ϲ N)=ϲ l/\∀k,k<ϲ l->(N.getD k ϰ).seq=(l.getD k ϰ).seq):=⟨bd,b6,cc⟩;obtain⟨ln,bn⟩:=nM (ϲ l);have bx:=hV0 bn;rw[bn]at hl U;subst U;clear h ok hs bd b6 cc hq bn;unfold hdV;dsimp only;have dj:=@run_makeMap prog;refine(DM (n:=0)).1 ?_;refine bH func358 rfl trivial ?_ rfl;simp only[ntmps358,St,DP,NS,Nat.reduceAdd,Nat.reduceSub,aU,aV,aW,aX,JV,KY]
 gi_wp2
 gi_loopw [14] (λi wr=> ∃k:Nat,k<=G/\i=vI k/\Fa wr w.heap.size k ((l.take k).map (·.seq))/\Δ wr (w+1) 0 (.map (some w.heap.size))/\ϡ (Am wr (w+1) 298)/\Ϣ w wr) (λi _=>G - (intOf i).toNat)
 case atStart=>exact⟨0,At _,rfl,C6 (Tm w) Ϯ,ϧ,(by have:=DE (w.alloc (.map #[] 0)) (.cells #[.map (some w.heap.size)] 298);rw[D0]at this;exact⟨_,_,this⟩),Ϯ.alloc ϥ _⟩
 case round=>
  obtain⟨k,hk,rfl,ad,al,a7,J⟩:=hrel;by_cases c9:k<G
  ·have av:k<ϲ l:=by rw[bx.o];exact c9
   obtain⟨gb,dp,ea,x1,x2,x3,x4,x5⟩:=HE.o.1 k (by rw[HE.o.2.1];exact av);subst ea;obtain⟨q1,q2,q3,q4,q5⟩:=lk5 J x1 x2 x3 x4 x5;clear x1 x2 x3 x4 x5;have br:(N.getD k ϰ).seq=(l.getD k ϰ).seq:=HE.o.2.2 k av;have am:=HQ.o k av;rw[<-br]at am;have ba:ϡ ((l.take (k+1)).map (·.seq)=(l.take k).map (·.seq)++[(N.getD k ϰ).seq]):=by
    show _=_;rw[br];exact Aan av
   obtain⟨⟨ek,et,C,⟨r1,r2,r3⟩,em⟩,hz⟩:∃z,N.getD k ϰ=z:=⟨_,rfl⟩;rw[hz]at q1 q2 q3 q4 q5 am ba;unfold hdV at q4;dsimp only at q1 q2 q3 q4 q5 am ba;have i1:=nn0 k;have i2:(k:Int)<(G:Int):=ϣ;have be:=C6 ad ((RK wr.heap.size wr).alloc nR (.cells (φ ek et C r1 r2 r3 em) 166));have c8:=F4 be am;have b5:=eS (a:=C) (l:=(l.take k).map (·.seq));rw[lMp,DA]at b5;obtain⟨X1,dc,q0,H⟩:=On be am ϭ (by rw[lMp,DA];omega);have de:ϡ (∃o:Obj,wr.heap[w.heap.size]? =some o/\o.isCells=false):=Lg ad;have cw:ϡ (Fa X1 w.heap.size (k+1) ((l.take (k+1)).map (·.seq))):=by
    show Fa _ _ _ _;rw[ba.o];exact q0
   obtain⟨c,hc⟩:=nM (((l.take k).map (·.seq)).count C);rw[hc]at c8 dc b5;have dm:IntKind.i64.wrap ((c:Int)+1)=(c:Int)+1:=by rw[ch.Cr];omega
   have lw:w.heap.size+1<wr.heap.size:=bLt _ _ al;have aw:Δ X1 (w+1) 0 (.map (some w.heap.size)):=(cOb (w:=wr) (a:=⟨w+1,0,none⟩) ((H.block (w.heap.size+1) (by rw[D0];omega) (λe=>by injection e with e;omega)).trans (LE _ _ _ lw))).trans al;have ct:ϡ (Am X1 (w+1) 298):=A1 a7.o ((H.block (w.heap.size+1) (by rw[D0];omega) (λe=>by injection e with e;omega)).trans (LE _ _ _ lw));have ck:ϡ (Ϣ w X1):=⟨H.os.trans J.os,H.tape.trans J.tape,H.output.trans J.output,B0 J.size (B0 (Nat.le_of_lt (by rw[D0];exact Nat.lt_succ_self _)) H.size),λg c3=>((H.block g (by rw[D0];have:=J.size;omega) (λe=>by injection e with e;omega)).trans (LE _ _ _ (by have:=J.size;omega))).trans (J.block g c3)⟩;clear hz ad be q0 hc br H
   gi_wp2
   exact⟨⟨k+1,ϣ,by go_num,cw.o,aw,ct,ck.o⟩,by simp[intOf];omega⟩
  ·have b9:k=G:=ϣ;have b7:(l.take k).map (·.seq)=l.map (·.seq):=by rw[b9,<-bx.o,Ok]
   rw[b7]at ad;have bs:=hV0 ad;have au:¬((k:Int)<(G:Int)):=ϣ;have ab:ϡ (JSt w0 wr b T p x s y t L):=HJ.o.below J;obtain⟨ae,an,af⟩:=JN ab.o.box.join side;have cb:OB wr w0 (BZ y side) (Ar s side):=by
    unfold BZ Ar;split
    ·exact ab.o.r
    ·exact ab.o.l
   have ao:=hV0 cb;have di:w.heap.size+1<wr.heap.size:=bLt _ _ al;obtain⟨kk,b8⟩:=nM (13+A6 side);rw[b8]at KB ae an af;obtain⟨cf,ca⟩:=nM ((Ar s side).lim);rw[ca]at ae;obtain⟨ci,bc⟩:=nM (BZ y side);rw[bc]at an af ao;obtain⟨az,a0,⟨⟨m1,m2,m3⟩,ml⟩,rs⟩:=ci;dsimp only at an af;obtain⟨n',bp⟩:=nM (ϲ rs);have HN:=hV0 bp;rw[bp]at af;have cl:=hV0 bc;clear ad cb bp b8 ca bc b9 b7 hk;have lb:b<wr.heap.size:=ab.o.box.lt
   gi_wp2_with (refine⟨trivial,rfl,?_⟩;first
    |(gi_at_call 252;refine(DM.2 (KB.o _)).mono ?_;rintro e w' ⟨rfl,rfl⟩)
    |(gi_at_call 233;refine(DM.2 (Jv _ _ _ rfl rfl rfl _)).mono ?_;rintro e w' ⟨rfl,rfl⟩))
   generalize ah:(w'.alloc (.cells (τ cf m1 m2 m3 az n' a0) 36))=V at *;have V1:Δ V w' 1 (vS m1 m2 m3):=by subst ah;go_simp
   have V2:Δ V w' 2 (vS az n' a0):=by subst ah;go_simp
   have V8:Ϣ w' V:=by subst ah;exact Ϯ
   have T2:Am V w' 36:=by subst ah;exact⟨_,_,DE w' _⟩
   have VM:=cLz V8 al;have TM:=Ak a7.o V8;clear ah;have a6:ϡ (JSt w0 V b T p x s y t L):=ab.o.below V8;have cj:ϡ (Ϣ w V):=bT J V8;have a2:ϡ (Fa V w.heap.size k (l.map (·.seq))):=C6 bs.o V8;have a8:ϡ (w.heap.size<V.heap.size/\w0.heap.size<=V.heap.size):=⟨XK a2.o,a6.o.bl.size⟩;have a9:ϡ (OB V w0 ⟨az,a0,((m1,m2,m3),ml),rs⟩ (Ar s side)):=ao.o.below V8;obtain⟨P,hP⟩:∃z:List Part,(((m1,m2,m3),ml)::rs)=z:=⟨_,rfl⟩;have cu:=hV0 hP;obtain⟨E,aq⟩:∃z:List Hdr,P.map (·.1)=z:=⟨_,rfl⟩;have bu:=hV0 aq;have bj:=Kj ao.o.at V8 w'.heap.size (Uu E) V1 (by rw[HN.o];exact V2) (I2 T2 Ϥ) (λa h0 ha=>I2 (Az a9.o.hds (by dsimp only at ha⊢;rw[ha];rfl)) Ϥ);obtain⟨r,ac⟩:=nM (partsB (Ar s side));have cv:=hV0 ac;have ag:ϡ (ϲ r=ϲ P):=by show _=_;rw[<-ac,<-hP];have:=a9.o.rlen;dsimp only at this;simp[partsB,this]
   have cy:ϡ (∀i,i<ϲ r->ϲ (r.getD i [])<=ύ):=λi F=>by
    have:=(bz.o.1.small).1 (r.getD i []) (by rw[ac];exact Bc F);omega
   have cz:ϡ (∀i j,i<ϲ r->j<ϲ (r.getD i [])->pl.i64 ((r.getD i []).getD j ϰ).seq):=λi j F hj=>bz.o.2 _ (by unfold Ab;rw[ac];exact Th.2 ⟨r.getD i [],Bc F,Bc hj⟩);obtain⟨A,bq⟩:=nM (l.map (·.seq));have cx:=hV0 bq;rw[bq]at a2;have c0:ϡ (NSt w0 V V w0.heap.size E (Dc (metE A) r 0)):=by
    show NSt _ _ _ _ _ _;rw[<-ac,<-aq,<-hP];exact Aal a9.o a6.o.bl
   dsimp only at bj;rw[hP]at bj;have ap:ϲ E=ϲ P:=by rw[<-aq,lMp]
   clear ac hP aq bq V1 V2 T2 bs ab ao al a7 KB ae an af;refine DF (gf:=268) (lb:=#[.pointer (some ⟨w',0,none⟩)]) rfl (IB func268 Ϧ rfl) bj bR (λx hx=>by obtain⟨p,_,rfl⟩:=DS.1 hx;rfl) (λh k=>Aw.trans h k) (λW l o o' _ h ho=>Aw.put W l o o' h ho)
    (λi X=>NSt w0 V X w0.heap.size E (Dc (metE A) r i)/\Fa X w.heap.size k A) (λc X=>False)
    (λi X X' cg hs hg hr=>⟨hs.1.row (by have:=a8.o.2;omega) hg hr,Mm hs.2 hg (λe=>by have:=(hr _ e.symm).1;have:=a8.o.1;omega)⟩)
    (λc X X' cg hs hg hr=>hs)
    ⟨c0.o,a2.o⟩
    (λi a' X=>a'={tmps:=#[.pointer (some ⟨b,0,none⟩),vI side,vS O G h3,undef,undef,undef,.pointer (some ⟨w+1,0,none⟩),undef,u8,hdV (P.getD i ϰ).1,undef,.map (some w.heap.size),vS O G h3,vI G,vI k,.bool false,u16,u17,u18,u19,u20,u21,u22,u23,.pointer (some ⟨b,0,none⟩),.pointer (some ⟨b,0,none⟩),.pointer (some ⟨b,13,none⟩),vI side,.pointer (some ⟨b,kk,none⟩),.pointer (some ⟨b,kk,none⟩),.agg #[vI cf,vS m1 m2 m3,vS az n' a0],.func (.func 268) #[] #[.pointer (some ⟨w',0,none⟩)],hdV (P.getD i ϰ).1,undef,undef,undef,undef,undef,undef,undef,undef,undef,undef,undef,undef,undef,undef,undef,undef,undef,undef,undef,undef,undef,undef,undef,undef,undef],defers:=[]})
    (λi a' u X X' cg hs hg hr=>hs) ?assign ?body ?done ?stop
   case assign=>
    intro l' k1 x1 X K hx F m;obtain⟨hk,ay⟩:=JT.1 hx;rw[lMp]at hk;rw[aP]at ay;subst ay;have hd:P.getD k1 ϰ=P[k1]:=by rw[gDe,gEe hk];rfl
    have ak:=λW' O G h3=>m _ W' O G h3 rfl;rw[hd]at ak;clear m hd hx;obtain⟨⟨⟨z1,z2,z3⟩,zl⟩,hz⟩:∃z,P[k1]=z:=⟨_,rfl⟩;rw[hz]at ak⊢;unfold hdV at ak⊢;dsimp only at ak⊢
    gi_wp2
    exact ak X (cV _ _) (Aw.refl _ _) F
   case body=>
    intro l' i x1 a' X hx dh dl aj b3;obtain⟨aj,b4⟩:=aj;obtain⟨F,ay⟩:=JT.1 hx;rw[lMp]at F;have hd:P.getD i ϰ=P[i]:=by rw[gDe,gEe F];rfl
    have ai:E.getD i hd0=(P[i]).1:=by rw[<-bu.o,gDe,L7,gEe F];rfl
    rw[hd]at b3;subst b3;have U:=aj.hlen (by rw[ap];exact F) (by rw[ag.o,ap]);have db:=cy.o i (by rw[ag.o];exact F);clear hx ay hd;obtain⟨⟨⟨z1,z2,z3⟩,zl⟩,hz⟩:∃z,P[i]=z:=⟨_,rfl⟩;rw[hz]at ai⊢;rw[ai]at U;dsimp only at ai U⊢;obtain⟨q,hq⟩:∃q,ϲ (r.getD i [])=q:=⟨_,rfl⟩;have b0:=hV0 hq;rw[hq]at U db;subst U;have a3:=hV0 ai;have a4:ϡ (i<ϲ E):=by show _<_;rw[ap];exact F
    have a5:ϡ (i<ϲ r):=by show _<_;rw[ag.o];exact F
    have bv:ϡ (ϲ r=ϲ E):=by show _=_;rw[ag.o,ap]
    have cp:=hV0 aj;have ae:=hV0 b4;unfold hdV;dsimp only;clear hz hq ai aj F b4
    gi_wp2
    gi_loopw [35] (λt wr=> ∃j:Nat,j<=z2/\t=vI j/\NSt w0 V wr w0.heap.size E (doneD (metE A) r i j)/\Fa wr w.heap.size k A/\Aw (Uu E) X wr/\KeepsFrom V.heap.size X wr) (λt _=>z2 - (intOf t).toNat)
    case atStart=>exact⟨0,At _,rfl,by rw[WX a5.o];exact cp.o,ae.o,Aw.refl _ _,cV _ _⟩
    case round=>
     obtain⟨j,hj,rfl,Z,aa,bk,au⟩:=hrel;have cr:=hV0 Z;have c6:=Z.ko.cell (I2 TM Ϥ) VM;by_cases c7:j<z2
     ·have ar:j<ϲ (r.getD i []):=by rw[b0.o];exact c7
      obtain⟨g,e,hg,x3,x5,x6,bi,bh⟩:=Z.read a4.o bv.o ar;rw[a3.o]at hg;injection hg with H c2
      clear c2;have HG:ϡ ((E.getD i hd0).1=some ⟨g,0,none⟩):=by show _=_;rw[a3.o];exact H
      have ax:=cz.o i j a5.o ar;rw[bi]at ax;have bm:=F4 aa ax;have R:ϡ (∀Y,Ϣ wr Y->NSt w0 V (ό Y g (j * 5+4) (.bool (e.met||decide (e.seq∈A)))) w0.heap.size E (doneD (metE A) r i (j+1))/\Aw (Uu E) Y (ό Y g (j * 5+4) (.bool (e.met||decide (e.seq∈A))))):=λY I=>(cr.o.below I).put nR a4.o bv.o ar HG.o (by rw[bh];exact cLz I x5) (by rw[bh,bi]);have bb:ϡ (Am wr g 166):=by
       obtain⟨df,ho⟩:=Z.op;have da:=ho.oe i a4.o;refine Az da.own ?_;rw[a3.o,H];rfl
      have a1:ϡ (∀Y v,Ϣ wr Y->Fa (ό Y g (j * 5+4) v) w.heap.size k A):=λY v I=>Qs (C6 aa I) (CB _ _ _ _ (λM=>by
       dsimp only at M;obtain⟨o,O,G⟩:=Lg aa;obtain⟨c,f,h3⟩:=bb.o;rw[M,h3]at O
       cases O
       cases G))
      have c1:=H.symm;subst c1;obtain⟨ek,et,C,⟨r1,r2,r3⟩,em⟩:=e;dsimp only at bm R x3 x5 x6 ax;have lg:g<wr.heap.size:=bLt _ _ x3;have i1:=nn0 j;have i2:(j:Int)<(z2:Int):=ϣ;have aw:prog.follows .mixedOrders=true:=Ϧ;obtain⟨B,hB⟩:=nM (decide (C∈A));have c4:∀t,binOp .gtr t (vI ((A.count C:Nat):Int)) (vI 0)=pure (.bool B):=pl.EH B (by rw[<-hB,<-Aao]);rw[hB]at R;obtain⟨cn,bg⟩:=nM (A.count C);rw[bg]at bm c4;have bw:ϡ (∀Y,Fa Y w.heap.size k A->(Instr.lookup 298 (.map (some w.heap.size)) (vI C) false).run prog Y= .ok (vI cn) Y):=λY hc=>by
       have:=F4 hc ax;rw[bg]at this;exact this
      have cm:=hV0 aa;have co:ϡ (g≠w.heap.size+1):=tyAt_apart bb.o (A1 TM (Z.ko.block (I2 TM Ϥ) VM)) Ϥ;clear Z H ar HG bi bh aa hB bg bb;have b1:ϡ (∀Y,Ϣ wr Y->Δ Y g (j * 5+2) (vI C)/\Δ Y (w+1) 0 (.map (some w.heap.size))/\(Instr.lookup 298 (.map (some w.heap.size)) (vI C) false).run prog Y= .ok (vI cn) Y):=λY I=>⟨cLz I x3,cLz I c6,bw.o _ (C6 cm.o I)⟩;have b2:ϡ (∀Y v,Ϣ wr Y->Δ (ό Y g (j * 5+4) v) g (j * 5+2) (vI C)/\Δ (ό Y g (j * 5+4) v) (w+1) 0 (.map (some w.heap.size))/\(Instr.lookup 298 (.map (some w.heap.size)) (vI C) false).run prog (ό Y g (j * 5+4) v)= .ok (vI cn) (ό Y g (j * 5+4) v)):=λY v I=>⟨(bJ _ _ _ _ (λM=>by injection M with _ M;omega)).trans (cLz I x3),(bJ _ _ _ _ (λM=>by injection M with M _;exact co.o M)).trans (cLz I c6),bw.o _ (a1.o Y v I)⟩;clear bm
      cases em with
      |true=>
       rw[Bool.true_or]at R
       gi_wp2
       refine AbZ 20 rfl aw Ϧ (λ⟨_,_,h⟩=>h) (S:=λw'=>Δ w' g (j * 5+2) (vI C)/\Δ w' (w+1) 0 (.map (some w.heap.size))/\(Instr.lookup 298 (.map (some w.heap.size)) (vI C) false).run prog w'= .ok (vI cn) w') (b1.o _ bR.drew) (λd=>?_);refine tkz 0 38 d ?_;refine tkz 1 39 d ?_;refine tkz 2 40 d ?_;refine tkz 3 41 d ?_;refine tkz 4 42 d ?_;refine tkz 5 43 d ?_;refine rD 6 λK m=>?_;go_simp;refine m.out _ _ d (λd=>?_);clear m K
       try simp only[Act.put,sI,sZ,sSz]
       refine tkz 7 45 d ?_;refine sk 8 46 d ?_;refine sk 9 47 d ?_;refine sk 10 48 d ?_;refine sk 11 49 d ?_;refine sk 12 50 d ?_;refine sk 13 51 d ?_;refine sk 14 52 d ?_;refine sk 15 53 d ?_;refine tkz 16 54 d ?_;refine tkz 17 55 d ?_;refine tkz 18 56 d ?_;refine rD 19 λK m=>?_;go_simp;refine m.out _ _ (b2.o _ _ bR.drew) (λd=>?_);clear m K;refine GT Ϧ ?_ _
       gi_wp2
       exact⟨⟨j+1,ϣ,by go_num,(R.o _ bR).1.below bR.drew,C6 (a1.o _ _ bR) bR.drew,bk.trans ((R.o _ bR).2.trans (O8 bR.drew)),au.trans (((Rg _ _ _).from _).trans (BW bR.drew))⟩,by simp[intOf];omega⟩
      |false=>
       rw[fV]at R
       gi_wp2
       refine AbZ 20 rfl aw Ϧ (λ⟨_,_,h⟩=>h) (S:=λw'=>Δ w' g (j * 5+2) (vI C)/\Δ w' (w+1) 0 (.map (some w.heap.size))/\(Instr.lookup 298 (.map (some w.heap.size)) (vI C) false).run prog w'= .ok (vI cn) w') (b1.o _ bR.drew) (λd=>?_);refine tkz 0 38 d ?_;refine tkz 1 39 d ?_;refine tkz 2 40 d ?_;refine tkz 3 41 d ?_;refine tkz 4 42 d ?_;refine tkz 5 43 d ?_;refine rD 6 λK m=>?_;go_simp;refine m.out _ _ d (λd=>?_);clear m K
       try simp only[Act.put,sI,sZ,sSz]
       refine tkz 7 45 d ?_;refine tkz 8 46 d ?_;refine tkz 9 47 d ?_;refine tkz 10 48 d ?_;refine tkz 11 49 d ?_;refine tkz 12 50 d ?_;refine tkz 13 51 d ?_;refine tkz 14 52 d ?_;refine tkz 15 53 d ?_;refine tkz 16 54 d ?_;refine tkz 17 55 d ?_;refine tkz 18 56 d ?_;refine rD 19 λK m=>?_;go_simp;refine m.out _ _ (b2.o _ _ bR.drew) (λd=>?_);clear m K;refine GT Ϧ ?_ _
       gi_wp2
       exact⟨⟨j+1,ϣ,by go_num,(R.o _ bR).1.below bR.drew,C6 (a1.o _ _ bR) bR.drew,bk.trans ((R.o _ bR).2.trans (O8 bR.drew)),au.trans (((Rg _ _ _).from _).trans (BW bR.drew))⟩,by simp[intOf];omega⟩
     ·have c5:j=z2:=ϣ;have cs:ϡ (NSt w0 V wr w0.heap.size E (Dc (metE A) r (i+1))/\Fa wr w.heap.size k A):=by
       refine⟨?_,aa⟩;rw[<-Aak a5.o,b0.o,<-c5];exact Z
      have dg:¬((j:Int)<(z2:Int)):=ϣ;clear Z aa
      gi_wp2
      exact⟨au,bk,cs.o⟩
   case done=>
    rintro D X hD bo m;have cq:ϡ (NSt w0 V X w0.heap.size E (Dc (metE A) r (ϲ P))):=by
     show NSt _ _ _ _ _ _;rw[lMp]at bo;exact bo.1
    clear bo
    gi_wp2
    refine⟨ϥ,.inl ⟨_,_,rfl,RM m,?_⟩⟩;have hn:=cq.o.rec_put m rfl (by have:=a8.o.2;omega) (.deferred none);rw[<-ag.o,<-bu.o,<-cu.o,<-cv.o,WV]at hn;refine⟨.tuple #[],(by simp[results,results358,go_sem]),rfl,?_⟩;rw[cx.o];have cd:V.heap.size<=(X.putObj D (.deferred none)).heap.size:=by have O:=(GS.1 m).1;simp;omega
    obtain⟨y',dd⟩:=JSt.met a6.o hT side A (by rw[cl.o];exact hn) cd;exact⟨y',dd,AcO HJ.o cj.o hn cd⟩
   case stop=>
    rintro D c X hD h m;exact h.elim
def WZ(b:Nat)(T:TypeId)(p:pl.Pln)(x:pl.PA)(s:Jn)(y:JX)(t:Value)(L:List CO)(side:Int)(c:Hdr)(f:List EM)(l:List Ent)(base:Nat)(w0 w:ϟ)(h:JSt w0 w b T p x s y t L)(n:calmC T)(ok:okB (Ar s side))(hs:∀z∈Ab (Ar s side),pl.i64 z.seq)(d:OE w base (hdV c) f l)(r:ϲ l<=1000000)(u:∀z∈l,pl.i64 z.seq):
 χ 358 #[ω b,vI side,hdV c] w λe w'=>e= .returned (.tuple #[])/\∃A,JSt w0 w' b T p x (AP s side (DL (l.map (·.seq)) (Ar s side))) A t L/\Nb w w':=
 have m:=GU (p:=(c,f)) d
 WY b T p x s y t L side c f l w0 w h n ok hs (by rw[<-d.len];exact m.1.1) m.2 d.len (λk q=>(d.rows k q).seq) r u
variable {T e : TypeId} {w w' w0 w1 w2 : ϟ} {b base g o rc rn : Nat} {t v : Value} {L : List CO} {p : pl.Pln} {x : pl.PA} {s : Jn} {y : JX} {ra : Ϡ} {ops : Array Oper} {op : Oper} {a : Act} {Q : Exit -> Act -> World -> Prop} {rest : List Oper}
def EW(T:TypeId)(w w':World):Prop:=Below 0 w w'/\∀g e,Am w g e->e≠T->e≠217->w'.heap[g]? =w.heap[g]?
def EW.refl(T:TypeId)(w:ϟ):EW T w w:=⟨bR,λ_ _ _ _ _=>rfl⟩
def EW.trans(h:EW T w w1)(k:EW T w1 w2):EW T w w2:=⟨h.1.trans k.1,λg e f c d=>(k.2 g e (A1 f (h.2 g e f c d)) c d).trans (h.2 g e f c d)⟩
def Jo(h:Ϣ w w'):EW T w w':=⟨h.mono (At _),λg e c _ _=>h.block g (A7 c)⟩
def Pf(c:US w w' b t)(h:Am w b T)(m:CG w base t L):EW T w w':=⟨c.1,λg e n d f=>Yn c h m d.symm f n⟩
def EW.cell(h:EW T w w')(f:Am w g e)(h1:e≠T)(c:e≠217)(d:Δ w g o v):Δ w' g o v:=(cOb (w:=w) (a:=⟨g,o,none⟩) (h.2 g e f h1 c)).trans d
def EW.ty(h:EW T w w')(c:Am w g e)(h1:e≠T)(d:e≠217):Am w' g e:=A1 c (h.2 g e c h1 d)
def EW.oe{c:List EM}{l:List Ent}(h:EW T w w')(d:calmC T)(m:OE w base v c l):OE w' base v c l:=m.other h.1.size (λg f=>f.elim (λk=>h.2 g _ k d.t.e.symm Ϥ) (λk=>h.2 g _ k d.t.v.symm Ϥ))
def Cv(T:TypeId)(w w':World):Prop:=Below 0 w w'/\∀g e,Am w g e->e≠T->e≠217->e≠166->w'.heap[g]? =w.heap[g]?
def Cv.trans(h:Cv T w w1)(k:Cv T w1 w2):Cv T w w2:=⟨h.1.trans k.1,λg e m c d f=>(k.2 g e (A1 m (h.2 g e m c d f)) c d f).trans (h.2 g e m c d f)⟩
def Bi(h:Ϣ w w'):Cv T w w':=⟨h.mono (At _),λg e c _ _ _=>h.block g (A7 c)⟩
def EW.m(h:EW T w w'):Cv T w w':=⟨h.1,λg e f c d _=>h.2 g e f c d⟩
def Nb.m(h:Nb w w'):Cv T w w':=⟨h.1,λg e d _ _ c=>h.2 g e d c⟩
def Cv.cell(h:Cv T w w')(m:Am w g e)(h1:e≠T)(c:e≠217)(d:e≠166)(f:Δ w g o v):Δ w' g o v:=(cOb (w:=w) (a:=⟨g,o,none⟩) (h.2 g e m h1 c d)).trans f
def M7{f:List Cel}(h:JSt w0 w b T p x s y t L)(d:calmC T)(z:ϲ L<=1000000)(n:Ϣ w w1)(A:AF w1 w (vS ra rn rc) f):
 χ 357 #[ω b,vS ra rn rc] w1 λe w'=>e= .returned (.tuple #[])/\∃m,JSt w0 w' b T p x s y m (L++[⟨1,vS ra rn rc,f⟩])/\EW T w1 w':=
 have c:=h.below n
 (Xu b p x s y t T ra rn rc f L w0.heap.size w w1 c.box c.ty d.c d.t.v h.cg n A z).mono (by
  rintro e w' ⟨rfl,m,r,u,q⟩;exact⟨rfl,m,c.told d r u q,Pf q c.ty c.cg⟩)
def Afd{d:Ϡ}{m f:Nat}{q r:List Cel}(h:JSt w0 w b T p x s y t L)(n:calmC T)(F:ϲ L<=1000000)(z:Ϣ w w1)(G:AF w1 w (vS d m f) r)(A:Ϣ w1 w2)(H:AF w2 w1 (vS ra rn rc) q):
 χ 355 #[ω b,vS ra rn rc,vS d m f] w2 λe w'=>e= .returned (.tuple #[])/\∃u,JSt w0 w' b T p x s y u (L++[⟨3,vS ra rn rc,q⟩,⟨4,vS d m f,r⟩])/\EW T w2 w':=
 have C:=bT z A;have c:=h.below C
 (Adr b p x s y t T ra d rn rc m f q r L w0.heap.size w2 c.box c.ty n.c n.t.v (h.cg.two2 z G A H) F).mono (by
  rintro e w' ⟨rfl,u,D,E,B⟩;exact⟨rfl,u,c.told n D E B,Pf B c.ty c.cg⟩)
def kindT(k:Int):TypeId:=if k=1 then 270 else if k=2 then 272 else 274
def kindP(k:Int):TypeId:=if k=1 then 268 else if k=2 then 271 else 273
def Ky{K:Act->World->Prop}{E:Prop}(d:op.guard=none)(c:TypeId)(x y:Operand)(m:op.op= .store c x y)
 (b o:Nat) (cells:Array Value) (q:a.eval x= .pointer (some ⟨b,o,none⟩)) (hy:a.eval y= .agg cells) (ht:w.there b o cells.size) (f:(prog.info? c).map (·.size)=some cells.size) (h1:cells.all (·.oneCell')=true)
 (h:K (a.put op.dst undef) (w.setCells b o cells.toList)):
 if Region.wanted op (yielded ops a.tmps)=true then Oper.wp prog op a w K Q else E:=by
 have n:Region.wanted op (yielded ops a.tmps)=true:=by simp[Region.wanted,d]
 rw[AE n];exact wp_store_mid c x y m b o cells q hy ht f h1 h
def Ll:(prog.info? 267).map (·.size)=some 23:=Ϧ
def LJ{o:Oper}(t:TypeId)(c:Array (Nat×Operand))(d:o.op= .build t c)(cells:Array Value)(h:prog.built t (c.map λ(i,x)=>(i,a.eval x)).toList=some cells)(w:ϟ):(execOp a.eval o).run prog w= .ok (.value (.agg cells)) w:=by
 unfold execOp;simp only[d,bC,run_build w t _ cells h,bD];rfl
theorem Su(w:ϟ)(t:TypeId)(c d E I c4 J K M N O f m q r u z A B C D F G H:Value):(w.alloc (.cells #[c,d,E,I,c4,J,K,M,N,O,f,m,q,r,u,z,A,B,C,D,F,G,H] t)).there w.heap.size 0 23:=by
 intro j P
 match j,P with
 |0,_=>exact⟨ϧ,ϧ⟩
 |1,_=>exact⟨ϧ,ϧ⟩
 |2,_=>exact⟨ϧ,ϧ⟩
 |3,_=>exact⟨ϧ,ϧ⟩
 |4,_=>exact⟨ϧ,ϧ⟩
 |5,_=>exact⟨ϧ,ϧ⟩
 |6,_=>exact⟨ϧ,ϧ⟩
 |7,_=>exact⟨ϧ,ϧ⟩
 |8,_=>exact⟨ϧ,ϧ⟩
 |9,_=>exact⟨ϧ,ϧ⟩
 |10,_=>exact⟨ϧ,ϧ⟩
 |11,_=>exact⟨ϧ,ϧ⟩
 |12,_=>exact⟨ϧ,ϧ⟩
 |13,_=>exact⟨ϧ,ϧ⟩
 |14,_=>exact⟨ϧ,ϧ⟩
 |15,_=>exact⟨ϧ,ϧ⟩
 |16,_=>exact⟨ϧ,ϧ⟩
 |17,_=>exact⟨ϧ,ϧ⟩
 |18,_=>exact⟨ϧ,ϧ⟩
 |19,_=>exact⟨ϧ,ϧ⟩
 |20,_=>exact⟨ϧ,ϧ⟩
 |21,_=>exact⟨ϧ,ϧ⟩
 |22,_=>exact⟨ϧ,ϧ⟩
 |n+23,h=>exact absurd h ϣ
def Sv{o:Oper}(f:o.guard=none)(t:TypeId)(c:Array (Nat×Operand))(m:o.op= .build t c)(cells:Array Value)
 (d:prog.built t (c.map λ(i,x)=>(i,a.eval x)).toList=some cells) (h:wpList prog ops Q rest (a.put o.dst (.agg cells)) w):wpList prog ops Q (o::rest) a w:=
 wpList_build f t c m (by rw[d];rfl) (by rw[d];exact h)
theorem Xa{U:ϟ}(h:boxC U b p x s y t):U.rangeAt b 0 (η p x (ν s y.l y.r [t])):=λj v c=>by
 obtain⟨f,m,z,A,B,C,D,E,F,G,q,r,u⟩:=h.plan;obtain⟨u0,u1,u2,u3,u4,u5,u6,u7,u8⟩:=h.join;have d:=h.told
 match j,c with
 |0,c=>injection c with c;subst c;exact f
 |1,c=>injection c with c;subst c;exact m
 |2,c=>injection c with c;subst c;exact z
 |3,c=>injection c with c;subst c;exact A
 |4,c=>injection c with c;subst c;exact B
 |5,c=>injection c with c;subst c;exact C
 |6,c=>injection c with c;subst c;exact D
 |7,c=>injection c with c;subst c;exact E
 |8,c=>injection c with c;subst c;exact F
 |9,c=>injection c with c;subst c;exact G
 |10,c=>injection c with c;subst c;exact q
 |11,c=>injection c with c;subst c;exact r
 |12,c=>injection c with c;subst c;exact u
 |13,c=>injection c with c;subst c;exact u0
 |14,c=>injection c with c;subst c;exact u1
 |15,c=>injection c with c;subst c;exact u2
 |16,c=>injection c with c;subst c;exact u3
 |17,c=>injection c with c;subst c;exact u4
 |18,c=>injection c with c;subst c;exact u5
 |19,c=>injection c with c;subst c;exact u6
 |20,c=>injection c with c;subst c;exact u7
 |21,c=>injection c with c;subst c;exact u8
 |22,c=>injection c with c;subst c;exact d
 |n+23,c=>cases c
def PZ(f:op.guard=none)(x:Operand)(n:op.op= .load 267 x)(b:Nat)(q:a.eval x= .pointer (ϋ b))(c:Array Value)(m:c.size=23)(d:w.rangeAt b 0 c.toList)
 (h:wpList prog ops Q rest (a.put op.dst (.agg c)) w):wpList prog ops Q (op::rest) a w:=
 wpList_load_mid f _ x n b 0 q c.toList _ d underlying267 rfl (by rw[bS,m];exact Ll) h
def Sw:calmT 267:=⟨Ϥ,Ϥ,Ϥ⟩
def AcQ(w:ϟ)(T:TypeId)(p:pl.Pln)(x:pl.PA)(s:Jn)(y:JX)(t:Value)(ht:t.oneCell'=true):boxC (ϊ w (θ p x (ν s y.l y.r [t])) T) w.heap.size p x s y t/\Am (ϊ w (θ p x (ν s y.l y.r [t])) T) w.heap.size T:=by
 refine⟨⟨?_,?_,ϧ,Su _ _ _ _ _ _ _ _ _ _ _ _ _ _ _ _ _ _ _ _ _ _ _ _ _⟩,⟨_,_,DE w _⟩⟩
 ·unfold boxP;refine⟨?_,?_,?_,?_,?_,?_,?_,?_,?_,?_,?_,?_,?_⟩<;>go_simp
 ·unfold jnC;refine⟨?_,?_,?_,?_,?_,?_,?_,?_,?_⟩<;>go_simp
theorem Uy(h:w.there b 0 23)(p:pl.Pln)(x:pl.PA)(s:Jn)(y:JX)(t:Value):boxC (w.setCells b 0 (η p x (ν s y.l y.r [t]))) b p x s y t:=by
 have hs:=Wf w b 0 (η p x (ν s y.l y.r [t])) h;have c:∀i v,[vI p.kind,vI p.mode,vI p.low,vI p.high,vI p.size,vI p.limit,vS x.l (ϲ p.left) x.lc,vS x.r (ϲ p.right) x.rc,vS x.lk (ϲ p.lkeys) x.lkc,vS x.rk (ϲ p.rkeys) x.rkc,.bool p.grouped,vS x.g (ϲ p.group) x.gc,vS x.a (ϲ p.aggs) x.ac,vI s.L.lim,vS y.l.m.1.1 y.l.m.1.2.1 y.l.m.1.2.2,vS y.l.ra (ϲ y.l.rs) y.l.rc,vI s.R.lim,vS y.r.m.1.1 y.r.m.1.2.1 y.r.m.1.2.2,vS y.r.ra (ϲ y.r.rs) y.r.rc,vI s.lm,vI s.rm,vI s.seq,t][i]? =some v->Δ (w.setCells b 0 (η p x (ν s y.l y.r [t]))) b i v:=λi v d=>by
  have:=hs i v d;simpa using this
 exact⟨⟨c 0 _ rfl,c 1 _ rfl,c 2 _ rfl,c 3 _ rfl,c 4 _ rfl,c 5 _ rfl,c 6 _ rfl,c 7 _ rfl,c 8 _ rfl,c 9 _ rfl,c 10 _ rfl,c 11 _ rfl,c 12 _ rfl⟩,⟨c 13 _ rfl,c 14 _ rfl,c 15 _ rfl,c 16 _ rfl,c 17 _ rfl,c 18 _ rfl,c 19 _ rfl,c 20 _ rfl,c 21 _ rfl⟩,c 22 _ rfl,dD h _ _ _⟩
theorem Xb(p:pl.Pln)(x:pl.PA)(s:Jn)(y:JX)(w:ϟ)(h1:p.kind=1)(h:joinAt w s y)(O:okB s.L)(P:okB s.R):
 χ 154 #[pl.Ai p x,joinV s y] w λe w'=> ∃K y',e= .returned (.iface (kindP p.kind) (.pointer (ϋ K)))/\JSt w w' K (kindT p.kind) p x s y' (vS none 0 0) []:=by
 have F:=hIz (λ(w1:ϟ) (hb:Ϣ w w1)=>Xt s y w1 (h.below hb) O P);have aa:=hV0 h1;clear h O P h1;unfold pl.Ai;rw[AU]at F⊢;go_enter func154,ntmps154;go_wp2;generalize C:(World.alloc (World.alloc w _) _)=V;have n:Ϣ w V:=by rw[<-C];exact Ϯ.alloc ϥ _
 have r:ϡ (boxP V w p x):=by
  subst C;exact Af (BF ..) Ϯ
 have q:ϡ (BU V (w+1) s y):=by
  subst C;have:=C5 (ϊ w (Φ p x) 32) s y 38;rw[D0]at this;exact this
 clear C
 go_cut [5] (λpt wc=> ∃(B:Nat) (c d:BX),pt= .pointer (ϋ B)/\w.heap.size<=B/\ϡ (boxC wc B p x s ⟨c,d⟩ (vS none 0 0))/\ϡ (boxP wc w p x)/\ϡ (OB wc w c s.L/\OB wc w d s.R/\Adn c d)/\Ϣ w wc)
 case first=>
  refine gr.CZ 6 rfl Ϧ (S:=λw'=>boxP w' w p x/\BU w' (w+1) s y) ⟨r.o,q.o⟩ (λm=>?_);refine gr.Qz (v:=.agg (Φ p x)) 0 (some 6) m ?_ (hy:=by intro w' G;obtain⟨⟨v0,v1,v2,v3,v4,v5,v6,v7,v8,v9,ad,ae,af⟩, -⟩:=G;go_simp);refine gr.Qz (v:=.agg (Ψ s y)) 1 (some 7) m ?_ (hy:=by intro w' G;obtain⟨-,⟨u0,u1,u2,u3,u4,u5,u6,u7,u8⟩⟩:=G;go_simp);refine fR (rs:=[2,4]) Ϧ ϥ ?_;refine dI rfl (λK f=>?_) (dI rfl (λK f=>?_) fS)
  ·go_simp;go_at_call 213;refine(F.o _ n.drew).mono ?_;rintro e wc ⟨⟨c,d,rfl,J,M,N⟩,A⟩;rw[AU];go_wp2_with fail;have hy:Ϣ V wc:=bR.drew.trans A;refine f.out _ _ ⟨Af r.o hy,Ay q.o hy⟩ (λm=>?_);clear f K
   try simp only[Act.put,sI,sZ,sSz]
   refine gr.Qz (v:=.agg (θ p x (ν s c d [ώ]))) 3 (some 9) m ?_ (hy:=λw' _=>LJ 267 #[(0,.tmp 6),(1,.tmp 8)] rfl _ Ϧ w');refine rD 4 λK f=>?_;go_simp;have I:=hy.alloc hy.size;refine f.out _ _ ⟨Af r.o (I _),Ay q.o (I _)⟩ (λm=>?_);clear f K
   try simp only[Act.put,sI,sZ,sSz]
   refine rD 5 λK f=>?_;refine Ky rfl 267 (.tmp 5) (.tmp 9) rfl wc.heap.size 0 (θ p x (ν s c d [ώ])) rfl rfl (Su _ _ _ _ _ _ _ _ _ _ _ _ _ _ _ _ _ _ _ _ _ _ _ _ _) Ll Ϭ ?_;have u:=below_setCells hy.size (η p x (ν s c d [ώ])) 0 _ (I (.cells #[Ϗ,Ϗ,Ϗ,Ϗ,Ϗ,Ϗ,ώ,ώ,ώ,ώ,ϑ,ώ,ώ,Ϗ,ώ,ώ,Ϗ,ώ,ώ,Ϗ,Ϗ,Ϗ,ώ] 267));refine f.out _ _ ⟨Af r.o u,Ay q.o u⟩ (λm=>?_);refine GT Ϧ ?_ _;go_wp2;go_meet;exact⟨wc.heap.size,c,d,rfl,by have:=n.size;have:=hy.size;omega,Uy (Su _ _ _ _ _ _ _ _ _ _ _ _ _ _ _ _ _ _ _ _ _ _ _ _ _) p x s ⟨c,d⟩ _,m.1,⟨BG Sw _ _ _ ((CL J n.size).below Ϯ) ⟨_,_,DE wc _⟩,BG Sw _ _ _ ((CL M n.size).below Ϯ) ⟨_,_,DE wc _⟩,N⟩,bT n u⟩
  ·go_simp;have z:Ϣ V (ϊ (V.drew) #[Ϗ,Ϗ,Ϗ,Ϗ,Ϗ,Ϗ,ώ,ώ,ώ,ώ,ϑ,ώ,ώ,Ϗ,ώ,ώ,Ϗ,ώ,ώ,Ϗ,Ϗ,Ϗ,ώ] 267):=bR.drew.alloc nR _;refine f.out _ _ ⟨Af r.o z,Ay q.o z⟩ (λm=>?_);clear f K
   try simp only[Act.put,sI,sZ,sSz]
   refine rD 2 λK f=>?_;go_simp;go_at_call 213;refine(F.o _ (bT n z)).mono ?_;rintro e wc ⟨⟨c,d,rfl,J,M,N⟩,A⟩;rw[AU];go_wp2_with fail;have hy:Ϣ V wc:=bT z A;refine f.out _ _ ⟨Af r.o hy,Ay q.o hy⟩ (λm=>?_);clear f K
   try simp only[Act.put,sI,sZ,sSz]
   refine gr.Qz (v:=.agg (θ p x (ν s c d [ώ]))) 3 (some 9) m ?_ (hy:=λw' _=>LJ 267 #[(0,.tmp 6),(1,.tmp 8)] rfl _ Ϧ w');refine rD 5 λK f=>?_;have U:wc.there V.heap.size 0 23:=Ci (Su V.drew 267 (vI 0) (vI 0) (vI 0) (vI 0) (vI 0) (vI 0) (vS none 0 0) (vS none 0 0) (vS none 0 0) (vS none 0 0) (.bool false) (vS none 0 0) (vS none 0 0) (vI 0) (vS none 0 0) (vS none 0 0) (vI 0) (vS none 0 0) (vS none 0 0) (vI 0) (vI 0) (vI 0) (vS none 0 0)) A;refine Ky rfl 267 (.tmp 5) (.tmp 9) rfl V.heap.size 0 (θ p x (ν s c d [ώ])) rfl rfl U Ll Ϭ ?_;have u:=below_setCells (HU V.heap.size) (η p x (ν s c d [ώ])) 0 _ hy;refine f.out _ _ ⟨Af r.o u,Ay q.o u⟩ (λm=>?_);refine GT Ϧ ?_ _;have Z:Am wc V 267:=Ak ⟨_,_,DE V.drew _⟩ A;go_wp2;go_meet;exact⟨V.heap.size,c,d,rfl,n.size,Uy U p x s ⟨c,d⟩ _,m.1,⟨BG Sw _ _ _ (CL J (B0 n.size z.size)) Z,BG Sw _ _ _ (CL M (B0 n.size z.size)) Z,N⟩,bT n u⟩
 case rest=>
  obtain⟨B,c,d,rfl,hB,HC,ab,E,H⟩:=hcut;rename World=>W;have k0:=ab.o.1;have ac:ϡ (W.rangeAt B 0 (η p x (ν s c d [ώ]))):=Xa HC.o;have HX:ϡ (∀T,JSt w (ϊ W (θ p x (ν s c d [ώ])) T) W.heap.size T p x s ⟨c,d⟩ (vS none 0 0) []):=λT=>by
   have D:Ϣ W (ϊ W (θ p x (ν s c d [ώ])) T):=Ϯ;have R:=AcQ W T p x s ⟨c,d⟩ (vS none 0 0) rfl;exact⟨R.1,R.2,H.size,E.o.1.below D,E.o.2.1.below D,E.o.2.2,CG.start (B0 H.size D.size),bT H D⟩
  have h1:=aa.o;have e1:(p.kind==1)=true:=by simpa using h1
  have eP:ϡ (kindP p.kind=268):=by show _=_;unfold kindP;rw[AE h1]
  have eT:ϡ (kindT p.kind=270):=by show _=_;unfold kindT;rw[AE h1]
  clear h1;go_wp2_with (first
   |((with_reducible refine PZ ?_ (.tmp 5) ?_ B ?_ (θ p x (ν s c d [ώ])) ?_ ?_ ?_);exact rfl;exact rfl;exact rfl;exact rfl;exact ac.o)
   |((with_reducible refine Sv ?_ 270 #[(0,.tmp 14)] ?_ (θ p x (ν s c d [ώ])) ?_ ?_);exact rfl;exact rfl;exact Ϧ))
  go_ret;exact⟨W.heap.size,⟨c,d⟩,by rw[eP.o];rfl,by rw[eT.o];exact HX.o _⟩
end jn
