import Derived.Test.YtfkihidbnfkbaaaGreatDoorPv26
import Derived.Test.YtfkihidbnfkbaaaGreatDoorPv22
set_option linter.all false
set_option maxHeartbeats 8000000
set_option maxRecDepth 100000
open Go.ChangeShapes Go.WideShapes Go.ChangeAt Go.RowKit Go.Shelf Go.Maps List
open Inhabited renaming default->ϰ
namespace Go.Proofs.YtfkihidbnfkbaaaGreatDoor
open Go.Proofs.Tryz
namespace bf
open vl
theorem YS{w:Ϙ}{base:Nat}{e:TypeId}{size n cap g:Nat}{d:List Value}(h:w.ownsRow base e size (vS (τ g) n cap) n d)(j:Nat):Ξ w g j:=by
 rcases h.2 with⟨e,_⟩|⟨o,f,m,c,a⟩
 ·cases e
 ·cases c
  simp[World.frozen?,a]
theorem W0{W:Ϙ}{b o:Nat}{v:Value}(h:Δ W b o v):W.setCell ⟨b,o,none⟩ v=W:=by
 unfold World.cell? at h;unfold World.setCell;dsimp only at h⊢
 cases hb:W.heap[b]? with
 |none=>rw[hb]at h;cases h
 |some x=>
  rw[hb]at h
  cases x with
  |cells c t f=>
   simp only[Option.isSome_none,Bool.false_eq_true,if_false]at h;have n:W.heap.modify b (λx=>match x with
    | .cells c elem frozen=>.cells (if (none:Option Nat).isSome then c else c.setIfInBounds o v) elem frozen
    |o=>o)=W.heap:=by
    refine Array.ext Ϟ (λi A d=>?_);rw[Array.getElem_modify];by_cases e:b=i
    ·subst e;have r:W.heap[b]= .cells c t f:=by
      have:=Array.getElem?_eq_getElem d;rw[hb]at this;injection this with this
      exact this.symm
     rw[if_pos rfl,r];dsimp only;have m:c.setIfInBounds o v=c:=by
      obtain⟨B,q⟩:=Array.getElem?_eq_some_iff.1 h;refine Array.ext Ϟ (λj C u=>?_);rw[Array.getElem_setIfInBounds u];by_cases a:o=j
      ·subst a;simp[q]
      ·simp[a]
     simp[m]
    ·rw[if_neg e]
   exact congrArg (λz:Array Obj=>{W with heap:=z}) n
  |_=>cases h
end bf
namespace jn
open vl bf
variable {l : List Ent} {b base g i j k : Nat} {ls : List (List Ent)} {t : Value} {hs : List Hdr} {V X Y w w0 : Ϙ} {x : BX} {p : pl.Pln} {s : Jn} {y : JX} {T : TypeId} {L : List CO}
def doneL(f:Ent->Ent)(l:List Ent)(k:Nat):List Ent:=(l.take k).map f++l.drop k
def Cr(f:Ent->Ent)(ls:List (List Ent))(k:Nat):List (List Ent):=(ls.take k).map (λl=>l.map f)++ls.drop k
def doneD(f:Ent->Ent)(ls:List (List Ent))(i j:Nat):List (List Ent):=(Cr f ls i).set i (doneL f (ls.getD i []) j)
theorem JP(f:Ent->Ent)(l:List Ent)(k:Nat):(doneL f l k).length=l.length:=by
 unfold doneL;rw[lAp,lMp,length_take,length_drop];omega
theorem LR(f:Ent->Ent)(l:List (List Ent))(k:Nat):(Cr f l k).length=l.length:=by
 unfold Cr;rw[lAp,lMp,length_take,length_drop];omega
theorem LU{f:Ent->Ent}(h:k<l.length):(doneL f l k).getD k ϰ=l.getD k ϰ:=by
 unfold doneL;rw[Dv (d:=ϰ) h,gDe,getElem?_append_right (by rw[lMp,length_take];omega),lMp,length_take,show k - min k l.length=0 by omega];rfl
theorem Nx{f:Ent->Ent}{l:List (List Ent)}(h:k<l.length):(Cr f l k).getD k []=l.getD k []:=by
 unfold Cr;rw[Dv (d:=[]) h,gDe,getElem?_append_right (by rw[lMp,length_take];omega),lMp,length_take,show k - min k l.length=0 by omega];rfl
theorem R6{f:Ent->Ent}(h:k<l.length):(doneL f l k).set k (f (l.getD k ϰ))=doneL f l (k+1):=by
 unfold doneL;rw[Dv (d:=ϰ) h,set_mid f l k _ _ _ Ϝ,PG f l k ϰ h,append_assoc];rfl
theorem R7(f:Ent->Ent)(l:List Ent):doneL f l 0=l:=by unfold doneL;rfl
theorem Uy(f:Ent->Ent)(l:List Ent):doneL f l l.length=l.map f:=by unfold doneL;rw[take_length,drop_length,append_nil]
theorem PK{f:Ent->Ent}{l:List (List Ent)}(h:k<l.length):(Cr f l k).set k ((l.getD k []).map f)=Cr f l (k+1):=by
 unfold Cr;rw[Dv (d:=[]) h,set_mid (λl=>l.map f) l k _ _ _ Ϝ,PG (λl=>l.map f) l k [] h,append_assoc];rfl
theorem PL(f:Ent->Ent)(l:List (List Ent)):Cr f l 0=l:=by unfold Cr;rfl
theorem R8(a:List Int)(b:Buf):Cr (metE a) (partsB b) (partsB b).length=partsB (C0 a b):=by
 unfold Cr;rw[take_length,drop_length,append_nil];rfl
theorem LV{f:Ent->Ent}(h:i<ls.length):(doneD f ls i j).getD i []=doneL f (ls.getD i []) j:=Di (by rw[LR];exact h)
theorem R9{f:Ent->Ent}(h:i<ls.length):doneD f ls i 0=Cr f ls i:=by
 unfold doneD;rw[R7,<-Nx (f:=f) h];exact set_self (by rw[LR];exact h)
theorem Uz{f:Ent->Ent}(h:i<ls.length):doneD f ls i (ls.getD i []).length=Cr f ls (i+1):=by
 unfold doneD;rw[Uy,PK h]
def PM(hs:List Hdr):Nat->Obj->Prop:=λg o=>(∀c f,o≠ .cells c 166 f)\/∀h∈hs,(hdV h).ownBlock≠some g
theorem FY{W:Ϙ}{t:TypeId}(h:Ae W b t)(c:t≠166):names (PM hs) W b:=λo a=>.inl (Rz h c o a)
structure NSt(w0 V X:World)(base:Nat)(hs:List Hdr)(ls:List (List Ent)):Prop where
 op:∃ess,OP X base hs ess ls
 ko:Ap (PM hs) V X
 bl:ϛ w0 X
theorem NSt.row{d:Option Nat}{B:Nat}(h:NSt w0 V X base hs ls)(m:w0.heap.size<=B)(a:X.grownBy Y d)(c:∀r,d=some r->B<=r/\∃x:Obj,X.heap[r]? =some x/\x.isCells=false):NSt w0 V Y base hs ls:=by
 obtain⟨f,o⟩:=h.op;exact⟨⟨f,o.same a.size (λg n=>by rcases n with k|k;exact ty_row a (λr e=>(c r e).2) k;exact ty_row a (λr e=>(c r e).2) k)⟩,h.ko.grown a (λr e=>(c r e).2),C6 h.bl nR m a c⟩
theorem NSt.below(h:NSt w0 V X base hs ls)(a:ϛ X Y):NSt w0 V Y base hs ls:=by
 obtain⟨c,d⟩:=h.op;exact⟨⟨c,d.below a⟩,h.ko.trans (LM a),h.bl.trans (a.mono h.bl.size)⟩
theorem NSt.rec_put{D:Nat}{q:Obj}(h:NSt w0 V X base hs ls)(a:X.heap[D]? =some q)(m:q.isCells=false)(u:w0.heap.size<=D)(o:Obj):NSt w0 V (X.putObj D o) base hs ls:=by
 obtain⟨r,v⟩:=h.op;have n:∀g t,Ae X g t->(X.putObj D o).heap[g]? =X.heap[g]? :=λg t d=>World.putObj_heap_other (λe=>by
  obtain⟨c,f,k⟩:=d;rw[e,a]at k;injection k with k
  rw[k]at m
  cases m)
 exact⟨⟨r,v.same Ϟ (λg d=>d.elim (n g _) (n g _))⟩,h.ko.trans (Ap.put X D q o a m),Ch h.bl u a o⟩
theorem NSt.read{f:Ent->Ent}(h:NSt w0 V X base hs (doneD f ls i j))(v:i<hs.length)(G:ls.length=hs.length)(z:j<(ls.getD i []).length):
 ∃(g:Nat) (e:EM),hs.getD i hd0=(some ⟨g,0,none⟩,(ls.getD i []).length,(hs.getD i hd0).2.2)/\Δ X g (j * 5+2) (vI e.seq)/\Δ X g (j * 5+4) (.bool e.met)/\Ξ X g (j * 5+4)/\((ls.getD i []).getD j ϰ).seq=e.seq/\((ls.getD i []).getD j ϰ).met=e.met:=by
 obtain⟨c,B⟩:=h.op;have a:=B.oe i v;rw[LV Ϝ]at a;have A:(doneL f (ls.getD i []) j).length=(ls.getD i []).length:=JP _ _ _;obtain⟨g,m⟩:=LK a Ϝ;have n:(c.getD i []).length=(ls.getD i []).length:=by rw[a.len,A]
 rw[n]at m;have C:hdV (hs.getD i hd0)=vS (τ g) (c.getD i []).length (hs.getD i hd0).2.2:=by rw[m,n];rfl
 rw[C]at a;obtain⟨b,o,u,D,E,q,F,r⟩:=a.at j Ϝ
 cases u
 have d:=a.ers.2 j Ϝ;rw[LU z]at d;rw[Nat.zero_add]at D E q F r;exact⟨g,(c.getD i []).getD j ϰ,m,q,r,YS a.own _,d.seq.symm,d.met.symm⟩
theorem NSt.put{a:List Int}{v:Bool}(h:NSt w0 V X base hs (doneD (metE a) ls i j))(hw:w0.heap.size<=base)(A:i<hs.length)(Z:ls.length=hs.length)(m:j<(ls.getD i []).length)(z:(hs.getD i hd0).1=some ⟨g,0,none⟩)
 (P:Δ X g (j * 5+4) (.bool ((ls.getD i []).getD j ϰ).met)) (I:v=(((ls.getD i []).getD j ϰ).met||decide (((ls.getD i []).getD j ϰ).seq∈a))):
 NSt w0 V (φ X g (j * 5+4) (.bool v)) base hs (doneD (metE a) ls i (j+1))/\Ap (PM hs) X (φ X g (j * 5+4) (.bool v)):=by
 have G:i<ls.length:=Ϝ;have M:(doneD (metE a) ls i j).set i (doneL (metE a) (ls.getD i []) (j+1))=doneD (metE a) ls i (j+1):=by unfold doneD;rw[List.set_set]
 have D:=R6 (f:=metE a) m;by_cases q:((ls.getD i []).getD j ϰ).seq∈a
 ·have u:v=true:=by rw[I,decide_eq_true q,Bool.or_true]
  rw[u];have r:metE a ((ls.getD i []).getD j ϰ)=((ls.getD i []).getD j ϰ).meet:=by unfold metE;rw[if_pos q];rfl
  obtain⟨R,J⟩:=h.op;have Q:j<((doneD (metE a) ls i j).getD i []).length:=by rw[LV G,JP];exact m
  have C:=J.oe i A;have B:(hdV (hs.getD i hd0)).ownBlock=some g:=by
   obtain⟨S,F⟩:=LK C Ϝ;rw[F]at z
   cases z
   rw[F];rfl
  have W:=(A5 C.own B).1;have H:Ap (PM hs) X (φ X g (j * 5+4) (.bool true)):=λb o E U d=>by
   refine(heap_setCell_other _ _ _ _ (λe=>?_)).trans E;dsimp only at e;subst e;rcases d with d|d
   ·obtain⟨c,f,n⟩:=Ay C.own B;rw[E]at n;injection n with n
    exact d c f n
   ·exact d _ (AO A) B
  have K:=Aar J A Q z;rw[LV G,LU m,<-r,D,M]at K;exact⟨⟨⟨_,K⟩,h.ko.trans H,h.bl.setCell Ϣ _⟩,H⟩
 ·have u:v=((ls.getD i []).getD j ϰ).met:=by rw[I,decide_eq_false q,Bool.or_false]
  rw[u,W0 P];have r:metE a ((ls.getD i []).getD j ϰ)=(ls.getD i []).getD j ϰ:=by unfold metE;rw[if_neg q]
  have N:doneL (metE a) (ls.getD i []) (j+1)=doneL (metE a) (ls.getD i []) j:=by
   rw[<-D,r,<-LU (f:=metE a) m];exact set_self (by rw[JP];exact m)
  have O:doneD (metE a) ls i (j+1)=doneD (metE a) ls i j:=by unfold doneD;rw[N]
  rw[O];exact⟨h,Ap.refl _ _⟩
theorem NSt.hlen{f:Ent->Ent}(h:NSt w0 V X base hs (Cr f ls i))(d:i<hs.length)(r:ls.length=hs.length):(hs.getD i hd0).2.1=(ls.getD i []).length:=by
 obtain⟨q,m⟩:=h.op;have a:=m.oe i d;rw[Nx Ϝ]at a;obtain⟨n,o,e⟩:=a.form;unfold hdV at e;injection e with _ c _
 rw[c,a.len]
theorem U0{b:Buf}{f:Ent->Ent}(h:OB V base x b)(a:ϛ w0 V):NSt w0 V V base ((x.m::x.rs).map (·.1)) (Cr f (partsB b) 0):=
 ⟨⟨_,by rw[PL];exact AaP h⟩,Ap.refl _ _,a⟩
theorem SX{d:Buf}{a:List (List EM)}(c:OP X base ((x.m::x.rs).map (·.1)) a (partsB d))(v:X.ownsRow base 33 1 (vS x.ra x.rs.length x.rc) x.rs.length (x.rs.map λp=>hdV p.1)):∃e:BX,e.ra=x.ra/\e.rc=x.rc/\e.m.1=x.m.1/\e.rs.map (·.1)=x.rs.map (·.1)/\OB X base e d:=by
 have z:a.length=x.rs.length+1:=by rw[c.l1];simp
 have B:(x.rs.map (·.1)).length=a.tail.length:=by rw[lMp,length_tail,z];rfl
 have f:((x.rs.map (·.1)).zip a.tail).length=x.rs.length:=by rw[length_zip,<-B,lMp,Nat.min_self]
 have n:((x.rs.map (·.1)).zip a.tail).map (·.1)=x.rs.map (·.1):=map_fst_zip Ϝ;have A:d.runs.length=x.rs.length:=by have:=c.l2;simp[partsB]at this;exact this
 have m:((x.rs.map (·.1)).zip a.tail).map (λp=>hdV p.1)=x.rs.map λp=>hdV p.1:=by
  have:((x.rs.map (·.1)).zip a.tail).map (λp=>hdV p.1)=(((x.rs.map (·.1)).zip a.tail).map (·.1)).map hdV:=by rw[map_map];rfl
  rw[this,n,map_map];rfl
 refine⟨⟨x.ra,x.rc,(x.m.1,a.getD 0 []),(x.rs.map (·.1)).zip a.tail⟩,rfl,rfl,rfl,n,?_⟩;refine⟨c.low,c.oe 0 Ϟ,?_,?_,λi C=>?_,?_⟩
 ·dsimp only;rw[f,m];exact v
 ·dsimp only;rw[f,A]
 ·dsimp only;have h:i<x.rs.length:=Ϝ;have o:=c.oe (i+1) ϡ;have q:((x.m::x.rs).map (·.1)).getD (i+1) hd0=(((x.rs.map (·.1)).zip a.tail).getD i ϰ).1:=by
   rw[map_cons,getD_cons_succ,gDe,gDe,gEe (by rw[lMp];exact h),gEe (by rw[f];exact h)];simp
  have r:a.getD (i+1) []=(((x.rs.map (·.1)).zip a.tail).getD i ϰ).2:=by
   rw[gDe,gDe,gEe Ϝ,gEe (by rw[f];exact h)];simp
  have u:(partsB d).getD (i+1) []=d.runs.getD i ϰ:=by
   unfold partsB;rw[getD_cons_succ];rfl
  rw[q,r,u]at o;exact o
 ·dsimp only;rw[map_cons,m];have:=c.two;rw[map_map,map_cons]at this;exact this
theorem PN{x':BX}(c:x'.m.1=x.m.1)(d:x'.rs.map (·.1)=x.rs.map (·.1)){p:Part}(a:p∈x'.m::x'.rs):∃q∈x.m::x.rs,q.1=p.1:=by
 rcases mem_cons.1 a with rfl|a
 ·exact⟨x.m,mem_cons_self ..,c.symm⟩
 ·have:p.1∈x.rs.map (·.1):=by rw[<-d];exact mem_map.2 ⟨p,a,rfl⟩
  obtain⟨q,f,e⟩:=mem_map.1 this;exact⟨q,mem_cons_of_mem _ f,e⟩
theorem SY{d:BX}{b:Buf}(h:OB V base x b)(hs:V.heap.size<=X.heap.size)(o:Ap (PM ((d.m::d.rs).map (·.1))) V X)(C:∀p∈x.m::x.rs,∀q∈d.m::d.rs,apB (hdV p.1) (hdV q.1)):OB X base x b:=by
 have u:∀g t,Ae V g t->t≠166->X.heap[g]? =V.heap[g]? :=λg t a m=>by
  obtain⟨c,f,e⟩:=a;rw[e];exact o g _ e rfl (.inl (λI J A=>by injection A with _ B _;exact m B))
 have r:∀{p:Part} {l:List Ent},p∈x.m::x.rs->OE V base (hdV p.1) p.2 l->OE X base (hdV p.1) p.2 l:=λ{p l} E D=>D.same hs (λg v t a m=>by
  rcases m with⟨G,rfl⟩|rfl
  ·rw[a];refine o g _ a rfl (.inr (λq F e=>?_));obtain⟨z,H,rfl⟩:=mem_map.1 F;exact C p E z H g G e
  ·exact u g _ ⟨v,_,a⟩ ϝ)
 refine⟨Nat.le_trans h.low hs,r (mem_cons_self ..) h.mem,As h.hds (λg a=>u g _ (Ay h.hds a) ϝ),h.rlen,λi n=>r (mem_cons_of_mem _ ?_) (h.runs i n),h.two⟩;exact AO (by rw[h.rlen];exact n)
theorem SZ{U:Ϙ}{x:pl.PA}{s':Jn}{a:JX}(h:boxC U b p x s y t)(c:s'.L.lim=s.L.lim)(d:s'.R.lim=s.R.lim)(e:s'.lm=s.lm)(f:s'.rm=s.rm)(m:s'.seq=s.seq)
 (n:a.l.m.1=y.l.m.1) (o:a.l.ra=y.l.ra) (q:a.l.rc=y.l.rc) (r:a.l.rs.length=y.l.rs.length) (u:a.r.m.1=y.r.m.1) (v:a.r.ra=y.r.ra) (z:a.r.rc=y.r.rc) (A:a.r.rs.length=y.r.rs.length):boxC U b p x s' a t:=by
 refine⟨h.plan,?_,h.told,h.room⟩;have:=h.join;unfold jnC at *;rw[c,d,e,f,m,n,o,q,r,u,v,z,A];exact this
def IU(w w':World):Prop:=Below 0 w w'/\∀g e,Ae w g e->e≠166->w'.heap[g]? =w.heap[g]?
theorem IU.cell{e:TypeId}{c:Ϙ}{o:Nat}{v:Value}(h:IU w c)(m:Ae w g e)(d:e≠166)(f:Δ w g o v):Δ c g o v:=(cOb (w:=w) (a:=⟨g,o,none⟩) (h.2 g e m d)).trans f
theorem W6{x:pl.PA}(h:JSt w0 w b T p x s y t L)(d:ϛ w V)(a:NSt w0 V X base hs ls)(v:V.heap.size<=X.heap.size):IU w X:=by
 refine⟨⟨a.bl.os.trans h.bl.os.symm,a.bl.tape.trans h.bl.tape.symm,a.bl.output.trans h.bl.output.symm,Nat.le_trans d.size v,λk u=>absurd u (Nat.not_lt_zero k)⟩,λg e m r=>?_⟩;have q:=d.block g (A6 m);obtain⟨c,f,k⟩:=m;rw[k];exact a.ko g _ (q.trans k) rfl (.inl (λz A n=>by injection n with _ o _;exact r o))
theorem JSt.met{x:pl.PA}(h:JSt w0 V b T p x s y t L)(P:calmC T)(side:Int)(N:List Int)(C:NSt w0 V X w0.heap.size (((Br y side).m::(Br y side).rs).map (·.1)) (partsB (C0 N (Aj s side))))(J:V.heap.size<=X.heap.size):
 ∃Z,JSt w0 X b T p x (A7 s side (C0 N (Aj s side))) Z t L:=by
 have z:=C.ko;have A:∀g e,Ae V g e->e≠166->X.heap[g]? =V.heap[g]? :=λg e a Q=>by
  obtain⟨c,f,k⟩:=a;rw[k];exact z g _ k rfl (.inl (λc' f' u=>by injection u with _ O _;exact Q O))
 obtain⟨aa,n⟩:=C.op;have H:X.heap[b]? =V.heap[b]? :=A b T h.ty P.t.e;have K:=Hw h.box H;have M:=CG.other h.cg J (λg a=>a.elim (λk=>A g _ k ϝ) (λk=>A g _ k ϝ));by_cases e:side=2
 ·have G:Br y side=y.r:=by unfold Br;rw[if_pos e]
  have v:Aj s side=s.R:=by unfold Aj;rw[if_pos e]
  rw[G]at n z;rw[v]at n;rw[v];obtain⟨B,D,E,o,r,F⟩:=SX n (As h.r.hds (λg a=>A g _ (Ay h.r.hds a) ϝ));have I:B.rs.length=y.r.rs.length:=by have:=congrArg List.length r;simpa using this
  unfold A7;rw[if_pos e];refine⟨⟨y.l,B⟩,SZ K rfl rfl rfl rfl rfl rfl rfl rfl rfl o D E I,Ao h.ty H,h.up,SY h.l J z (λp d q m=>h.ap p d q m),F,λp d q m=>?_,M,C.bl⟩;obtain⟨W,S,u⟩:=PN o r m;rw[<-u];exact h.ap p d W S
 ·have G:Br y side=y.l:=by unfold Br;rw[if_neg e]
  have v:Aj s side=s.L:=by unfold Aj;rw[if_neg e]
  rw[G]at n z;rw[v]at n;rw[v];obtain⟨B,D,E,o,r,F⟩:=SX n (As h.l.hds (λg a=>A g _ (Ay h.l.hds a) ϝ));have I:B.rs.length=y.l.rs.length:=by have:=congrArg List.length r;simpa using this
  unfold A7;rw[if_neg e];refine⟨⟨B,y.r⟩,SZ K rfl rfl rfl rfl rfl o D E I rfl rfl rfl rfl,Ao h.ty H,h.up,F,SY h.r J z (λp d q m=>LJ (h.ap q m p d)),λp d q m=>?_,M,C.bl⟩;obtain⟨U,R,u⟩:=PN o r d;rw[<-u];exact h.ap U R q m
end jn
namespace jn
open vl bf
attribute [local go_sem] Oper.semAt_some
theorem U1{l:List Ent}{k:Nat}(h:k<l.length):(l.take (k+1)).map (·.seq)=(l.take k).map (·.seq)++[(l.getD k ϰ).seq]:=Jf h
theorem U2(l:List Int)(s:Int):decide ((0:Int)<((l.count s:Nat):Int))=decide (s∈l):=by
 by_cases h:s∈l
 ·have:=count_pos_iff.2 h;rw[decide_eq_true h,decide_eq_true Ϝ]
 ·have:l.count s=0:=count_eq_zero.2 h;rw[decide_eq_false h,this];rfl
theorem LW(b:Nat)(T:TypeId)(p:pl.Pln)(x:pl.PA)(s:Jn)(y:JX)(t:Value)(L:List CO)(side:Int)(hh:Hdr)(O:List EM)(l:List Ent)(w0 w:Ϙ)(h:JSt w0 w b T p x s y t L)(hT:calmC T)(ok:okB (Aj s side))(hs:∀z∈Ab (Aj s side),pl.i64 z.seq)(ab:hh.2.1=l.length)(bh:C5 w hh.1 O)(b9:O.length=l.length)(cg:∀k,k<l.length->(O.getD k ϰ).seq=(l.getD k ϰ).seq)(hl:l.length<=1000000)(hq:∀z∈l,pl.i64 z.seq):
 η 358 #[μ b,vI side,hdV hh] w λe m=>e= .returned (.tuple #[])/\∃y',JSt w0 m b T p x (A7 s side (C0 (l.map (·.seq)) (Aj s side))) y' t L/\IU w m:=by
 have KB:Ϛ (∀w1,CT 252 #[.pointer (some ⟨b,13,none⟩),vI side] w1 λe m=>e= .returned (.pointer (some ⟨b,13+Au side,none⟩))/\m=w1):=λw1=>Fp b 13 side w1;have HJ:=hqz h;have b2:Ϛ (okB (Aj s side)/\∀z∈Ab (Aj s side),pl.i64 z.seq):=⟨ok,hs⟩;have HQ:Ϛ (∀k,k<l.length->pl.i64 (l.getD k ϰ).seq):=λk hk=>hq _ (AO hk);obtain⟨Q,I,h3⟩:=hh;dsimp only at ab bh;have HE:Ϛ (C5 w Q O/\O.length=l.length/\∀k,k<l.length->(O.getD k ϰ).seq=(l.getD k ϰ).seq):=⟨bh,b9,cg⟩;obtain⟨ln,bq⟩:=nM l.length;have b1:=hqz bq;rw[bq]at hl ab;subst ab;clear h ok hs bh b9 cg hq bq;unfold hdV;dsimp only;have dm:=@run_makeMap Tryz.prog;refine(callsIn_wide (n:=0)).1 ?_;refine callsIn_of_wp_marks func358 rfl trivial ?_ rfl;simp only[ntmps358,size_toArray,length_cons,length_nil,Nat.reduceAdd,Nat.reduceSub,Array.replicate_succ,Array.replicate_zero,push_toArray,append_toArray,nil_append,cons_append]
 gi_wp2
 gi_loopw [14] (λi wr=> ∃k:Nat,k<=I/\i=vI k/\Dz wr w.heap.size k ((l.take k).map (·.seq))/\Δ wr (w+1) 0 (.map (some w.heap.size))/\Ϛ (Ae wr (w+1) 298)/\ϛ w wr) (λi _=>I - (intOf i).toNat)
 case atStart=>exact⟨0,Nat.zero_le _,rfl,BW (PQ w) ϧ,Ϡ,(by have:=World.alloc_heap_new (w.alloc (.map #[] 0)) (.cells #[.map (some w.heap.size)] 298);rw[World.size_alloc]at this;exact⟨_,_,this⟩),ϧ.alloc Ϟ _⟩
 case round=>
  obtain⟨k,hk,rfl,ai,aq,ba,H⟩:=hrel;by_cases db:k<I
  ·have a0:k<l.length:=by rw[b1.o];exact db
   obtain⟨gb,dr,ea,x1,x2,x3,x4,x5⟩:=HE.o.1 k (by rw[HE.o.2.1];exact a0);subst ea;have q1:=cLz H x1;have q2:=cLz H x2;have q3:=cLz H x3;have q4:=cLz H x4;have q5:=cLz H x5;clear x1 x2 x3 x4 x5;have bv:(O.getD k ϰ).seq=(l.getD k ϰ).seq:=HE.o.2.2 k a0;have ar:=HQ.o k a0;rw[<-bv]at ar;have bd:Ϛ ((l.take (k+1)).map (·.seq)=(l.take k).map (·.seq)++[(O.getD k ϰ).seq]):=by
    show _=_;rw[bv];exact U1 a0
   obtain⟨⟨ek,et,E,⟨r1,r2,r3⟩,em⟩,hz⟩:∃z,O.getD k ϰ=z:=⟨_,rfl⟩;rw[hz]at q1 q2 q3 q4 q5 ar bd;unfold hdV at q4;dsimp only at q1 q2 q3 q4 q5 ar bd;have i1:(0:Int)<=(k:Int):=Ϝ;have i2:(k:Int)<(I:Int):=Ϝ;have bi:=BW ai ((Below.refl wr.heap.size wr).alloc nR (.cells (ζ ek et E r1 r2 r3 em) 166));have da:=DY bi ar;have b8:=count_le_length (a:=E) (l:=(l.take k).map (·.seq));rw[lMp,length_take]at b8;obtain⟨X1,de,q0,J⟩:=Ma bi ar Ϧ (by rw[lMp,length_take];omega);have dg:Ϛ (∃o:Obj,wr.heap[w.heap.size]? =some o/\o.isCells=false):=IW ai;have cy:Ϛ (Dz X1 w.heap.size (k+1) ((l.take (k+1)).map (·.seq))):=by
    show Dz _ _ _ _;rw[bd.o];exact q0
   obtain⟨c,hc⟩:=nM (((l.take k).map (·.seq)).count E);rw[hc]at da de b8;have dq:IntKind.i64.wrap ((c:Int)+1)=(c:Int)+1:=by rw[ch.Bt];omega
   have lw:w.heap.size+1<wr.heap.size:=bLt _ _ aq;have a1:Δ X1 (w+1) 0 (.map (some w.heap.size)):=(cOb (w:=wr) (a:=⟨w+1,0,none⟩) ((J.block (w.heap.size+1) (by rw[World.size_alloc];omega) (λe=>by injection e with e;omega)).trans (Below.heap_alloc _ _ _ lw))).trans aq;have cv:Ϛ (Ae X1 (w+1) 298):=Ao ba.o ((J.block (w.heap.size+1) (by rw[World.size_alloc];omega) (λe=>by injection e with e;omega)).trans (Below.heap_alloc _ _ _ lw));have cm:Ϛ (ϛ w X1):=⟨J.os.trans H.os,J.tape.trans H.tape,J.output.trans H.output,Nat.le_trans H.size (Nat.le_trans (Nat.le_of_lt (by rw[World.size_alloc];exact Nat.lt_succ_self _)) J.size),λg c5=>((J.block g (by rw[World.size_alloc];have:=H.size;omega) (λe=>by injection e with e;omega)).trans (Below.heap_alloc _ _ _ (by have:=H.size;omega))).trans (H.block g c5)⟩;clear hz ai bi q0 hc bv J
   gi_wp2
   exact⟨⟨k+1,Ϝ,by go_num,cy.o,a1,cv,cm.o⟩,by simp[intOf];omega⟩
  ·have cc:k=I:=Ϝ;have ca:(l.take k).map (·.seq)=l.map (·.seq):=by rw[cc,<-b1.o,take_length]
   rw[ca]at ai;have bw:=hqz ai;have az:¬((k:Int)<(I:Int)):=Ϝ;have ag:Ϛ (JSt w0 wr b T p x s y t L):=HJ.o.below H;obtain⟨ak,au,al⟩:=E8 ag.o.box.join side;have cf:OB wr w0 (Br y side) (Aj s side):=by
    unfold Br Aj;split
    ·exact ag.o.r
    ·exact ag.o.l
   have av:=hqz cf;have dl:w.heap.size+1<wr.heap.size:=bLt _ _ aq;obtain⟨kk,cb⟩:=nM (13+Au side);rw[cb]at KB ak au al;obtain⟨aj,cd⟩:=nM ((Aj s side).lim);rw[cd]at ak;obtain⟨ck,bg⟩:=nM (Br y side);rw[bg]at au al av;obtain⟨ad,ae,⟨⟨R,U,Z⟩,ml⟩,rs⟩:=ck;dsimp only at au al;obtain⟨n',bs⟩:=nM rs.length;have HN:=hqz bs;rw[bs]at al;have co:=hqz bg;clear ai cf bs cb cd bg cc ca hk;have lb:b<wr.heap.size:=ag.o.box.lt
   gi_wp2_with (refine⟨trivial,rfl,?_⟩;first
    |(gi_at_call 252;refine(callsIn_wide.2 (KB.o _)).mono ?_;rintro e m ⟨rfl,rfl⟩)
    |(gi_at_call 233;refine(callsIn_wide.2 (Ho _ _ _ rfl rfl rfl _)).mono ?_;rintro e m ⟨rfl,rfl⟩))
   have V1:Δ (ξ m (ν aj R U Z ad n' ae) 36) m 1 (vS R U Z):=Ϡ;have V2:Δ (ξ m (ν aj R U Z ad n' ae) 36) m 2 (vS ad n' ae):=Ϡ;have V8:ϛ m (ξ m (ν aj R U Z ad n' ae) 36):=ϧ;have T2:Ae (ξ m (ν aj R U Z ad n' ae) 36) m.heap.size 36:=⟨_,_,World.alloc_heap_new m _⟩;have VM:=cLz V8 aq;have TM:=Ad ba.o V8;generalize (m.alloc (.cells (ν aj R U Z ad n' ae) 36))=V at *;have a9:Ϛ (JSt w0 V b T p x s y t L):=ag.o.below V8;have cl:Ϛ (ϛ w V):=bT H V8;have a5:Ϛ (Dz V w.heap.size k (l.map (·.seq))):=BW bw.o V8;have bb:Ϛ (w.heap.size<V.heap.size/\w0.heap.size<=V.heap.size):=⟨Ta a5.o,a9.o.bl.size⟩;have bc:Ϛ (OB V w0 ⟨ad,ae,((R,U,Z),ml),rs⟩ (Aj s side)):=av.o.below V8;obtain⟨P,hP⟩:∃z:List Part,(((R,U,Z),ml)::rs)=z:=⟨_,rfl⟩;have cw:=hqz hP;obtain⟨F,ax⟩:∃z:List Hdr,P.map (·.1)=z:=⟨_,rfl⟩;have bx:=hqz ax;have bn:=Ih av.o.at V8 m.heap.size (PM F) V1 (by rw[HN.o];exact V2) (FY T2 ϝ) (λa h0 ha=>FY (Ay bc.o.hds (by dsimp only at ha⊢;rw[ha];rfl)) ϝ);obtain⟨A,ah⟩:=nM (partsB (Aj s side));have cx:=hqz ah;have am:Ϛ (A.length=P.length):=by show _=_;rw[<-ah,<-hP];have:=bc.o.rlen;dsimp only at this;simp[partsB,this]
   have c0:Ϛ (∀i,i<A.length->(A.getD i []).length<=χ):=λi G=>by
    have:=(b2.o.1.small).1 (A.getD i []) (by rw[ah];exact AO G);omega
   have c1:Ϛ (∀i j,i<A.length->j<(A.getD i []).length->pl.i64 ((A.getD i []).getD j ϰ).seq):=λi j G hj=>b2.o.2 _ (by unfold Ab;rw[ah];exact mem_flatten.2 ⟨A.getD i [],AO G,AO hj⟩);obtain⟨C,bu⟩:=nM (l.map (·.seq));have cz:=hqz bu;rw[bu]at a5;have c2:Ϛ (NSt w0 V V w0.heap.size F (Cr (metE C) A 0)):=by
    show NSt _ _ _ _ _ _;rw[<-ah,<-ax,<-hP];exact U0 bc.o a9.o.bl
   dsimp only at bn;rw[hP]at bn;have aw:F.length=P.length:=by rw[<-ax,lMp]
   clear ah hP ax bu V1 V2 T2 bw ag av aq ba KB ak au al;refine CM (gf:=268) (lb:=#[.pointer (some ⟨m,0,none⟩)]) rfl (enters_of func268 ϟ rfl) bn bR (λx hx=>by obtain⟨p,_,rfl⟩:=mem_map.1 hx;rfl) (λh k=>Ap.trans h k) (λW l o o' _ h ho=>Ap.put W l o o' h ho)
    (λi X=>NSt w0 V X w0.heap.size F (Cr (metE C) A i)/\Dz X w.heap.size k C) (λc X=>False)
    (λi X X' cj hs hg hr=>⟨hs.1.row (by have:=bb.o.2;omega) hg hr,JQ hs.2 hg (λe=>by have:=(hr _ e.symm).1;have:=bb.o.1;omega)⟩)
    (λc X X' cj hs hg hr=>hs)
    ⟨c2.o,a5.o⟩
    (λi a' X=>a'={tmps:=#[.pointer (some ⟨b,0,none⟩),vI side,vS Q I h3,undef,undef,undef,.pointer (some ⟨w+1,0,none⟩),undef,u8,hdV (P.getD i ϰ).1,undef,.map (some w.heap.size),vS Q I h3,vI I,vI k,.bool false,u16,u17,u18,u19,u20,u21,u22,u23,.pointer (some ⟨b,0,none⟩),.pointer (some ⟨b,0,none⟩),.pointer (some ⟨b,13,none⟩),vI side,.pointer (some ⟨b,kk,none⟩),.pointer (some ⟨b,kk,none⟩),.agg #[vI aj,vS R U Z,vS ad n' ae],.func (.func 268) #[] #[.pointer (some ⟨m,0,none⟩)],hdV (P.getD i ϰ).1,undef,undef,undef,undef,undef,undef,undef,undef,undef,undef,undef,undef,undef,undef,undef,undef,undef,undef,undef,undef,undef,undef,undef,undef,undef],defers:=[]})
    (λi a' u X X' cj hs hg hr=>hs) ?assign ?body ?done ?stop
   case assign=>
    intro l' k1 x1 X K hx G r;obtain⟨hk,a3⟩:=List.getElem?_eq_some_iff.1 hx;rw[lMp]at hk;rw[getElem_map]at a3;subst a3;have hd:P.getD k1 ϰ=P[k1]:=by rw[gDe,gEe hk];rfl
    have ap:=λW' Q I h3=>r _ W' Q I h3 rfl;rw[hd]at ap;clear r hd hx;obtain⟨⟨⟨z1,z2,z3⟩,zl⟩,hz⟩:∃z,P[k1]=z:=⟨_,rfl⟩;rw[hz]at ap⊢;unfold hdV at ap⊢;dsimp only at ap⊢
    gi_wp2
    exact ap X (KeepsFrom.refl _ _) (Ap.refl _ _) G
   case body=>
    intro l' i x1 a' X hx dj dp ao b6;obtain⟨ao,b7⟩:=ao;obtain⟨G,a3⟩:=List.getElem?_eq_some_iff.1 hx;rw[lMp]at G;have hd:P.getD i ϰ=P[i]:=by rw[gDe,gEe G];rfl
    have an:F.getD i hd0=(P[i]).1:=by rw[<-bx.o,gDe,getElem?_map,gEe G];rfl
    rw[hd]at b6;subst b6;have ab:=ao.hlen (by rw[aw];exact G) (by rw[am.o,aw]);have dd:=c0.o i (by rw[am.o];exact G);clear hx a3 hd;obtain⟨⟨⟨z1,z2,z3⟩,zl⟩,hz⟩:∃z,P[i]=z:=⟨_,rfl⟩;rw[hz]at an⊢;rw[an]at ab;dsimp only at an ab⊢;obtain⟨q,hq⟩:∃q,(A.getD i []).length=q:=⟨_,rfl⟩;have b3:=hqz hq;rw[hq]at ab dd;subst ab;have a6:=hqz an;have a7:Ϛ (i<F.length):=by show _<_;rw[aw];exact G
    have a8:Ϛ (i<A.length):=by show _<_;rw[am.o];exact G
    have bz:Ϛ (A.length=F.length):=by show _=_;rw[am.o,aw]
    have cr:=hqz ao;have ak:=hqz b7;unfold hdV;dsimp only;clear hz hq an ao G b7
    gi_wp2
    gi_loopw [35] (λt wr=> ∃j:Nat,j<=z2/\t=vI j/\NSt w0 V wr w0.heap.size F (doneD (metE C) A i j)/\Dz wr w.heap.size k C/\Ap (PM F) X wr/\KeepsFrom V.heap.size X wr) (λt _=>z2 - (intOf t).toNat)
    case atStart=>exact⟨0,Nat.zero_le _,rfl,by rw[R9 a8.o];exact cr.o,ak.o,Ap.refl _ _,KeepsFrom.refl _ _⟩
    case round=>
     obtain⟨j,hj,rfl,ac,af,bo,az⟩:=hrel;have ct:=hqz ac;have c6:=ac.ko.cell (FY TM ϝ) VM;by_cases c9:j<z2
     ·have ay:j<(A.getD i []).length:=by rw[b3.o];exact c9
      obtain⟨g,e,hg,x3,x5,x6,bm,bk⟩:=ac.read a7.o bz.o ay;rw[a6.o]at hg;injection hg with J c4
      clear c4;have HG:Ϛ ((F.getD i hd0).1=some ⟨g,0,none⟩):=by show _=_;rw[a6.o];exact J
      have a2:=c1.o i j a8.o ay;rw[bm]at a2;have bp:=DY af a2;have aa:Ϛ (∀Y,ϛ wr Y->NSt w0 V (φ Y g (j * 5+4) (.bool (e.met||decide (e.seq∈C)))) w0.heap.size F (doneD (metE C) A i (j+1))/\Ap (PM F) Y (φ Y g (j * 5+4) (.bool (e.met||decide (e.seq∈C))))):=λY M=>(ct.o.below M).put nR a7.o bz.o ay HG.o (by rw[bk];exact cLz M x5) (by rw[bk,bm]);have be:Ϛ (Ae wr g 166):=by
       obtain⟨dh,ho⟩:=ac.op;have dc:=ho.oe i a7.o;refine Ay dc.own ?_;rw[a6.o,J];rfl
      have a4:Ϛ (∀Y v,ϛ wr Y->Dz (φ Y g (j * 5+4) v) w.heap.size k C):=λY v M=>Nz (BW af M) (heap_setCell_other _ _ _ _ (λN=>by
       dsimp only at N;obtain⟨o,Q,I⟩:=IW af;obtain⟨c,f,h3⟩:=be.o;rw[N,h3]at Q
       cases Q
       cases I))
      have c3:=J.symm;subst c3;obtain⟨ek,et,E,⟨r1,r2,r3⟩,em⟩:=e;dsimp only at bp aa x3 x5 x6 a2;have lg:g<wr.heap.size:=bLt _ _ x3;have i1:(0:Int)<=(j:Int):=Ϝ;have i2:(j:Int)<(z2:Int):=Ϝ;have a1:Tryz.prog.follows .mixedOrders=true:=ϟ;obtain⟨B,hB⟩:=nM (decide (E∈C));have c7:∀t,binOp .gtr t (vI ((C.count E:Nat):Int)) (vI 0)=pure (.bool B):=pl.Fy B (by rw[<-hB,<-U2]);rw[hB]at aa;obtain⟨cn,bj⟩:=nM (C.count E);rw[bj]at bp c7;have b0:Ϛ (∀Y,Dz Y w.heap.size k C->(Instr.lookup 298 (.map (some w.heap.size)) (vI E) false).run Tryz.prog Y= .ok (vI cn) Y):=λY hc=>by
       have:=DY hc a2;rw[bj]at this;exact this
      have cp:=hqz af;have cq:Ϛ (g≠w.heap.size+1):=tyAt_apart be.o (Ao TM (ac.ko.block (FY TM ϝ) VM)) ϝ;clear ac J ay HG bm bk af hB bj be;have b4:Ϛ (∀Y,ϛ wr Y->Δ Y g (j * 5+2) (vI E)/\Δ Y (w+1) 0 (.map (some w.heap.size))/\(Instr.lookup 298 (.map (some w.heap.size)) (vI E) false).run Tryz.prog Y= .ok (vI cn) Y):=λY M=>⟨cLz M x3,cLz M c6,b0.o _ (BW cp.o M)⟩;have b5:Ϛ (∀Y v,ϛ wr Y->Δ (φ Y g (j * 5+4) v) g (j * 5+2) (vI E)/\Δ (φ Y g (j * 5+4) v) (w+1) 0 (.map (some w.heap.size))/\(Instr.lookup 298 (.map (some w.heap.size)) (vI E) false).run Tryz.prog (φ Y g (j * 5+4) v)= .ok (vI cn) (φ Y g (j * 5+4) v)):=λY v M=>⟨(World.cell?_setCell_other _ _ _ _ (λN=>by injection N with _ N;omega)).trans (cLz M x3),(World.cell?_setCell_other _ _ _ _ (λN=>by injection N with N _;exact cq.o N)).trans (cLz M c6),b0.o _ (a4.o Y v M)⟩;clear bp
      cases em with
      |true=>
       rw[Bool.true_or]at aa
       gi_wp2
       refine Wn 20 rfl a1 ϟ (λ⟨_,_,h⟩=>h) (S:=λm=>Δ m g (j * 5+2) (vI E)/\Δ m (w+1) 0 (.map (some w.heap.size))/\(Instr.lookup 298 (.map (some w.heap.size)) (vI E) false).run Tryz.prog m= .ok (vI cn) m) (b4.o _ bR.drew) (λd=>?_);refine tkz 0 38 d ?_;refine tkz 1 39 d ?_;refine tkz 2 40 d ?_;refine tkz 3 41 d ?_;refine tkz 4 42 d ?_;refine tkz 5 43 d ?_;refine rD 6 λK r=>?_;go_simp;refine r.out _ _ d (λd=>?_);clear r K
       try simp only[Act.put,sI,sZ,sS]
       refine tkz 7 45 d ?_;refine sk 8 46 d ?_;refine sk 9 47 d ?_;refine sk 10 48 d ?_;refine sk 11 49 d ?_;refine sk 12 50 d ?_;refine sk 13 51 d ?_;refine sk 14 52 d ?_;refine sk 15 53 d ?_;refine tkz 16 54 d ?_;refine tkz 17 55 d ?_;refine tkz 18 56 d ?_;refine rD 19 λK r=>?_;go_simp;refine r.out _ _ (b5.o _ _ bR.drew) (λd=>?_);clear r K;refine wpAnyH_done ϟ ?_ _
       gi_wp2
       exact⟨⟨j+1,Ϝ,by go_num,(aa.o _ bR).1.below bR.drew,BW (a4.o _ _ bR) bR.drew,bo.trans ((aa.o _ bR).2.trans (LM bR.drew)),az.trans (((KeepsOthers.setCell _ _ _).from _).trans (BA bR.drew))⟩,by simp[intOf];omega⟩
      |false=>
       rw[Bool.false_or]at aa
       gi_wp2
       refine Wn 20 rfl a1 ϟ (λ⟨_,_,h⟩=>h) (S:=λm=>Δ m g (j * 5+2) (vI E)/\Δ m (w+1) 0 (.map (some w.heap.size))/\(Instr.lookup 298 (.map (some w.heap.size)) (vI E) false).run Tryz.prog m= .ok (vI cn) m) (b4.o _ bR.drew) (λd=>?_);refine tkz 0 38 d ?_;refine tkz 1 39 d ?_;refine tkz 2 40 d ?_;refine tkz 3 41 d ?_;refine tkz 4 42 d ?_;refine tkz 5 43 d ?_;refine rD 6 λK r=>?_;go_simp;refine r.out _ _ d (λd=>?_);clear r K
       try simp only[Act.put,sI,sZ,sS]
       refine tkz 7 45 d ?_;refine tkz 8 46 d ?_;refine tkz 9 47 d ?_;refine tkz 10 48 d ?_;refine tkz 11 49 d ?_;refine tkz 12 50 d ?_;refine tkz 13 51 d ?_;refine tkz 14 52 d ?_;refine tkz 15 53 d ?_;refine tkz 16 54 d ?_;refine tkz 17 55 d ?_;refine tkz 18 56 d ?_;refine rD 19 λK r=>?_;go_simp;refine r.out _ _ (b5.o _ _ bR.drew) (λd=>?_);clear r K;refine wpAnyH_done ϟ ?_ _
       gi_wp2
       exact⟨⟨j+1,Ϝ,by go_num,(aa.o _ bR).1.below bR.drew,BW (a4.o _ _ bR) bR.drew,bo.trans ((aa.o _ bR).2.trans (LM bR.drew)),az.trans (((KeepsOthers.setCell _ _ _).from _).trans (BA bR.drew))⟩,by simp[intOf];omega⟩
     ·have c8:j=z2:=Ϝ;have cu:Ϛ (NSt w0 V wr w0.heap.size F (Cr (metE C) A (i+1))/\Dz wr w.heap.size k C):=by
       refine⟨?_,af⟩;rw[<-Uz a8.o,b3.o,<-c8];exact ac
      have di:¬((j:Int)<(z2:Int)):=Ϝ;clear ac af
      gi_wp2
      exact⟨az,bo,cu.o⟩
   case done=>
    rintro D X hD br r;have cs:Ϛ (NSt w0 V X w0.heap.size F (Cr (metE C) A P.length)):=by
     show NSt _ _ _ _ _ _;rw[lMp]at br;exact br.1
    clear br
    gi_wp2
    refine⟨Ϟ,.inl ⟨_,_,rfl,run_takeDeferred r,?_⟩⟩;have hn:=cs.o.rec_put r rfl (by have:=bb.o.2;omega) (.deferred none);rw[<-am.o,<-bx.o,<-cw.o,<-cx.o,R8]at hn;refine⟨.tuple #[],(by simp[results,results358,go_sem]),rfl,?_⟩;rw[cz.o];have ci:V.heap.size<=(X.putObj D (.deferred none)).heap.size:=by have Q:=(Array.getElem?_eq_some_iff.1 r).1;simp;omega
    obtain⟨y',df⟩:=JSt.met a9.o hT side C (by rw[co.o];exact hn) ci;exact⟨y',df,W6 HJ.o cl.o hn ci⟩
   case stop=>
    rintro D c X hD h r;exact h.elim
theorem RA(b:Nat)(T:TypeId)(p:pl.Pln)(x:pl.PA)(s:Jn)(y:JX)(t:Value)(L:List CO)(side:Int)(a:Hdr)(d:List EM)(l:List Ent)(base:Nat)(w0 w:Ϙ)(h:JSt w0 w b T p x s y t L)(n:calmC T)(ok:okB (Aj s side))(hs:∀z∈Ab (Aj s side),pl.i64 z.seq)(c:OE w base (hdV a) d l)(q:l.length<=1000000)(r:∀z∈l,pl.i64 z.seq):
 η 358 #[μ b,vI side,hdV a] w λe m=>e= .returned (.tuple #[])/\∃u,JSt w0 m b T p x (A7 s side (C0 (l.map (·.seq)) (Aj s side))) u t L/\IU w m:=
 have f:=Cx (p:=(a,d)) c
 LW b T p x s y t L side a d l w0 w h n ok hs (by rw[<-c.len];exact f.1.1) f.2 c.len (λk o=>(c.rows k o).seq) q r
end jn
end Go.Proofs.YtfkihidbnfkbaaaGreatDoor
