import Derived.Test.YtdohnkkbkfhphaaGreatPw22
import Derived.Test.YtdohnkkbkfhphaaGreatPw23
set_option linter.all false
set_option maxHeartbeats 2000000
set_option maxRecDepth 100000
open Go.ChangeShapes Go.WideShapes Go.ChangeAt Go.RowKit List
open Inhabited renaming default->ϰ
namespace Go.Proofs.YtdohnkkbkfhphaaGreat
open Go.Proofs.Tryz
namespace jn
open vl pl bt
attribute [local go_sem] Oper.semAt_some
theorem Zb(b:Nat)(p:pl.Pln)(x:pl.PA)(s:Jn)(y:JX)(t:Value)(T:TypeId)(c m:Ϝ)(f d o n:Nat)(row D:List Cel)(L:List CO)(base:Nat)(w:ϛ)(h:boxC w b p x s y t)(G:bf.An w b T)(h1:T≠55)(O:T≠103)(q:Est w base ((⟨t,55,2,L.length,ch.Ba (L.map CO.pair)⟩:Own1)::C7 (vS c f d) row::C7 (vS m o n) D::L.map λx=>C7 x.rv x.row))(W:L.length<=1000000):
 η 269 #[μ b,vS c f d,vS m o n] w λe w'=>e= .returned (.tuple #[])/\∃H,boxC w' b p x s y H/\CG w' base H (L++[⟨3,vS c f d,row⟩,⟨4,vS m o n,D⟩])/\SD w w' b t:=by
 have ht:=h.told;have B:w.ownsRow base 55 2 t L.length (ch.Ba (L.map CO.pair)):=Est.own q _ (mem_cons_self ..);have I:=hV0 h;have J:ϝ (Est w base ((⟨t,55,2,L.length,ch.Ba (L.map CO.pair)⟩:Own1)::C7 (vS c f d) row::C7 (vS m o n) D::L.map λx=>C7 x.rv x.row)/\bf.An w b T):=⟨q,G⟩;have aa:base<=w.heap.size:=Est.low q;have S:=h.lt;have ab:t.ownBlock≠some b:=λe=>bf.tyAt_apart (bf.A6 B e) G h1.symm rfl;obtain⟨C,A⟩:=nM L.length;have K:ϝ ((L.map CO.pair).length=C):=by show _=_;rw[lMp,A]
 rw[A]at B W;clear q h;go_enter func269,ntmps269;go_wp2_with (at_builtin;refine QF rfl (.tmp 10) (.tmp 15) rfl base t (L.map CO.pair) 3 (vS c f d) 4 (vS m o n) w C K.o B ϟ aa rfl rfl rfl rfl ?_;intro g M F hx a Q ae;have z:F.heap[b]? =w.heap[b]? :=(a.block b Ϥ (λe=>ab e.symm)).trans (Below.heap_alloc _ _ _ S);have r:ϝ (boxC F b p x s y t):=IM I.o z;have af:=r.o.told;have ad:Ξ F b 22:=(by have:=(r.o.room 22 Ϡ).2;simpa using this));refine bodyPost_end (v:=.tuple #[]) (by simp[results,results269,go_sem]) rfl ⟨rfl,vS (τ g) (C+2) M,PC r.o _,?_,?_⟩
 ·obtain⟨k1,k4⟩:=J.o;exact QG (CG.add2 (E:=[]) k1 bR a (by rw[A];exact hx) (λu e=>by
   have N:g=u:=by cases e;rfl
   subst N;exact Q.imp id (λe=>by omega))) (bf.AW k4 z) h1 O _ _
 ·refine⟨⟨a.os,a.tape,a.output,by have:=a.size;simp[World.setCell]at this⊢;omega,λk U=>absurd U (Nat.not_lt_zero k)⟩,λu Z R ac=>?_,λT' P=>bf.Ao (bf.AW P z) _ _⟩;rw[heap_setCell_other _ _ _ _ (by exact R)];exact(a.block u Ϥ (λe=>ac e.symm)).trans (Below.heap_alloc _ _ _ Z)
end jn
namespace jn
open vl
attribute [local go_sem] Oper.semAt_some
theorem Ll(m s:Int)(w:ϛ):
 η 268 #[vI m,vI s] w λe w'=>e= .returned (.bool (keepsJ m s))/\w'=w:=by
 unfold keepsJ;by_cases a:m=2
 ·subst a;rw[if_pos rfl];go_enter func268,ntmps268;go_wp2;go_ret;exact⟨rfl,rfl⟩
 ·rw[if_neg a];have d:(m==2)=false:=by simpa using a
  clear a;by_cases c:m=3
  ·subst c;rw[if_pos rfl];go_enter func268,ntmps268;go_wp2;go_ret;exact⟨rfl,rfl⟩
  ·rw[if_neg c];have f:(m==3)=false:=by simpa using c
   clear c;go_enter func268,ntmps268;go_wp2;go_ret;exact⟨rfl,rfl⟩
theorem DK(side:Int)(n o:Ϝ)(u z:Nat)(a c:List Cel)(w:ϛ)(S:0<a.length)(U:0<c.length)(Q:a.length<=400)(R:c.length<=400)(h1:vl.rowAt w n a)(C:vl.rowAt w o c):
 η 267 #[vI side,vS n a.length u,vS o c.length z] w λe w'=>(∃d f,e= .returned (vS d (AJ side a c).length f)/\A4 w' w (vS d (AJ side a c).length f) (AJ side a c))/\Ϟ w w':=by
 unfold AJ;by_cases h:side=2
 ·have r:ϝ (∀V,Ϟ w V->Δ V w 0 (vS o c.length z)->Δ V w 1 (vS n a.length u)->CT 274 #[vS (τ w) 2 2] V λe w'=>(∃d f,e= .returned (vS d (c++a).length f)/\A4 w' V (vS d (c++a).length f) (c++a))/\Ϟ V w'):=λV B D E=>bt.LR w.heap.size o n z u c a V U S R Q (vl.Ac C B) (vl.Ac h1 B) D E;subst h;rw[if_pos rfl];obtain⟨J,M⟩:=nM a.length;obtain⟨K,N⟩:=nM c.length;rw[M,N]at r⊢;obtain⟨q,H⟩:=nM ((c++a).length);rw[H]at r⊢;clear h1 C;go_enter func267,ntmps267;go_wp2_with fail;generalize m:(World.alloc w _)=V;have A:Ϟ w V:=by rw[<-m];exact Ϫ
  have I:w.heap.size<=V.heap.size:=A.size;have O:Δ V w 0 (vS o K z):=by subst m;go_simp
  have P:Δ V w 1 (vS n J u):=by subst m;go_simp
  clear m;refine(r.o V A O P).mono ?_;rintro e W ⟨⟨d,f,rfl,G⟩,F⟩;go_wp2;go_ret;exact⟨⟨d,f,rfl,World.ownsRow.mono G I⟩,bT A F⟩
 ·have r:ϝ (∀V,Ϟ w V->Δ V w 0 (vS n a.length u)->Δ V w 1 (vS o c.length z)->CT 274 #[vS (τ w) 2 2] V λe w'=>(∃d f,e= .returned (vS d (a++c).length f)/\A4 w' V (vS d (a++c).length f) (a++c))/\Ϟ V w'):=λV B D E=>bt.LR w.heap.size n o u z a c V S U Q R (vl.Ac h1 B) (vl.Ac C B) D E;have Z:(side==2)=false:=by simpa using h
  rw[if_neg h];obtain⟨J,M⟩:=nM a.length;obtain⟨K,N⟩:=nM c.length;rw[M,N]at r⊢;obtain⟨q,H⟩:=nM ((a++c).length);rw[H]at r⊢;clear h1 C;go_enter func267,ntmps267;go_wp2_with fail;generalize m:(World.alloc w _)=V;have A:Ϟ w V:=by rw[<-m];exact Ϫ
  have I:w.heap.size<=V.heap.size:=A.size;have O:Δ V w 0 (vS n J u):=by subst m;go_simp
  have P:Δ V w 1 (vS o K z):=by subst m;go_simp
  clear m;refine(r.o V A O P).mono ?_;rintro e W ⟨⟨d,f,rfl,G⟩,F⟩;go_wp2;go_ret;exact⟨⟨d,f,rfl,World.ownsRow.mono G I⟩,bT A F⟩
end jn
namespace jn
open vl bf
variable {V X Y w w' w0 : ϛ} {b base g i j k : Nat} {x : BX} {t v : Value} {L : List CO} {T e : TypeId} {p : pl.Pln} {s : Jn} {y : JX} {l : List Ent} {ls : List (List Ent)} {hs : List Hdr}
structure calmC(T:TypeId):Prop where
 t:calmT T
 c:T≠55
theorem OB.other{b:Buf}(h:OB w base x b)(hs:w.heap.size<=w'.heap.size)(a:∀g,An w g 63\/An w g 103->w'.heap[g]? =w.heap[g]?)(hh:∀g,An w g 26->w'.heap[g]? =w.heap[g]?):OB w' base x b:=
 ⟨Nat.le_trans h.low hs,h.mem.other hs a,A2 h.hds (λg c=>hh g (A6 h.hds c)),h.rlen,λi d=>(h.runs i d).other hs a,h.two⟩
theorem CG.other(h:CG w base v L)(hs:w.heap.size<=w'.heap.size)(n:∀g,An w g 55\/An w g 103->w'.heap[g]? =w.heap[g]?):CG w' base v L:=by
 have d:bt.Est w base ((⟨v,55,2,L.length,ch.Ba (L.map CO.pair)⟩:bt.Own1)::L.map λx=>C7 x.rv x.row):=h;refine bt.Est.mk (Nat.le_trans (bt.Est.low d) hs) (λz a=>?_) (bt.Est.two d);have f:=bt.Est.own d z a;refine A2 f (λg m=>n g ?_);rcases mem_cons.1 a with rfl|a
 ·exact .inl (A6 f m)
 ·obtain⟨c,_,rfl⟩:=mem_map.1 a;exact .inr (A6 f m)
structure JSt(w0 w:World)(b:Nat)(T:TypeId)(p:pl.Pln)(x:pl.PA)(s:Jn)(y:JX)(t:Value)(L:List CO):Prop where
 box:boxC w b p x s y t
 ty:An w b T
 up:w0.heap.size<=b
 l:OB w w0.heap.size y.l s.L
 r:OB w w0.heap.size y.r s.R
 ap:ZJ y.l y.r
 cg:CG w w0.heap.size t L
 bl:Ϟ w0 w
theorem JSt.below{x:pl.PA}(h:JSt w0 w b T p x s y t L)(a:Ϟ w w'):JSt w0 w' b T p x s y t L:=
 ⟨h.box.later a,Ae h.ty a,h.up,h.l.below a,h.r.below a,h.ap,h.cg.below a,h.bl.trans (a.mono h.bl.size)⟩
theorem Vs(h:SD w w' b t)(d:An w b T)(f:CG w base t L)(h1:T≠e)(c:e≠55)(a:An w g e):w'.heap[g]? =w.heap[g]? :=
 h.2.1 g (AX a) (tyAt_apart a d h1.symm) (λk=>tyAt_apart a (A6 f.own k) c rfl)
theorem JSt.told{x:pl.PA}{m:Value}{n:List CO}(h:JSt w0 w b T p x s y t L)(d:calmC T)(B:boxC w' b p x s y m)(D:CG w' w0 m n)(a:SD w w' b t):JSt w0 w' b T p x s y m n:=by
 have f:∀e,T≠e->e≠55->∀g,An w g e->w'.heap[g]? =w.heap[g]? :=λe z A g c=>Vs a h.ty h.cg z A c;have o:=f _ d.t.e Ϡ;have r:=f _ d.t.v Ϡ;have q:=f _ d.t.h Ϡ;have C:An w' b T:=a.2.2 T h.ty;exact⟨B,C,h.up,OB.other h.l a.1.size (λg c=>c.elim (o g) (r g)) (q),OB.other h.r a.1.size (λg c=>c.elim (o g) (r g)) q,h.ap,D,⟨a.1.os.trans h.bl.os,a.1.tape.trans h.bl.tape,a.1.output.trans h.bl.output,Nat.le_trans h.bl.size a.1.size,λk u=>(a.2.1 k (Nat.lt_of_lt_of_le u h.bl.size) (by have:=h.up;omega) (λe=>by have:=(AM h.cg.own e).1;omega)).trans (h.bl.block k u)⟩⟩
def doneL(f:Ent->Ent)(l:List Ent)(k:Nat):List Ent:=(l.take k).map f++l.drop k
def Dc(f:Ent->Ent)(ls:List (List Ent))(k:Nat):List (List Ent):=(ls.take k).map (λl=>l.map f)++ls.drop k
def doneD(f:Ent->Ent)(ls:List (List Ent))(i j:Nat):List (List Ent):=(Dc f ls i).set i (doneL f (ls.getD i []) j)
theorem Lm(f:Ent->Ent)(l:List Ent)(k:Nat):(doneL f l k).length=l.length:=by
 unfold doneL;rw[lAp,lMp,length_take,length_drop];omega
theorem MK(f:Ent->Ent)(l:List (List Ent))(k:Nat):(Dc f l k).length=l.length:=by
 unfold Dc;rw[lAp,lMp,length_take,length_drop];omega
theorem MM{f:Ent->Ent}(h:k<l.length):(doneL f l k).getD k ϰ=l.getD k ϰ:=by
 unfold doneL;rw[B4 (d:=ϰ) h,gDe,getElem?_append_right (by rw[lMp,length_take];omega),lMp,length_take,show k - min k l.length=0 by omega];rfl
theorem ON{f:Ent->Ent}{l:List (List Ent)}(h:k<l.length):(Dc f l k).getD k []=l.getD k []:=by
 unfold Dc;rw[B4 (d:=[]) h,gDe,getElem?_append_right (by rw[lMp,length_take];omega),lMp,length_take,show k - min k l.length=0 by omega];rfl
theorem TD{f:Ent->Ent}(h:k<l.length):(doneL f l k).set k (f (l.getD k ϰ))=doneL f l (k+1):=by
 unfold doneL;rw[B4 (d:=ϰ) h,set_mid f l k _ _ _ ϟ,JD f l k ϰ h,append_assoc];rfl
theorem TE(f:Ent->Ent)(l:List Ent):doneL f l 0=l:=by unfold doneL;rfl
theorem WX(f:Ent->Ent)(l:List Ent):doneL f l l.length=l.map f:=by unfold doneL;rw[take_length,drop_length,append_nil]
theorem Rt{f:Ent->Ent}{l:List (List Ent)}(h:k<l.length):(Dc f l k).set k ((l.getD k []).map f)=Dc f l (k+1):=by
 unfold Dc;rw[B4 (d:=[]) h,set_mid (λl=>l.map f) l k _ _ _ ϟ,JD (λl=>l.map f) l k [] h,append_assoc];rfl
theorem Ru(f:Ent->Ent)(l:List (List Ent)):Dc f l 0=l:=by unfold Dc;rfl
theorem TF(a:List Int)(b:Buf):Dc (metE a) (partsB b) (partsB b).length=partsB (Cb a b):=by
 unfold Dc;rw[take_length,drop_length,append_nil];rfl
theorem MN{f:Ent->Ent}(h:i<ls.length):(doneD f ls i j).getD i []=doneL f (ls.getD i []) j:=D5 (by rw[MK];exact h)
theorem TH{f:Ent->Ent}(h:i<ls.length):doneD f ls i 0=Dc f ls i:=by
 unfold doneD;rw[TE,<-ON (f:=f) h];exact set_self (by rw[MK];exact h)
theorem WY{f:Ent->Ent}(h:i<ls.length):doneD f ls i (ls.getD i []).length=Dc f ls (i+1):=by
 unfold doneD;rw[WX,Rt h]
def Rv(hs:List Hdr):Nat->Obj->Prop:=λg o=>(∀c f,o≠ .cells c 63 f)\/∀h∈hs,(hdV h).ownBlock≠some g
theorem GX{W:ϛ}{t:TypeId}(h:An W b t)(ht:t≠63):names (Rv hs) W b:=λo a=>.inl (M4 h ht o a)
structure NSt(w0 V X:World)(base:Nat)(hs:List Hdr)(ls:List (List Ent)):Prop where
 op:∃ess,OP X base hs ess ls
 ko:KeepO (Rv hs) V X
 bl:Ϟ w0 X
theorem NSt.row{row:Option Nat}{B:Nat}(h:NSt w0 V X base hs ls)(f:w0.heap.size<=B)(a:X.grownBy Y row)(c:∀r,row=some r->B<=r/\∃x:Obj,X.heap[r]? =some x/\x.isCells=false):NSt w0 V Y base hs ls:=by
 obtain⟨d,n⟩:=h.op;exact⟨⟨d,n.same a.size (λg m=>by rcases m with k|k;exact ty_row a (λr e=>(c r e).2) k;exact ty_row a (λr e=>(c r e).2) k)⟩,h.ko.grown a (λr e=>(c r e).2),Di h.bl nR f a c⟩
theorem NSt.below(h:NSt w0 V X base hs ls)(a:Ϟ X Y):NSt w0 V Y base hs ls:=by
 obtain⟨c,d⟩:=h.op;exact⟨⟨c,d.below a⟩,h.ko.trans (JF a),h.bl.trans (a.mono h.bl.size)⟩
theorem NSt.rec_put{D:Nat}{q:Obj}(h:NSt w0 V X base hs ls)(a:X.heap[D]? =some q)(m:q.isCells=false)(u:w0.heap.size<=D)(o:Obj):NSt w0 V (X.putObj D o) base hs ls:=by
 obtain⟨r,z⟩:=h.op;have n:∀g t,An X g t->(X.putObj D o).heap[g]? =X.heap[g]? :=λg t d=>World.putObj_heap_other (λe=>by
  obtain⟨c,f,k⟩:=d;rw[e,a]at k;injection k with k
  rw[k]at m
  cases m)
 exact⟨⟨r,z.same ϡ (λg d=>d.elim (n g _) (n g _))⟩,h.ko.trans (KeepO.put X D q o a m),CY h.bl u a o⟩
theorem NSt.read{f:Ent->Ent}(h:NSt w0 V X base hs (doneD f ls i j))(z:i<hs.length)(H:ls.length=hs.length)(A:j<(ls.getD i []).length):
 ∃(g:Nat) (e:EM),hs.getD i hd0=(some ⟨g,0,none⟩,(ls.getD i []).length,(hs.getD i hd0).2.2)/\Δ X g (j * 5+2) (vI e.seq)/\Δ X g (j * 5+4) (.bool e.met)/\Ξ X g (j * 5+4)/\((ls.getD i []).getD j ϰ).seq=e.seq/\((ls.getD i []).getD j ϰ).met=e.met:=by
 obtain⟨c,C⟩:=h.op;have a:=C.oe i z;rw[MN ϟ]at a;have B:(doneL f (ls.getD i []) j).length=(ls.getD i []).length:=Lm _ _ _;obtain⟨g,m⟩:=Hx a ϟ;have n:(c.getD i []).length=(ls.getD i []).length:=by rw[a.len,B]
 rw[n]at m;have D:hdV (hs.getD i hd0)=vS (τ g) (c.getD i []).length (hs.getD i hd0).2.2:=by rw[m,n];rfl
 rw[D]at a;obtain⟨b,o,u,E,F,q,G,r⟩:=a.at j ϟ
 cases u
 have d:=a.ers.2 j ϟ;rw[MM A]at d;rw[Nat.zero_add]at E F q G r;exact⟨g,(c.getD i []).getD j ϰ,m,q,r,VB a.own _,d.seq.symm,d.met.symm⟩
theorem NSt.put{a:List Int}{v:Bool}(h:NSt w0 V X base hs (doneD (metE a) ls i j))(hw:w0.heap.size<=base)(A:i<hs.length)(Z:ls.length=hs.length)(m:j<(ls.getD i []).length)(z:(hs.getD i hd0).1=some ⟨g,0,none⟩)
 (P:Δ X g (j * 5+4) (.bool ((ls.getD i []).getD j ϰ).met)) (I:v=(((ls.getD i []).getD j ϰ).met||decide (((ls.getD i []).getD j ϰ).seq∈a))):
 NSt w0 V (φ X g (j * 5+4) (.bool v)) base hs (doneD (metE a) ls i (j+1))/\KeepO (Rv hs) X (φ X g (j * 5+4) (.bool v)):=by
 have G:i<ls.length:=ϟ;have M:(doneD (metE a) ls i j).set i (doneL (metE a) (ls.getD i []) (j+1))=doneD (metE a) ls i (j+1):=by unfold doneD;rw[List.set_set]
 have D:=TD (f:=metE a) m;by_cases q:((ls.getD i []).getD j ϰ).seq∈a
 ·have u:v=true:=by rw[I,decide_eq_true q,Bool.or_true]
  rw[u];have r:metE a ((ls.getD i []).getD j ϰ)=((ls.getD i []).getD j ϰ).meet:=by unfold metE;rw[if_pos q];rfl
  obtain⟨R,J⟩:=h.op;have Q:j<((doneD (metE a) ls i j).getD i []).length:=by rw[MN G,Lm];exact m
  have C:=J.oe i A;have B:(hdV (hs.getD i hd0)).ownBlock=some g:=by
   obtain⟨S,F⟩:=Hx C ϟ;rw[F]at z
   cases z
   rw[F];rfl
  have W:=(AM C.own B).1;have H:KeepO (Rv hs) X (φ X g (j * 5+4) (.bool true)):=λb o E U d=>by
   refine(heap_setCell_other _ _ _ _ (λe=>?_)).trans E;dsimp only at e;subst e;rcases d with d|d
   ·obtain⟨c,f,n⟩:=A6 C.own B;rw[E]at n;injection n with n
    exact d c f n
   ·exact d _ (AD A) B
  have K:=YH J A Q z;rw[MN G,MM m,<-r,D,M]at K;exact⟨⟨⟨_,K⟩,h.ko.trans H,h.bl.setCell ϥ _⟩,H⟩
 ·have u:v=((ls.getD i []).getD j ϰ).met:=by rw[I,decide_eq_false q,Bool.or_false]
  rw[u,R9 P];have r:metE a ((ls.getD i []).getD j ϰ)=(ls.getD i []).getD j ϰ:=by unfold metE;rw[if_neg q]
  have N:doneL (metE a) (ls.getD i []) (j+1)=doneL (metE a) (ls.getD i []) j:=by
   rw[<-D,r,<-MM (f:=metE a) m];exact set_self (by rw[Lm];exact m)
  have O:doneD (metE a) ls i (j+1)=doneD (metE a) ls i j:=by unfold doneD;rw[N]
  rw[O];exact⟨h,KeepO.refl _ _⟩
theorem NSt.hlen{f:Ent->Ent}(h:NSt w0 V X base hs (Dc f ls i))(d:i<hs.length)(r:ls.length=hs.length):(hs.getD i hd0).2.1=(ls.getD i []).length:=by
 obtain⟨q,m⟩:=h.op;have a:=m.oe i d;rw[ON ϟ]at a;obtain⟨n,o,e⟩:=a.form;unfold hdV at e;injection e with _ c _
 rw[c,a.len]
theorem WZ{b:Buf}{f:Ent->Ent}(h:OB V base x b)(a:Ϟ w0 V):NSt w0 V V base ((x.m::x.rs).map (·.1)) (Dc f (partsB b) 0):=
 ⟨⟨_,by rw[Ru];exact Acp h⟩,KeepO.refl _ _,a⟩
theorem Vt{d:Buf}{a:List (List EM)}(c:OP X base ((x.m::x.rs).map (·.1)) a (partsB d))(A:X.ownsRow base 26 1 (vS x.ra x.rs.length x.rc) x.rs.length (x.rs.map λp=>hdV p.1)):∃f:BX,f.ra=x.ra/\f.rc=x.rc/\f.m.1=x.m.1/\f.rs.map (·.1)=x.rs.map (·.1)/\OB X base f d:=by
 have B:a.length=x.rs.length+1:=by rw[c.l1];simp
 have D:(x.rs.map (·.1)).length=a.tail.length:=by rw[lMp,length_tail,B];rfl
 have h:((x.rs.map (·.1)).zip a.tail).length=x.rs.length:=by rw[length_zip,<-D,lMp,Nat.min_self]
 have o:((x.rs.map (·.1)).zip a.tail).map (·.1)=x.rs.map (·.1):=map_fst_zip ϟ;have C:d.runs.length=x.rs.length:=by have:=c.l2;simp[partsB]at this;exact this
 have n:((x.rs.map (·.1)).zip a.tail).map (λp=>hdV p.1)=x.rs.map λp=>hdV p.1:=by
  have:((x.rs.map (·.1)).zip a.tail).map (λp=>hdV p.1)=(((x.rs.map (·.1)).zip a.tail).map (·.1)).map hdV:=by rw[map_map];rfl
  rw[this,o,map_map];rfl
 refine⟨⟨x.ra,x.rc,(x.m.1,a.getD 0 []),(x.rs.map (·.1)).zip a.tail⟩,rfl,rfl,rfl,o,?_⟩;refine⟨c.low,c.oe 0 ϡ,?_,?_,λi E=>?_,?_⟩
 ·dsimp only;rw[h,n];exact A
 ·dsimp only;rw[h,C]
 ·dsimp only;have m:i<x.rs.length:=ϟ;have q:=c.oe (i+1) Ϥ;have r:((x.m::x.rs).map (·.1)).getD (i+1) hd0=(((x.rs.map (·.1)).zip a.tail).getD i ϰ).1:=by
   rw[map_cons,getD_cons_succ,gDe,gDe,gEe (by rw[lMp];exact m),gEe (by rw[h];exact m)];simp
  have u:a.getD (i+1) []=(((x.rs.map (·.1)).zip a.tail).getD i ϰ).2:=by
   rw[gDe,gDe,gEe ϟ,gEe (by rw[h];exact m)];simp
  have z:(partsB d).getD (i+1) []=d.runs.getD i ϰ:=by
   unfold partsB;rw[getD_cons_succ];rfl
  rw[r,u,z]at q;exact q
 ·dsimp only;rw[map_cons,n];have:=c.two;rw[map_map,map_cons]at this;exact this
theorem Rw{x':BX}(h1:x'.m.1=x.m.1)(c:x'.rs.map (·.1)=x.rs.map (·.1)){p:Part}(a:p∈x'.m::x'.rs):∃q∈x.m::x.rs,q.1=p.1:=by
 rcases mem_cons.1 a with rfl|a
 ·exact⟨x.m,mem_cons_self ..,h1.symm⟩
 ·have:p.1∈x.rs.map (·.1):=by rw[<-c];exact mem_map.2 ⟨p,a,rfl⟩
  obtain⟨q,d,e⟩:=mem_map.1 this;exact⟨q,mem_cons_of_mem _ d,e⟩
theorem Vu{d:BX}{b:Buf}(h:OB V base x b)(hs:V.heap.size<=X.heap.size)(o:KeepO (Rv ((d.m::d.rs).map (·.1))) V X)(D:∀p∈x.m::x.rs,∀q∈d.m::d.rs,apB (hdV p.1) (hdV q.1)):OB X base x b:=by
 have u:∀g t,An V g t->t≠63->X.heap[g]? =V.heap[g]? :=λg t a m=>by
  obtain⟨c,f,e⟩:=a;rw[e];exact o g _ e rfl (.inl (λJ K B=>by injection B with _ C _;exact m C))
 have r:∀{p:Part} {l:List Ent},p∈x.m::x.rs->OE V base (hdV p.1) p.2 l->OE X base (hdV p.1) p.2 l:=λ{p l} F E=>E.same hs (λg A t a m=>by
  rcases m with⟨H,rfl⟩|rfl
  ·rw[a];refine o g _ a rfl (.inr (λq G e=>?_));obtain⟨z,I,rfl⟩:=mem_map.1 G;exact D p F z I g H e
  ·exact u g _ ⟨A,_,a⟩ Ϡ)
 refine⟨Nat.le_trans h.low hs,r (mem_cons_self ..) h.mem,A2 h.hds (λg a=>u g _ (A6 h.hds a) Ϡ),h.rlen,λi n=>r (mem_cons_of_mem _ ?_) (h.runs i n),h.two⟩;exact AD (by rw[h.rlen];exact n)
theorem Vv{U:ϛ}{x:pl.PA}{s':Jn}{a:JX}(h:boxC U b p x s y t)(c:s'.L.lim=s.L.lim)(d:s'.R.lim=s.R.lim)(f:s'.lm=s.lm)(m:s'.rm=s.rm)(n:s'.seq=s.seq)
 (o:a.l.m.1=y.l.m.1) (q:a.l.ra=y.l.ra) (r:a.l.rc=y.l.rc) (u:a.l.rs.length=y.l.rs.length) (z:a.r.m.1=y.r.m.1) (A:a.r.ra=y.r.ra) (B:a.r.rc=y.r.rc) (C:a.r.rs.length=y.r.rs.length):boxC U b p x s' a t:=by
 refine⟨h.plan,?_,h.told,h.room⟩;have:=h.join;unfold jnC at *;rw[c,d,f,m,n,o,q,r,u,z,A,B,C];exact this
def JO(w w':World):Prop:=Below 0 w w'/\∀g e,An w g e->e≠63->w'.heap[g]? =w.heap[g]?
theorem JO.cell{o:Nat}(h:JO w w')(d:An w g e)(h1:e≠63)(c:Δ w g o v):Δ w' g o v:=(cOb (w:=w) (a:=⟨g,o,none⟩) (h.2 g e d h1)).trans c
theorem Zc{x:pl.PA}(h:JSt w0 w b T p x s y t L)(d:Ϟ w V)(a:NSt w0 V X base hs ls)(z:V.heap.size<=X.heap.size):JO w X:=by
 refine⟨⟨a.bl.os.trans h.bl.os.symm,a.bl.tape.trans h.bl.tape.symm,a.bl.output.trans h.bl.output.symm,Nat.le_trans d.size z,λk u=>absurd u (Nat.not_lt_zero k)⟩,λg e m r=>?_⟩;have q:=d.block g (AX m);obtain⟨c,f,k⟩:=m;rw[k];exact a.ko g _ (q.trans k) rfl (.inl (λA B n=>by injection n with _ o _;exact r o))
theorem JSt.met{x:pl.PA}(h:JSt w0 V b T p x s y t L)(Q:calmC T)(side:Int)(O:List Int)(D:NSt w0 V X w0.heap.size (((Bl y side).m::(Bl y side).rs).map (·.1)) (partsB (Cb O (bufOf s side))))(K:V.heap.size<=X.heap.size):
 ∃y',JSt w0 X b T p x (Av s side (Cb O (bufOf s side))) y' t L:=by
 have A:=D.ko;have B:∀g e,An V g e->e≠63->X.heap[g]? =V.heap[g]? :=λg e a R=>by
  obtain⟨c,f,k⟩:=a;rw[k];exact A g _ k rfl (.inl (λc' f' u=>by injection u with _ P _;exact R P))
 obtain⟨aa,n⟩:=D.op;have I:X.heap[b]? =V.heap[b]? :=B b T h.ty Q.t.e;have M:=IM h.box I;have N:=CG.other h.cg K (λg a=>a.elim (λk=>B g _ k Ϡ) (λk=>B g _ k Ϡ));by_cases e:side=2
 ·have H:Bl y side=y.r:=by unfold Bl;rw[if_pos e]
  have z:bufOf s side=s.R:=by unfold bufOf;rw[if_pos e]
  rw[H]at n A;rw[z]at n;rw[z];obtain⟨C,E,F,o,r,G⟩:=Vt n (A2 h.r.hds (λg a=>B g _ (A6 h.r.hds a) Ϡ));have J:C.rs.length=y.r.rs.length:=by have:=congrArg List.length r;simpa using this
  unfold Av;rw[if_pos e];refine⟨⟨y.l,C⟩,Vv M rfl rfl rfl rfl rfl rfl rfl rfl rfl o E F J,AW h.ty I,h.up,Vu h.l K A (λp d q m=>h.ap p d q m),G,λp d q m=>?_,N,D.bl⟩;obtain⟨Z,U,u⟩:=Rw o r m;rw[<-u];exact h.ap p d Z U
 ·have H:Bl y side=y.l:=by unfold Bl;rw[if_neg e]
  have z:bufOf s side=s.L:=by unfold bufOf;rw[if_neg e]
  rw[H]at n A;rw[z]at n;rw[z];obtain⟨C,E,F,o,r,G⟩:=Vt n (A2 h.l.hds (λg a=>B g _ (A6 h.l.hds a) Ϡ));have J:C.rs.length=y.l.rs.length:=by have:=congrArg List.length r;simpa using this
  unfold Av;rw[if_neg e];refine⟨⟨C,y.r⟩,Vv M rfl rfl rfl rfl rfl o E F J rfl rfl rfl rfl,AW h.ty I,h.up,G,Vu h.r K A (λp d q m=>M0 (h.ap q m p d)),λp d q m=>?_,N,D.bl⟩;obtain⟨W,S,u⟩:=Rw o r d;rw[<-u];exact h.ap W S q m
end jn
end Go.Proofs.YtdohnkkbkfhphaaGreat
