import Derived.Test.YtfkihidbnfkbaaaGreatDoorPv38
set_option linter.all false
set_option maxHeartbeats 4000000
set_option maxRecDepth 100000
open Go.ChangeShapes Go.WideShapes Go.ChangeAt Go.RowKit List
open Inhabited renaming default->ϰ
namespace Go.Proofs.YtfkihidbnfkbaaaGreatDoor
open Go.Proofs.Tryz
namespace cd
open vl bf
variable {w w' w1 w2 : Ϙ} {C R base : Nat} {v : Value} {l : List (List Ent)} {o : Obj} {row : Option Nat} {ps : List Part}
structure RP(w:World)(C R:Nat):Prop where
 cell:Δ w C 0 (.pointer (τ R))
 ne:C≠R
 lt:C<w.heap.size
theorem RP.keep(h:RP w C R)(c:Ah R w w'):RP w' C R:=⟨(cOb (w:=w) (a:=⟨C,0,none⟩) (c.2 C h.lt h.ne)).trans h.cell,h.ne,Nat.lt_of_lt_of_le h.lt c.1.size⟩
theorem OE.keptR{c:List EM}{l:List Ent}(h:OE w base v c l)(f:Ah R w w')(j:Ae w R 124):OE w' base v c l:=
 h.same f.1.size (λg m t d k=>f.2 g (A6 ⟨_,_,d⟩) (λe=>by
  subst e;have:t≠124:=by
   rcases k with⟨_,rfl⟩|rfl
   ·decide
   ·decide
  exact tyAt_apart ⟨_,_,d⟩ j this rfl))
theorem RR.grown{s:List UInt8}(h:RR w1 R s)(d:(w1.alloc o).grownBy w2 row)(e:row≠some R):RR w2 R s:=by
 have c:w2.heap[R]? =w1.heap[R]? :=Du (bR.alloc nR o) d h.lt e;exact⟨(cOb (w:=w1) (a:=⟨R,0,none⟩) c).trans h.cell,(World.frozen?_of_block (w:=w1) (a:=⟨R,0,none⟩) c).trans h.frz,Ao h.tb c⟩
theorem GO(h:Ah R w w1)(c:(w1.alloc o).grownBy w2 row)(j:∀g,row=some g->w.heap.size<=g):Ah R w w2:=
 ⟨(((h.1.alloc (Nat.zero_le _) o).grown c (Nat.zero_le _) (λk m=>Nat.zero_le _))),λg d f=>(Du (bR.alloc nR o) c (Nat.lt_of_lt_of_le d h.1.size) (λe=>by have:=j g e;omega)).trans (h.2 g d f)⟩
theorem WX(R C:Nat)(x:Ent)(b:List UInt8)(w:Ϙ)(h:RR w R (B5 x++b))(s:RP w C R)(r:okR x)(H:b.length<=60000000):
 η 204 #[μ C] w λe w'=>(∃m:EM,e= .returned m.val/\OR w' w.heap.size m x)/\RR w' R b/\Ah R w w':=by
 have E:=hIz (λ(w1:Ϙ) (F:RR w1 R (B5 x++b))=>Ss R x b w1 F r H);have L:=s.cell;have M:=s.lt;have J:=h.lt;have c:=hqz h;clear h r;go_enter func204,ntmps204;go_wp2_with fail;generalize k:(World.alloc w _)=V;have n:ϛ w V:=by rw[<-k];exact ϧ
 have f:Ϛ (SB V w.heap.size [ϊ,ω,ω,ψ,ϋ]):=by
  subst k;exact SB.new w [ϊ,ω,ω,ψ,ϋ] 166
 have K:w.heap.size<V.heap.size:=f.o.lt;clear k;refine(E.o V (c.o.below n)).mono ?_;rintro o w1 ⟨⟨m,rfl,d⟩,t,p⟩;replace f:Ϛ (SB w1 w.heap.size [ϊ,ω,ω,ψ,ϋ]):=f.o.keep p Ϝ;have q:Ϛ (w1.there w.heap.size 0 5):=f.o.there;have j:Ϛ (RR (World.setCells w1 w.heap.size 0 [.string m.key,vI m.time,vI m.seq,vS m.row.1 m.row.2.1 m.row.2.2,.bool m.met]) R b/\Ah R w (World.setCells w1 w.heap.size 0 [.string m.key,vI m.time,vI m.seq,vS m.row.1 m.row.2.1 m.row.2.2,.bool m.met])/\OR (World.setCells w1 w.heap.size 0 [.string m.key,vI m.time,vI m.seq,vS m.row.1 m.row.2.1 m.row.2.2,.bool m.met]) w.heap.size m x):=
  ⟨t.sets Ϝ _ _,Ef ((Ah.of n).trans p) nR _ _,⟨d.key,d.time,d.seq,d.met,d.len,World.ownsRow.mono (As d.row (λg G=>Ce (λe=>by have:=(A5 d.row G).1;omega) _ _ _)) n.size⟩⟩
 unfold EM.val hdV;clear t p d f;have c:Ϛ ((World.setCells w1 w.heap.size 0 [.string m.key,vI m.time,vI m.seq,vS m.row.1 m.row.2.1 m.row.2.2,.bool m.met]).rangeAt w.heap.size 0 [.string m.key,vI m.time,vI m.seq,vS m.row.1 m.row.2.1 m.row.2.2,.bool m.met]):=World.rangeAt_setCells_same _ _ _ _ q.o;go_wp2_with ((with_reducible refine wpList_store_mid ?_ 166 (.tmp 1) (.tmp 3) ?_ w.heap.size 0 #[.string m.key,vI m.time,vI m.seq,vS m.row.1 m.row.2.1 m.row.2.2,.bool m.met] ?_ ?_ ?_ ?_ ?_ ?_);exact rfl;exact rfl;exact rfl;exact rfl;exact q.o;exact XS;exact ϥ);generalize (World.setCells w1 w.heap.size 0 [.string m.key,vI m.time,vI m.seq,vS m.row.1 m.row.2.1 m.row.2.2,.bool m.met])=I at c j⊢;have u:=c.o 0 _ rfl;have z:=c.o 1 _ rfl;have A:=c.o 2 _ rfl;have B:=c.o 3 _ rfl;have D:=c.o 4 _ rfl;simp only[Nat.zero_add]at u z A B D;exact bodyPost_ret (v:=.agg #[.string m.key,vI m.time,vI m.seq,vS m.row.1 m.row.2.1 m.row.2.2,.bool m.met]) (by simp[results,results204,go_sem,u,z,A,B,D]) rfl ⟨⟨m,rfl,j.o.2.2⟩,j.o.1,j.o.2.1⟩
theorem JW{α:Type} [Inhabited α](f:α->List UInt8)(l:List α)(k:Nat)(h:k<l.length)(b:List UInt8):(l.drop k).flatMap f++b=f (l.getD k ϰ)++((l.drop (k+1)).flatMap f++b):=by
 rw[drop_eq_getElem_cons h,flatMap_cons,append_assoc];simp[gDe,h]
theorem okR.wlen{x:Ent}(h:okR x):(B5 x).length<=4000:=by
 have c:=h.few;have d:=h.key;unfold B5;simp only[lAp,Ht,Az,Ee,AE];omega
theorem JY{l:List Ent}(h:∀x∈l,okR x):(l.flatMap B5).length<=4000 * l.length:=by
 induction l with
 |nil=>simp
 |cons x l ih=>
  have d:=(h x (mem_cons_self ..)).wlen;have e:=ih (λy c=>h y (mem_cons_of_mem _ c));rw[flatMap_cons,lAp,length_cons];omega
theorem AO{α:Type} [Inhabited α]{l:List α}{i:Nat}(h:i<l.length):l.getD i ϰ∈l:=by
 rw[gDe,gEe h];exact getElem_mem h
theorem N6(R C:Nat)(l:List Ent)(b:List UInt8)(w:Ϙ)(h:RR w R (AG l++b))(V:RP w C R)(E:∀x∈l,okR x)(hn:l.length<=10000)(hm:b.length<=10000000):
 η 206 #[μ R,.func (.func 204) #[] #[μ C]] w λe w'=>(∃A B c,e= .returned (vS A l.length B)/\OE w' w (vS A l.length B) c l)/\RR w' R b/\Ah R w w':=by
 have ac:=JY E;have M:Ϛ (CT 82 #[μ R] w λe w'=>e= .returned (vI l.length)/\RR w' R (l.flatMap B5++b)/\Ah R w w'):=BN R l.length _ w (by unfold AG at h;rw[append_assoc]at h;exact h) Ϝ (by rw[lAp];omega);have KM:=hIz (λso (w1:Ϙ) (h:so=true)=>EO R so w1 h);have N:Ϛ (∀k,k<l.length->∀w1,RR w1 R ((l.drop k).flatMap B5++b)->RP w1 C R->CT 204 #[μ C] w1 λe w'=>(∃m:EM,e= .returned m.val/\OR w' w1.heap.size m (l.getD k ϰ))/\RR w' R ((l.drop (k+1)).flatMap B5++b)/\Ah R w1 w'):=λk d w1 S F=>by
  rw[JW B5 l k d]at S;have h2:=JY (l:=l.drop (k+1)) (λx G=>E x (List.mem_of_mem_drop G));rw[length_drop]at h2;exact WX R C _ _ w1 S F (E _ (AO d)) (by rw[lAp];omega)
 have J:Ϛ (∀k,k<l.length->l.take (k+1)=l.take k++[l.getD k ϰ]):=λk d=>by
  rw[take_succ_eq_append_getElem d];simp[gDe,d]
 have ab:Ϛ (RP w C R/\R<w.heap.size):=⟨V,h.lt⟩;obtain⟨n,P⟩:=nM l.length;have I:=hqz P;rw[P]at M N J hn⊢;clear h V E ac P;go_enter func206,ntmps206;go_wp2_with fail;refine M.o.mono ?_;rintro e w1 ⟨rfl,W,T⟩;have L:Ϛ (RR w1 R (l.flatMap B5++b)/\Ah R w w1):=⟨W,T⟩;have ak:(0:Int)<=(n:Int):=Ϝ;clear W T M;go_wp2_with (go_at_call 139;refine(KM.o _ _ Ϟ).mono ?_;rintro e w2 ⟨rfl,rfl⟩)
 go_loopw [6,14] (λv i wr=> ∃(k:Nat) (c:List EM),k<=n/\i=vI k/\OE wr w v c (l.take k)/\RR wr R ((l.drop k).flatMap B5++b)/\Ah R w wr) (λ_ i _=>n - (intOf i).toNat)
 case atStart=>exact⟨0,[],Nat.zero_le _,rfl,DV L.o.2.1.size,by rw[List.drop_zero];exact L.o.1,L.o.2⟩
 case round=>
  obtain⟨k,c,al,rfl,f,q,s⟩:=hrel;have t:c.length=k:=by rw[f.len,length_take,I.o];omega
  by_cases U:k<n
  ·have F:=ab.o.1.keep s;have K:=N.o k U wr q F;have Q:Ϛ (l.take (k+1)=l.take k++[l.getD k ϰ]):=J.o k U;obtain⟨x,G⟩:=nM (l.getD k ϰ);rw[G]at K Q;have r:Ϛ (OE wr w u6 c (l.take k)/\Ae wr R 124):=⟨f,q.tb⟩;have H:=hqz s;have i1:(0:Int)<=(k:Int):=Ϝ;have i2:(k:Int)<(n:Int):=Ϝ;have KH:Ϛ (CT 204 #[μ C] wr λe w'=>(∃m:EM,e= .returned m.val/\OR w' wr.heap.size m x)/\RR w' R ((l.drop (k+1)).flatMap B5++b)/\Ah R wr w'):=K;clear G f q s F K N J;go_wp2_with fail;refine KH.o.mono ?_;rintro e p ⟨⟨m,rfl,j⟩,X,D⟩;have u:Ϛ (OE p w u6 c (l.take k)):=OE.keptR r.o.1 D r.o.2;have z:Ϛ (OR p w.heap.size m x/\RR p R ((l.drop (k+1)).flatMap B5++b)/\Ah R w p):=⟨⟨j.key,j.time,j.seq,j.met,j.len,World.ownsRow.mono j.row H.o.1.size⟩,X,H.o.trans D⟩;have ae:w.heap.size<=p.heap.size:=Nat.le_trans H.o.1.size D.1.size;have aa:Ϛ (p.ownsRow w 166 5 u6 k (A0 c)):=by
    have:=u.o.own;rw[t]at this;exact this
   unfold EM.val hdV;clear j X D;go_wp2_with (at_builtin;refine jn.Fe rfl (.tmp 16) (.tmp 19) rfl w.heap.size u6 c m.key m.time m.seq m.row.1 m.row.2.1 m.row.2.2 m.met p k t aa.o Ϝ ae rfl rfl ?_;intro g aj w4 ah O);have Y:=Ld (e:=m) (x:=x) u.o bR z.o.1 (by rw[t];exact ah) O;have ag:u6.ownBlock≠some R:=λe=>tyAt_apart z.o.2.1.tb (Ay u.o.own e) ϝ rfl;have ai:=z.o.2.1.grown O ag;have af:=GO z.o.2.2 O (λg e=>(A5 u.o.own e).1);rw[t]at Y;go_wp2;go_roundw
   case rel=>exact⟨k+1,c++[m],Ϝ,by go_num,by rw[Q.o];exact Y.1,ai,af⟩
   case measure=>simp[intOf];omega
  ·have d:k=n:=Ϝ;subst d;have i2:¬((k:Int)<(k:Int)):=Ϝ;rw[take_of_length_le (by rw[I.o];exact Nat.le_refl _)]at f;rw[drop_of_length_le (by rw[I.o];exact Nat.le_refl _)]at q;obtain⟨A,B,Z⟩:=f.form;rw[t]at Z;have r:Ϛ (OE wr w u6 c l/\RR wr R b/\Ah R w wr):=⟨f,q,s⟩;clear f q s;subst Z;go_wp2;go_ret;exact⟨⟨A,B,rfl,c,r.o.1⟩,r.o.2⟩
def G1(C:Nat):Value:=.func (.func 204) #[] #[μ C]
structure GP(w:World)(D C R:Nat):Prop where
 cell:Δ w D 0 (G1 C)
 ne:D≠R
 lt:D<w.heap.size
theorem GP.keep{D:Nat}(h:GP w D C R)(c:Ah R w w'):GP w' D C R:=⟨(cOb (w:=w) (a:=⟨D,0,none⟩) (c.2 D h.lt h.ne)).trans h.cell,h.ne,Nat.lt_of_lt_of_le h.lt c.1.size⟩
theorem WY(R C D:Nat)(l:List Ent)(b:List UInt8)(w:Ϙ)(h:RR w R (AG l++b))(g:RP w C R)(k:GP w D C R)(q:∀x∈l,okR x)(m:l.length<=10000)(t:b.length<=10000000):
 η 208 #[μ C,μ D] w λe w'=>(∃c d f,e= .returned (vS c l.length d)/\OE w' w (vS c l.length d) f l)/\RR w' R b/\Ah R w w':=by
 have j:Ϛ (CT 206 #[μ R,G1 C] w λe w'=>(∃c d f,e= .returned (vS c l.length d)/\OE w' w (vS c l.length d) f l)/\RR w' R b/\Ah R w w'):=N6 R C l b w h g q m t;have E:=g.cell;have r:=k.cell;unfold G1 at j r;have A:=g.lt;have B:=k.lt;obtain⟨n,p⟩:=nM l.length;rw[p]at j⊢;clear h g k q m p;go_enter func208,ntmps208;go_wp2_with fail;refine j.o.mono ?_;rintro e w1 ⟨⟨c,d,f,rfl,u⟩,z,s⟩;go_wp2;go_ret;exact⟨⟨c,d,f,rfl,u⟩,z,s⟩
structure RS(w:World)(base:Nat)(v:Value)(ps:List Part)(l:List (List Ent)):Prop where
 own:w.ownsRow base 33 1 v ps.length (ps.map λp=>hdV p.1)
 len:ps.length=l.length
 runs:∀i,i<l.length->(ps.getD i ϰ).1.2.1=(l.getD i ϰ).length/\OE w base (hdV (ps.getD i ϰ).1) (ps.getD i ϰ).2 (l.getD i ϰ)
theorem RS.keptR(h:RS w base v ps l)(f:Ah R w w')(c:Ae w R 124):RS w' base v ps l:=
 ⟨As h.own (λg d=>f.2 g (A5 h.own d).2 (tyAt_apart (Ay h.own d) c ϝ)),h.len,λi e=>⟨(h.runs i e).1,OE.keptR (h.runs i e).2 f c⟩⟩
theorem Aaz(w:Ϙ)(base:Nat):RS w base (vS none 0 0) [] []:=⟨World.ownsRow_nil _ _ _ _,rfl,λi c=>absurd c (Nat.not_lt_zero i)⟩
theorem YX{v':Value}{p:Part}{r:List Ent}(h:RS w base v ps l)(D:OE w base (hdV p.1) p.2 r)(z:p.1.2.1=r.length)(f:(w.alloc o).grownBy w2 v.ownBlock)(x:w2.ownsRow base 33 1 v' (ps.length+1) ((ps.map λp=>hdV p.1)++[hdV p.1])):RS w2 base v' (ps++[p]) (l++[r]):=by
 have A:w.heap.size<=w2.heap.size:=by have:=f.size;simp at this;omega
 have n:∀{u:Value} {d:List EM} {q:List Ent},OE w base u d q->OE w2 base u d q:=λ{u d q} k=>k.same A (λg E t j B=>Du (bR.alloc nR o) f (A6 ⟨_,_,j⟩) (λe=>by
  have s:=Ay h.own e;refine tyAt_apart ⟨_,_,j⟩ s ?_ rfl;rcases B with⟨_,rfl⟩|rfl
  ·decide
  ·decide))
 refine⟨by rw[lAp,map_append];exact x,by rw[lAp,lAp,h.len];rfl,λi m=>?_⟩;rw[lAp]at m;by_cases c:i<l.length
 ·rw[AK (by rw[h.len];exact c),AK c];exact⟨(h.runs i c).1,n (h.runs i c).2⟩
 ·have:i=l.length:=by simp at m;omega
  subst this;rw[AB (by rw[h.len];exact Nat.le_refl _),AB nR,h.len,Nat.sub_self];exact⟨z,n D⟩
theorem N7(h:∀r∈l,∀x∈r,okR x):(l.flatMap AG).length<=8 * l.length+4000 * l.flatten.length:=by
 induction l with
 |nil=>simp
 |cons x l ih=>
  have e:=JY (h x (mem_cons_self ..));have c:=ih (λy d=>h y (mem_cons_of_mem _ d));rw[flatMap_cons,lAp,length_cons,flatten_cons,lAp];unfold AG at c⊢;rw[lAp,Az];omega
theorem YY:(Tryz.prog.info? 33).map (λi=>(i.zero,i.size,i.bytes))=some (some (vS none 0 0),1,24):=ϟ
theorem JZ{α:Type}(l:List (List α))(k:Nat):(l.drop k).flatten.length<=l.flatten.length:=by
 have:=congrArg (λz=>z.flatten.length) (take_append_drop k l)
 try dsimp only at this
 rw[flatten_append,lAp]at this;omega
theorem UA(R C D:Nat)(l:List (List Ent))(b:List UInt8)(w:Ϙ)(h:RR w R (C2 l++b))(hp:RP w C R)(Z:GP w D C R)(I:∀r∈l,∀x∈r,okR x)(hn:l.length<=1000)(hf:l.flatten.length<=1000)(hm:b.length<=5000000):
 η 207 #[μ R,.func (.func 208) #[] #[μ C,μ D]] w λe w'=>(∃c d ps,e= .returned (vS c l.length d)/\RS w' w.heap.size (vS c l.length d) ps l)/\RR w' R b/\Ah R w w':=by
 have ak:=N7 I;have O:Ϛ (CT 82 #[μ R] w λe w'=>e= .returned (vI l.length)/\RR w' R (l.flatMap AG++b)/\Ah R w w'):=BN R l.length _ w (by unfold C2 at h;rw[append_assoc]at h;exact h) Ϝ (by rw[lAp];omega);have KM:=hIz (λso (w1:Ϙ) (h:so=true)=>EO R so w1 h);have P:Ϛ (∀k,k<l.length->∀w1,RR w1 R ((l.drop k).flatMap AG++b)->RP w1 C R->GP w1 D C R->CT 208 #[μ C,μ D] w1 λe w'=>(∃c d j,e= .returned (vS c (l.getD k ϰ).length d)/\OE w' w1 (vS c (l.getD k ϰ).length d) j (l.getD k ϰ))/\RR w' R ((l.drop (k+1)).flatMap AG++b)/\Ah R w1 w'):=λk f w1 Y ap al=>by
  rw[JW AG l k f]at Y;have h2:=N7 (l:=l.drop (k+1)) (λx J=>I x (List.mem_of_mem_drop J));have h3:=JZ l (k+1);have h4:=Gm (AO f);rw[length_drop]at h2;exact WY R C D _ _ w1 Y ap al (I _ (AO f)) Ϝ (by rw[lAp];omega)
 have N:Ϛ (∀k,k<l.length->l.take (k+1)=l.take k++[l.getD k ϰ]):=λk f=>by
  rw[take_succ_eq_append_getElem f];simp[gDe,f]
 have V:Ϛ (RP w C R/\GP w D C R):=⟨hp,Z⟩;obtain⟨B,hi,ag,ah,ai⟩:=info_parts YY;have E:Ϛ (Tryz.prog.info? 33=some B/\B.zero=some (vS none 0 0)/\B.size=1/\B.bytes=24):=⟨hi,ag,ah,ai⟩;obtain⟨n,U⟩:=nM l.length;have M:=hqz U;rw[U]at O P N hn⊢;clear h hp Z I ak U hi ag ah ai hf;go_enter func207,ntmps207;go_wp2_with fail;refine O.o.mono ?_;rintro e w1 ⟨rfl,ae,aa⟩;have X:Ϛ (RR w1 R (l.flatMap AG++b)/\Ah R w w1):=⟨ae,aa⟩;have au:(0:Int)<=(n:Int):=Ϝ;clear ae aa O;go_wp2_with (go_at_call 139;refine(KM.o _ _ Ϟ).mono ?_;rintro e w2 ⟨rfl,rfl⟩)
 go_loopw [6,14] (λv i wr=> ∃(k:Nat) (ps:List Part),k<=n/\i=vI k/\RS wr w.heap.size v ps (l.take k)/\RR wr R ((l.drop k).flatMap AG++b)/\Ah R w wr) (λ_ i _=>n - (intOf i).toNat)
 case atStart=>exact⟨0,[],Nat.zero_le _,rfl,Aaz _ _,by rw[List.drop_zero];exact X.o.1,X.o.2⟩
 case round=>
  obtain⟨k,ps,av,rfl,q,z,t⟩:=hrel;have S:ps.length=k:=by rw[q.len,length_take,M.o];omega
  by_cases ab:k<n
  ·have K:=P.o k ab wr z (V.o.1.keep t) (V.o.2.keep t);have W:Ϛ (l.take (k+1)=l.take k++[l.getD k ϰ]):=N.o k ab;obtain⟨x,J⟩:=nM (l.getD k ϰ);rw[J]at K W;obtain⟨m,T⟩:=nM x.length;have HM:=hqz T;rw[T]at K;have A:Ϛ (RS wr w.heap.size u6 ps (l.take k)/\Ae wr R 124):=⟨q,z.tb⟩;have L:=hqz t;have i1:(0:Int)<=(k:Int):=Ϝ;have i2:(k:Int)<(n:Int):=Ϝ;have KH:Ϛ (CT 208 #[μ C,μ D] wr λe w'=>(∃c d j,e= .returned (vS c m d)/\OE w' wr (vS c m d) j x)/\RR w' R ((l.drop (k+1)).flatMap AG++b)/\Ah R wr w'):=K;clear J T q z t K P N;go_wp2_with fail;refine KH.o.mono ?_;rintro e s ⟨⟨c,d,j,rfl,ac⟩,af,H⟩;have F:Ϛ (RS s w.heap.size u6 ps (l.take k)):=RS.keptR A.o.1 H A.o.2;have G:Ϛ (OE s w (vS c m d) j x/\RR s R ((l.drop (k+1)).flatMap AG++b)/\Ah R w s):=⟨ac.mono L.o.1.size,af,L.o.trans H⟩;have ar:w.heap.size<=s.heap.size:=Nat.le_trans L.o.1.size H.1.size;have aj:Ϛ (s.ownsRow w 33 1 u6 k (ps.map λp=>hdV p.1)):=by
    have:=F.o.own;rw[S]at this;exact this
   clear ac af H;go_wp2_with (at_builtin;refine wpList_append_own _ rfl (.tmp 16) (.tmp 19) 34 rfl w.heap.size 33 B (vS none 0 0) 1 24 underlying34 E.o.1 E.o.2.1 E.o.2.2.1 E.o.2.2.2 rfl ϝ _ _ _ rfl (World.ownsRow.alloc aj.o _) ⟨s,0,none⟩ 1 1 [vS c m d] rfl rfl (bf.cell_one_new _ _ rfl _) (by intro u hu;simp at hu;rcases hu with rfl;rfl) Ϧ Ϝ ϡ ?_;intro v4 w4 ao Q _);have hs:=YX (v':=v4) (p:=((c,m,d),j)) (r:=x) F.o G.o.1 HM.o.symm Q (by rw[S];exact ao);have an:u6.ownBlock≠some R:=λe=>tyAt_apart G.o.2.1.tb (Ay F.o.own e) ϝ rfl;have aq:=G.o.2.1.grown Q an;have am:=GO G.o.2.2 Q (λg e=>(A5 F.o.own e).1);go_wp2;go_roundw
   case rel=>exact⟨k+1,ps++[((c,m,d),j)],Ϝ,by go_num,by rw[W.o];exact hs,aq,am⟩
   case measure=>simp[intOf];omega
  ·have f:k=n:=Ϝ;subst f;have i2:¬((k:Int)<(k:Int)):=Ϝ;rw[take_of_length_le (by rw[M.o];exact Nat.le_refl _)]at q;rw[drop_of_length_le (by rw[M.o];exact Nat.le_refl _)]at z;obtain⟨c,d,hv⟩:=Oi q.own;rw[S]at hv;have A:Ϛ (RS wr w.heap.size u6 ps l/\RR wr R b/\Ah R w wr):=⟨q,z,t⟩;clear q z t;subst hv;go_wp2;go_ret;exact⟨⟨c,d,rfl,ps,A.o.1⟩,A.o.2⟩
end cd
namespace cd
variable {a b i : Nat} {l : List UInt8} {y : UInt8}
theorem Lg{k:Nat}(h:a ^^^ k=b ^^^ k):a=b:=by
 have e:=congrArg (λz=>z ^^^ k) h;simp only[Nat.xor_assoc,Nat.xor_self,Nat.xor_zero]at e;exact e
theorem Tf(h:a<2147483648):(a ^^^ 3988292384).testBit 31=true/\a.testBit 31=false:=by
 have c:a.testBit 31=false:=Nat.testBit_lt_two_pow (by simpa using h);exact⟨by rw[Nat.testBit_xor,c];rfl,c⟩
theorem Je(ha:a<4294967296)(m:b<4294967296)(h:bitS a=bitS b):a=b:=by
 have j:a>>>1=a/2:=Nat.shiftRight_eq_div_pow a 1;have k:b>>>1=b/2:=Nat.shiftRight_eq_div_pow b 1;have f:a/2<2147483648:=Ϝ;have g:b/2<2147483648:=Ϝ;unfold bitS at h;rw[j,k]at h;by_cases c:a % 2=1<;>by_cases d:b % 2=1
 ·rw[if_pos c,if_pos d]at h;have:=Lg h;omega
 ·rw[if_pos c,if_neg d]at h;have e:=(Tf f).1;rw[show a/2 ^^^ 3988292384=b/2 from h,(Tf g).2]at e
  cases e
 ·rw[if_neg c,if_pos d]at h;have e:=(Tf g).1;rw[show b/2 ^^^ 3988292384=a/2 from h.symm,(Tf f).2]at e
  cases e
 ·rw[if_neg c,if_neg d]at h;omega
theorem Qf(ha:a<4294967296)(c:b<4294967296)(h:nibS a=nibS b):a=b:=by
 rw[Jd,Jd]at h;unfold four at h;have l (n:Nat) (d:n<4294967296):bitS n<4294967296:=SF d;exact Je ha c (Je (l _ ha) (l _ c) (Je (l _ (l _ ha)) (l _ (l _ c)) (Je (l _ (l _ (l _ ha))) (l _ (l _ (l _ c))) h)))
theorem WZ(x y:UInt8)(ha:a<4294967296)(e:b<4294967296)(h:sumS a x=sumS b y):a ^^^ x.toNat=b ^^^ y.toNat:=by
 have c:a ^^^ x.toNat<4294967296:=D7 ha (by have:=x.toNat_lt;omega);have d:b ^^^ y.toNat<4294967296:=D7 e (by have:=y.toNat_lt;omega);exact Qf c d (Qf (IG c) (IG d) h)
theorem Qg:∀(l:List UInt8) (c d:Nat),c<4294967296->d<4294967296->l.foldl sumS c=l.foldl sumS d->c=d
 |[],_,_,_,_,h=>h
 |x::l,c,d,hc,hd,h=>Lg (WZ x x hc hd (Qg l _ _ (He hc x) (He hd x) h))
theorem N8:∀(l:List UInt8) (c i:Nat) (y:UInt8),c<4294967296->i<l.length->(l.set i y).foldl sumS c=l.foldl sumS c->l[i]? =some y
 |[],_,i,_,_,hi,_=>absurd hi (Nat.not_lt_zero i)
 |x::l,c,0,y,hc,_,h=>by
  have e:=WZ y x hc hc (Qg l _ _ (He hc y) (He hc x) h);rw[Nat.xor_comm c,Nat.xor_comm c]at e;have d:y=x:=UInt8.toNat_inj.1 (Lg e);rw[d];rfl
 |x::l,c,i+1,y,hc,hi,h=>by
  have:=N8 l (sumS c x) i y (He hc x) (by simpa using hi) h;simpa using this
theorem Xa(c:i<l.length)(h:crc (l.set i y)=crc l):l[i]? =some y:=N8 l _ i y ϝ c (Lg h)
theorem Aa0(ha:a<4294967296)(n:b<4294967296)(h:w4 a=w4 b):a=b:=by
 unfold w4 at h;injection h with g h
 injection h with j h
 injection h with k h
 injection h with m _
 have c:=congrArg UInt8.toNat g;have d:=congrArg UInt8.toNat j;have e:=congrArg UInt8.toNat k;have f:=congrArg UInt8.toNat m;simp only[UInt8.toNat_ofNat']at c d e f;omega
theorem Qh(c:i<l.length)(h:l.set i y=l):l[i]? =some y:=by
 rw[<-h,List.getElem?_set_self c]
theorem O4(l:List UInt8):(ahd l).length=l.length+4:=by
 unfold ahd;rw[lAp,Ep];omega
theorem Aa1(h:l.length<=1048576):Hz l=(ahd l++w4 (crc (ahd l)),0):=if_neg Ϝ
theorem UB{f:List UInt8}(j:f.length=l.length+8)(h:(EP f).2=0):f.take 4=w4 l.length/\f.drop (l.length+4)=w4 (crc (f.take (l.length+4))):=by
 have g:(bodyL f).length=l.length:=by
  unfold bodyL;rw[length_drop,length_take,j];omega
 have m:f.length - 4=l.length+4:=Ϝ;unfold EP at h;rw[if_neg Ϝ,g,m]at h;by_cases d:1048576<l.length
 ·rw[if_pos d]at h
  cases h
 rw[if_neg d]at h;by_cases c:f.take 4=w4 l.length
 ·rw[if_neg (λk=>k c)]at h;by_cases e:f.drop (l.length+4)=w4 (crc (f.take (l.length+4)))
  ·exact⟨c,e⟩
  ·rw[if_pos e]at h
   cases h
 ·rw[if_pos c]at h
  cases h
theorem YZ(h:l.length<=1048576):EP (ahd l++w4 (crc (ahd l)))=(l,0):=by
 have c:=O4 l;have j:(ahd l++w4 (crc (ahd l))).length=l.length+8:=by rw[lAp,c,Ep]
 have e:(ahd l++w4 (crc (ahd l))).take (l.length+4)=ahd l:=by rw[<-c,take_left]
 have g:(ahd l++w4 (crc (ahd l))).drop (l.length+4)=w4 (crc (ahd l)):=by rw[<-c,drop_left]
 have d:(ahd l++w4 (crc (ahd l))).length - 4=l.length+4:=Ϝ;have f:bodyL (ahd l++w4 (crc (ahd l)))=l:=by
  unfold bodyL;rw[d,e];rfl
 unfold EP;rw[f,d,e,g,if_neg Ϝ,if_neg Ϝ,if_neg (λk=>k rfl),if_neg (λk=>k rfl)]
theorem Xb(r:l.length<=1048576)(q:i<l.length+8)(h:(EP ((ahd l++w4 (crc (ahd l))).set i y)).2=0):(ahd l++w4 (crc (ahd l)))[i]? =some y:=by
 have c:=O4 l;have n:(ahd l++w4 (crc (ahd l))).length=l.length+8:=by rw[lAp,c,Ep]
 have k:(ahd l++w4 (crc (ahd l))).take (l.length+4)=ahd l:=by rw[<-c,take_left]
 have j:(ahd l++w4 (crc (ahd l))).drop (l.length+4)=w4 (crc (ahd l)):=by rw[<-c,drop_left]
 have g:(ahd l++w4 (crc (ahd l))).take 4=w4 l.length:=rfl;obtain⟨m,d⟩:=UB (l:=l) (by rw[length_set,n]) h;by_cases e:i<4
 ·rw[take_set,g]at m;have:=Qh (by rw[Ep];exact e) m;rw[<-this,<-g,getElem?_take,if_pos e]
 ·by_cases f:i<l.length+4
  ·rw[List.drop_set_of_lt f,j,take_set,k]at d;have:=Xa Ϝ (Aa0 (JH _) (JH _) d).symm;rw[getElem?_append_left Ϝ];exact this
  ·have p:(ahd l).set i y=ahd l:=List.set_eq_of_length_le Ϝ;rw[List.drop_set,if_neg f,j,take_set,k,p]at d;have:=Qh (by rw[Ep];omega) d;rw[getElem?_append_right Ϝ,c];exact this
end cd
end Go.Proofs.YtfkihidbnfkbaaaGreatDoor
