import Derived.Test.YtfkihidbnfkbaaaGreatDoorPb5
set_option linter.all false
set_option maxHeartbeats 8000000
open Go.ChangeShapes Go.WideShapes Go.ChangeAt Go.RowKit Go.Shelf List
open Inhabited renaming default->ϰ
namespace Go.Proofs.YtfkihidbnfkbaaaGreatDoor
open Go.Proofs.Tryz
namespace bf
open vl
attribute [local go_sem] Oper.semAt_some
variable {B M b i n o : Nat} {W W' : ϙ} {v : Value} {l : List Ent} {ps : List Plc}
def Bd(x:Ent):Plc:=(x.key,x.time,x.seq)
theorem Yb{a b:Ent}:Bd a=Bd b↔Ea a b:=by
 unfold Bd Ea;simp[Prod.mk.injEq]
def hasB(l:List Ent)(p:Plc):Bool:=l.any λx=>decide (Bd x=p)
def Fy:Nat->Obj->Prop:=λ_ _=>True
theorem Af:names Fy W b:=λ_ _=>trivial
theorem Cf(h:Below n W W')(c:W.heap.size<=n):Aq Fy W W':=λb o a _ _=>(h.block b (by have:=(Array.getElem?_eq_some_iff.1 a).1;omega)).trans a
theorem Gs{w V:ϙ}{b:Buf}{x:BX}(h:bufAt w b x)(u:Ϝ w V)(B:Nat)(d:Nat->Obj->Prop)(j:Δ V B 0 (vI b.lim))(m:Δ V B 1 (hdV x.m.1))(q:Δ V B 2 (vS x.ra x.rs.length x.rc))
 (t:names d V B) (k:∀b,b<w.heap.size->names d V b)
 (r:∀b c f,V.heap.size<=b->d b (.cells c 36 f)) (s:∀b c f,V.heap.size<=b->d b (.cells c 247 f)):
 Zj Tryz.prog 276 #[μ B] ((ems (x.m::x.rs)).map λe=>#[e.val]) (Aq d) V:=
 Z5 B b.lim x.ra x.rc x.m x.rs d V (AdC (An h u) j m q) t (λa ha A=>k _ (AcL h ha A)) (λp z a j ha=>by
  obtain⟨C,o,e,y,_⟩:=h.ems p z 0 j;rw[ha]at e;cases e;exact k _ (bLt _ _ y)) r s
theorem BH(h:Ϝ W W'):KeepsFrom B W W':=⟨h.size,λk o _ a _=>(h.block k (Array.getElem?_eq_some_iff.1 a).1).trans a⟩
theorem Cu{D:Nat}{x:Obj}(h:Δ W b o v)(c:W.heap[D]? =some x)(d:x.isCells=false)(a:Obj):Δ (W.putObj D a) b o v:=
 cell_kept h (grownBy_putObj' W D a) (λr e=>by cases e;exact⟨x,c,d⟩)
theorem Ac5(b:Buf)(x:BX)(p:Plc)(w:ϙ)(h:bufAt w b x):
 η 350 #[AZ b x,BC p] w (θ w (.bool (hasB (Ac b) p))):=by
 have HB:ϛ (bufAt w b x):=h;have HE:=D8 h;have aa:ϛ (ERs w (ems (x.m::x.rs)) (Ac b)):=HE;obtain⟨L,hL⟩:=nM (Ac b);rw[hL]at aa⊢;clear hL h HE;obtain⟨R,hR⟩:=nM (hasB L p);have ah:ϛ (hasB L p=R):=hR;rw[hR];clear hR;obtain⟨q,s,⟨⟨a,d,f⟩,ml⟩,rs⟩:=x;obtain⟨m,au,av⟩:=b;obtain⟨y,C,ps⟩:=p;unfold AZ hdV BC;dsimp only at aa⊢;obtain⟨n,hn⟩:∃n,rs.length=n:=⟨_,rfl⟩;have HN:ϛ (rs.length=n):=hn;rw[hn];clear hn;refine(callsIn_wide (n:=0)).1 ?_;refine callsIn_of_wp_marks func350 rfl trivial ?_ rfl;simp only[ntmps350,size_toArray,length_cons,length_nil,Nat.reduceAdd,Nat.reduceSub,Array.replicate_succ,Array.replicate_zero,push_toArray,append_toArray,nil_append,cons_append]
 gi_wp2_with (refine⟨trivial,rfl,?_⟩;gi_at_call 237;refine(callsIn_wide.2 (Ir _ _ _ rfl rfl rfl _)).mono ?_;rintro e w' ⟨rfl,rfl⟩)
 have V0:Δ (ξ (ξ (ξ (ξ w (ν m a d f q n s) 36) #[.string y,vI C,vI ps] 340) #[ϋ] 4) (ν m a d f q n s) 36) (w+1) 0 (.string y):=ϡ;have V1:Δ (ξ (ξ (ξ (ξ w (ν m a d f q n s) 36) #[.string y,vI C,vI ps] 340) #[ϋ] 4) (ν m a d f q n s) 36) (w+1) 1 (vI C):=ϡ;have V2:Δ (ξ (ξ (ξ (ξ w (ν m a d f q n s) 36) #[.string y,vI C,vI ps] 340) #[ϋ] 4) (ν m a d f q n s) 36) (w+1) 2 (vI ps):=ϡ;have V3:Δ (ξ (ξ (ξ (ξ w (ν m a d f q n s) 36) #[.string y,vI C,vI ps] 340) #[ϋ] 4) (ν m a d f q n s) 36) (w+1+1) 0 (.bool false):=ϡ;have V4:Ξ (ξ (ξ (ξ (ξ w (ν m a d f q n s) 36) #[.string y,vI C,vI ps] 340) #[ϋ] 4) (ν m a d f q n s) 36) (w+1+1) 0:=ϡ;have V5:Δ (ξ (ξ (ξ (ξ w (ν m a d f q n s) 36) #[.string y,vI C,vI ps] 340) #[ϋ] 4) (ν m a d f q n s) 36) (w+1+1+1) 0 (vI m):=ϡ;have V6:Δ (ξ (ξ (ξ (ξ w (ν m a d f q n s) 36) #[.string y,vI C,vI ps] 340) #[ϋ] 4) (ν m a d f q n s) 36) (w+1+1+1) 1 (vS a d f):=ϡ;have V7:Δ (ξ (ξ (ξ (ξ w (ν m a d f q n s) 36) #[.string y,vI C,vI ps] 340) #[ϋ] 4) (ν m a d f q n s) 36) (w+1+1+1) 2 (vS q n s):=ϡ;have V8:Ϝ w (ξ (ξ (ξ (ξ w (ν m a d f q n s) 36) #[.string y,vI C,vI ps] 340) #[ϋ] 4) (ν m a d f q n s) 36):=by
  repeat (first|exact bR|(refine Below.alloc ?_ Ϥ _))
 have V9:((((w.alloc (.cells (ν m a d f q n s) 36)).alloc (.cells #[.string y,vI C,vI ps] 340)).alloc (.cells #[ϋ] 4)).alloc (.cells (ν m a d f q n s) 36)).heap.size=w.heap.size+1+1+1+1:=ϟ;generalize ((((w.alloc (.cells (ν m a d f q n s) 36)).alloc (.cells #[.string y,vI C,vI ps] 340)).alloc (.cells #[ϋ] 4)).alloc (.cells (ν m a d f q n s) 36))=V at *;have af:=Gs HB.o V8 (w.heap.size+1+1+1) Fy V5 V6 (by rw[HN.o];exact V7) Af (λ_ _=>Af) (λ_ _ _ _=>trivial) (λ_ _ _ _=>trivial);dsimp only at af;obtain⟨E,N⟩:=nM (ems ((((a,d,f):Hdr),ml)::rs));rw[N]at af aa;clear N;refine Db (gf:=276) (lb:=#[.pointer (some ⟨w+1+1+1,0,none⟩)]) rfl (enters_of func276 Ϡ rfl) af bR (λx Q=>by obtain⟨p,_,rfl⟩:=mem_map.1 Q;rfl) (λh k=>Aq.trans h k) (λW l o o' _ h ho=>Aq.put W l o o' h ho)
  (λi X=>(∀j,j<i->Bd (L.getD j ϰ)≠(y,C,ps))/\Aq Fy V X/\Ξ X (w+1+1) 0/\Ϝ w X) (λc X=>c= .ret/\true=R/\Δ X (w+1+1) 0 (.bool true)/\Ϝ w X)
  (λi X X' aj H F G=>⟨H.1,H.2.1.grown F (λr e=>(G r e).2),(frozen_kept (H.2.1.cell Af V3) F (λr e=>(G r e).2)).trans H.2.2.1,CU H.2.2.2 nR ϝ F G⟩)
  (λc X X' aj H F G=>⟨H.1,H.2.1,cell_kept H.2.2.1 F (λr e=>(G r e).2),CU H.2.2.2 nR ϝ F G⟩)
  ⟨λj O=>absurd O (Nat.not_lt_zero j),Aq.refl _ _,V4,V8⟩
  (λi a' X=> ∃B,a'={tmps:=#[.agg #[vI m,vS a d f,vS q n s],.agg #[.string y,vI C,vI ps],.pointer (some ⟨w,0,none⟩),.pointer (some ⟨w+1,0,none⟩),.pointer (some ⟨w+1+1,0,none⟩),.pointer (some ⟨B,0,none⟩),.agg #[vI m,vS a d f,vS q n s],.func (.func 276) #[] #[.pointer (some ⟨w+1+1+1,0,none⟩)],(E.getD i ϰ).val,undef,undef,undef,undef],defers:=[]}/\ώ X B (.string (E.getD i ϰ).key) (vI (E.getD i ϰ).time) (vI (E.getD i ϰ).seq) (hdV (E.getD i ϰ).row) (.bool (E.getD i ϰ).met))
  (λi a' u X X' aj H F G=>by
   obtain⟨B,h1,h2,h3,h4,h5,h6⟩:=H;exact⟨B,h1,cell_kept h2 F (λr e=>(G r e).2),cell_kept h3 F (λr e=>(G r e).2),cell_kept h4 F (λr e=>(G r e).2),cell_kept h5 F (λr e=>(G r e).2),cell_kept h6 F (λr e=>(G r e).2)⟩) ?assign ?body ?done ?stop
 case assign=>
  intro l' k x X K Q hi U;obtain⟨hk,ai⟩:=List.getElem?_eq_some_iff.1 Q;rw[lMp]at hk;rw[getElem_map]at ai;subst ai;have hd:E.getD k ϰ=E[k]:=by rw[gDe,gEe hk];rfl
  have P:=U;rw[hd]at P;clear U hd Q;obtain⟨⟨T,et,es,⟨r1,r2,r3⟩,em⟩,hz⟩:∃z,E[k]=z:=⟨_,rfl⟩;rw[hz]at P⊢;unfold EM.val hdV at P⊢;dsimp only at P⊢;obtain⟨Y,I,j3,J⟩:=hi
  gi_wp2
  have lX:w.heap.size+1+1<X.heap.size:=bLt _ _ (I.cell Af V3);exact P _ _ ((KeepsOthers.alloc _ _).from _) (Aq.alloc _ _) ⟨Y,I.trans (Aq.alloc _ _),ϡ,J.alloc J.size _⟩ ⟨X.heap.size,rfl,ϡ,ϡ,ϡ,ϡ,ϡ⟩
 case body=>
  intro l' i x a' X Q ao ar an ae;obtain⟨Y,I,j3,J⟩:=an;obtain⟨B,ae,b0,b1,b2,b3,b4⟩:=ae;subst ae;obtain⟨hi,_⟩:=List.getElem?_eq_some_iff.1 Q;rw[lMp]at hi;have am:=aa.o.1;have ab:=aa.o.2 i ϝ;have KP:ϛ (∀w1,CT 275 #[(E.getD i ϰ).val] w1 (θ w1 (.agg #[.string (E.getD i ϰ).key,vI (E.getD i ϰ).time,vI (E.getD i ϰ).seq]))):=λw1=>Hp _ w1;have ac:Bd (L.getD i ϰ)=((E.getD i ϰ).key,(E.getD i ϰ).time,(E.getD i ϰ).seq):=by unfold Bd;rw[ab.key,ab.time,ab.seq]
  have ak:ϛ (L.getD i ϰ∈L):=by show _∈_;rw[gDe,gEe ϝ];simp
  obtain⟨⟨T,et,es,⟨r1,r2,r3⟩,em⟩,hz⟩:∃z,E.getD i ϰ=z:=⟨_,rfl⟩;rw[hz]at KP b0 b1 b2 b3 b4 ac⊢;unfold EM.val hdV at KP;unfold hdV at b3;dsimp only at KP b0 b1 b2 b3 b4 ac;have ag:ϛ (Bd (L.getD i ϰ)=(T,et,es)):=ac;have c0:=I.cell Af V0;have c1:=I.cell Af V1;have c2:=I.cell Af V2;have c3:=I.cell Af V3;have lX:w.heap.size+1+1<X.heap.size:=bLt _ _ c3;have ap:Tryz.prog.follows .mixedOrders=true:=Ϡ;clear hz ac ab am Q;by_cases N:(T,et,es)=(y,C,ps)
  ·have HE:ϛ (true=R):=by
    show _=_;rw[<-ah.o];exact(any_eq_true.2 ⟨_,ak.o,by rw[ag.o];simpa using N⟩).symm
   injection N with S al
   injection al with e2 e3
   subst S e2 e3
   gi_wp2
   gi_region_with_o (refine⟨trivial,rfl,?_⟩;gi_at_call 275;refine(CallsIn.inRound l' (callsIn_wide.2 (KP.o _))).mono ?_;rintro e Z ⟨rfl,t⟩;have k0:=cLz t c0;have k1:=cLz t c1;have k2:=cLz t c2;have k3:=cLz t c3;have kf:Ξ Z (w+1+1) 0:=(by rw[t.frozen (p:=⟨w+1+1,0,none⟩) lX];exact j3);have A:Ϝ X Z:=bR.drew.trans t)
   all_goals
    gi_wp2
    exact⟨(BH A).trans ((KeepsOthers.setCell _ _ _).from _),rfl,HE.o,World.cell?_setCell_same _ _ _ k3,(bT J A).setCell ϣ _⟩
  ·have aq:((T.toList==y.toList)&&((et==C)&&(es==ps)))=false:=by
    rw[bytes_beq];by_cases S:T=y
    ·by_cases e2:et=C
     ·have e3:es≠ps:=λe3=>N (by rw[S,e2,e3]);simp[S,e2,e3]
     ·simp[S,e2]
    ·simp[S]
   have ad:ϛ (Bd (L.getD i ϰ)≠(y,C,ps)):=by show _≠_;rw[ag.o];exact N
   by_cases t1:T.toList=y.toList
   ·by_cases t2:et=C
    ·have t3:(es==ps)=false:=by
      rw[beq_eq_false_iff_ne];intro e3;have S:T=y:=by have:=bytes_beq T y;rw[t1]at this;simpa using this.symm
      exact N (by rw[S,t2,e3])
     subst t2
     gi_wp2
     gi_region_with_o (refine⟨trivial,rfl,?_⟩;gi_at_call 275;refine(CallsIn.inRound l' (callsIn_wide.2 (KP.o _))).mono ?_;rintro e Z ⟨rfl,t⟩;have k0:=cLz t c0;have k1:=cLz t c1;have k2:=cLz t c2;have A:Ϝ X Z:=bR.drew.trans t)
     all_goals
      gi_wp2
      exact⟨BH A,Cf A nR,λj O=>by
       rcases Nat.lt_succ_iff_lt_or_eq.1 O with h|h
       ·exact Y j h
       ·rw[h];exact ad.o,I.trans (Cf A nR),by rw[A.frozen (p:=⟨w+1+1,0,none⟩) lX];exact j3,bT J A⟩
    ·have aw:(et==C)=false:=by simpa using t2
     gi_wp2
     gi_region_with_o (refine⟨trivial,rfl,?_⟩;gi_at_call 275;refine(CallsIn.inRound l' (callsIn_wide.2 (KP.o _))).mono ?_;rintro e Z ⟨rfl,t⟩;have k0:=cLz t c0;have k1:=cLz t c1;have k2:=cLz t c2;have A:Ϝ X Z:=bR.drew.trans t)
     all_goals
      gi_wp2
      exact⟨BH A,Cf A nR,λj O=>by
       rcases Nat.lt_succ_iff_lt_or_eq.1 O with h|h
       ·exact Y j h
       ·rw[h];exact ad.o,I.trans (Cf A nR),by rw[A.frozen (p:=⟨w+1+1,0,none⟩) lX];exact j3,bT J A⟩
   ·skip
    gi_wp2
    gi_region_with_o (refine⟨trivial,rfl,?_⟩;gi_at_call 275;refine(CallsIn.inRound l' (callsIn_wide.2 (KP.o _))).mono ?_;rintro e Z ⟨rfl,t⟩;have k0:=cLz t c0;have k1:=cLz t c1;have k2:=cLz t c2;have A:Ϝ X Z:=bR.drew.trans t)
    all_goals
     gi_wp2
     exact⟨BH A,Cf A nR,λj O=>by
      rcases Nat.lt_succ_iff_lt_or_eq.1 O with h|h
      ·exact Y j h
      ·rw[h];exact ad.o,I.trans (Cf A nR),by rw[A.frozen (p:=⟨w+1+1,0,none⟩) lX];exact j3,bT J A⟩
 case done=>
  rintro D X hD ⟨Y,I,j3,J⟩ U;have c3:=I.cell Af V3;have HE:ϛ (false=R):=by
   show _=_;rw[<-ah.o]
   symm
   rw[lMp]at Y;refine any_eq_false.2 (λx Q=>?_);obtain⟨j,O,rfl⟩:=getElem_of_mem Q;have:=Y j (by rw[aa.o.1];exact O);rw[gDe,gEe O]at this;simpa using this
  gi_wp2
  have P:(X.setCell ⟨w+1+1,0,none⟩ (.bool false)).heap[D]? =some (.deferred (some [])):=(heap_setCell_other _ _ _ _ ϣ).trans U;refine⟨ϟ,.inl ⟨_,_,rfl,run_takeDeferred P,?_⟩⟩;have y3:=Cu (World.cell?_setCell_same _ _ (.bool false) c3) P rfl (.deferred none);exact⟨.bool false,(by simp[results,results350,go_sem,y3]),Aa HE.o,Cq (J.setCell ϣ _) ϝ P _⟩
 case stop=>
  rintro D c X hD ⟨rfl,N,c3,J⟩ U
  gi_wp2
  refine⟨ϟ,.inl ⟨_,_,rfl,run_takeDeferred U,?_⟩⟩;have y3:=Cu c3 U rfl (.deferred none);exact⟨.bool true,(by simp[results,results350,go_sem,y3]),Aa N,Cq J ϝ U _⟩
def Ib(l:List Ent):Bool:=decide ((l.map Bd).Nodup)
def D9(l:List Ent)(i:Nat):List Plc:=(l.take i).map Bd
theorem Lq(h:i<l.length):D9 l (i+1)=D9 l i++[Bd (l.getD i ϰ)]:=by
 unfold D9;rw[take_succ_eq_append_getElem h,map_append,gDe,gEe h];rfl
theorem Uq(h:(D9 l l.length).Nodup):Ib l=true:=by
 unfold D9 at h;rw[take_length]at h;exact decide_eq_true h
theorem Aec(h:i<l.length)(c:Bd (l.getD i ϰ)∈D9 l i):Ib l=false:=by
 refine decide_eq_false (λa=>?_);have e:l.map Bd=D9 l (i+1)++(l.drop (i+1)).map Bd:=by
  unfold D9;rw[<-map_append,take_append_drop]
 rw[e,Lq h]at a;have:=(nodup_append.1 (nodup_append.1 a).1).2.2 _ c _ (mem_singleton.2 rfl);exact this rfl
theorem Ur(h:i<l.length)(f:(D9 l i).Nodup)(d:Bd (l.getD i ϰ) ∉ D9 l i):(D9 l (i+1)).Nodup:=by
 rw[Lq h];refine nodup_append.2 ⟨f,ϟ,λa ha b c=>?_⟩;rw[mem_singleton.1 c];exact λe=>d (by rw[<-e];exact ha)
theorem FH(h:Df W M ps)(c:Below n W W')(a:M<n):Df W' M ps:=(c.block M a).trans h
theorem S7(a:W.grownBy W' (some M))(c:M<B):KeepsFrom B W W':=⟨a.size,λk o d h _=>(a.block k (Array.getElem?_eq_some_iff.1 h).1 (λe=>by cases e;omega)).trans h⟩
theorem AaA{a:Nat->Obj->Prop}(d:Df W M ps)(c:W.grownBy W' (some M)):Aq a W W':=(Aq.refl a W).grown c (λr e=>by cases e;exact⟨_,d,rfl⟩)
theorem cell_grown(c:Df W M ps)(a:W.grownBy W' (some M))(h:Δ W b o v):Δ W' b o v:=cell_kept h a (λr e=>by cases e;exact⟨_,c,rfl⟩)
theorem NH(d:Df W M ps)(c:W.grownBy W' (some M))(h:Δ W b o v)(a:Ξ W b o):Ξ W' b o:=(frozen_kept h c (λr e=>by cases e;exact⟨_,d,rfl⟩)).trans a
theorem Yc(b:Buf)(x:BX)(w:ϙ)(h:bufAt w b x)(hw:∀y∈Ac b,wfP (Bd y)):
 η 236 #[AZ b x] w (θ w (.bool (!Ib (Ac b)))):=by
 have HB:ϛ (bufAt w b x):=h;have aa:ϛ (ERs w (ems (x.m::x.rs)) (Ac b)):=D8 h;obtain⟨L,hL⟩:=nM (Ac b);rw[hL]at aa hw⊢;have HW:ϛ (∀y∈L,wfP (Bd y)):=hw;clear hL h hw;obtain⟨R,hR⟩:=nM (!Ib L);have al:ϛ ((!Ib L)=R):=hR;rw[hR];clear hR;obtain⟨q,s,⟨⟨d,f,j⟩,ml⟩,rs⟩:=x;obtain⟨m,a0,a1⟩:=b;unfold AZ hdV;dsimp only at aa⊢;obtain⟨n,hn⟩:∃n,rs.length=n:=⟨_,rfl⟩;have HN:ϛ (rs.length=n):=hn;rw[hn];clear hn;have au:=@run_makeMap Tryz.prog;refine(callsIn_wide (n:=0)).1 ?_;refine callsIn_of_wp_marks func236 rfl trivial ?_ rfl;simp only[ntmps236,size_toArray,length_cons,length_nil,Nat.reduceAdd,Nat.reduceSub,Array.replicate_succ,Array.replicate_zero,push_toArray,append_toArray,nil_append,cons_append]
 gi_wp2_with (refine⟨trivial,rfl,?_⟩;gi_at_call 237;refine(callsIn_wide.2 (Ir _ _ _ rfl rfl rfl _)).mono ?_;rintro e w' ⟨rfl,rfl⟩)
 have V0:Δ (ξ (ξ (((w.alloc (.cells (ν m d f j q n s) 36)).alloc (.cells #[ϋ] 4)).alloc (.map #[] 0)) #[.map (some (w.heap.size+1+1))] 338) (ν m d f j q n s) 36) (w+1+1+1) 0 (.map (some (w.heap.size+1+1))):=ϡ;have V2:Df (ξ (ξ (((w.alloc (.cells (ν m d f j q n s) 36)).alloc (.cells #[ϋ] 4)).alloc (.map #[] 0)) #[.map (some (w.heap.size+1+1))] 338) (ν m d f j q n s) 36) (w.heap.size+1+1) []:=by
  show(((((w.alloc (.cells (ν m d f j q n s) 36)).alloc (.cells #[ϋ] 4)).alloc (.map #[] 0)).alloc (.cells #[.map (some (w.heap.size+1+1))] 338)).alloc (.cells (ν m d f j q n s) 36)).heap[w.heap.size+1+1]? =some (.map #[] 0);have h:=World.alloc_heap_new (ξ (ξ w (ν m d f j q n s) 36) #[ϋ] 4) (.map #[] 0);rw[World.size_alloc,World.size_alloc]at h;rw[Below.heap_alloc _ _ _ ϟ,Below.heap_alloc _ _ _ ϟ];exact h
 have V3:Δ (ξ (ξ (((w.alloc (.cells (ν m d f j q n s) 36)).alloc (.cells #[ϋ] 4)).alloc (.map #[] 0)) #[.map (some (w.heap.size+1+1))] 338) (ν m d f j q n s) 36) (w+1) 0 (.bool false):=ϡ;have V4:Ξ (ξ (ξ (((w.alloc (.cells (ν m d f j q n s) 36)).alloc (.cells #[ϋ] 4)).alloc (.map #[] 0)) #[.map (some (w.heap.size+1+1))] 338) (ν m d f j q n s) 36) (w+1) 0:=ϡ;have V5:Δ (ξ (ξ (((w.alloc (.cells (ν m d f j q n s) 36)).alloc (.cells #[ϋ] 4)).alloc (.map #[] 0)) #[.map (some (w.heap.size+1+1))] 338) (ν m d f j q n s) 36) (w+1+1+1+1) 0 (vI m):=ϡ;have V6:Δ (ξ (ξ (((w.alloc (.cells (ν m d f j q n s) 36)).alloc (.cells #[ϋ] 4)).alloc (.map #[] 0)) #[.map (some (w.heap.size+1+1))] 338) (ν m d f j q n s) 36) (w+1+1+1+1) 1 (vS d f j):=ϡ;have V7:Δ (ξ (ξ (((w.alloc (.cells (ν m d f j q n s) 36)).alloc (.cells #[ϋ] 4)).alloc (.map #[] 0)) #[.map (some (w.heap.size+1+1))] 338) (ν m d f j q n s) 36) (w+1+1+1+1) 2 (vS q n s):=ϡ;have V8:Ϝ w (ξ (ξ (((w.alloc (.cells (ν m d f j q n s) 36)).alloc (.cells #[ϋ] 4)).alloc (.map #[] 0)) #[.map (some (w.heap.size+1+1))] 338) (ν m d f j q n s) 36):=by
  repeat (first|exact bR|(refine Below.alloc ?_ Ϥ _))
 have V9:(((((w.alloc (.cells (ν m d f j q n s) 36)).alloc (.cells #[ϋ] 4)).alloc (.map #[] 0)).alloc (.cells #[.map (some (w.heap.size+1+1))] 338)).alloc (.cells (ν m d f j q n s) 36)).heap.size=w.heap.size+1+1+1+1+1:=ϟ;generalize (((((w.alloc (.cells (ν m d f j q n s) 36)).alloc (.cells #[ϋ] 4)).alloc (.map #[] 0)).alloc (.cells #[.map (some (w.heap.size+1+1))] 338)).alloc (.cells (ν m d f j q n s) 36))=V at *;have ak:=Gs HB.o V8 (w.heap.size+1+1+1+1) Fy V5 V6 (by rw[HN.o];exact V7) Af (λ_ _=>Af) (λ_ _ _ _=>trivial) (λ_ _ _ _=>trivial);dsimp only at ak;obtain⟨E,hE⟩:=nM (ems ((((d,f,j):Hdr),ml)::rs));rw[hE]at ak aa;clear hE au;refine Db (gf:=276) (lb:=#[.pointer (some ⟨w+1+1+1+1,0,none⟩)]) rfl (enters_of func276 Ϡ rfl) ak bR (λx hx=>by obtain⟨p,_,rfl⟩:=mem_map.1 hx;rfl) (λh k=>Aq.trans h k) (λW l o o' _ h ho=>Aq.put W l o o' h ho)
  (λi X=>(D9 L i).Nodup/\Df X (w.heap.size+1+1) (D9 L i)/\Aq Fy V X/\Ξ X (w+1) 0/\Ϝ w X) (λc X=>c= .ret/\true=R/\Δ X (w+1) 0 (.bool true)/\Ϝ w X)
  (λi X X' ao N O P=>⟨N.1,(O.block _ (Gg N.2.1) (λe=>by have:=(P _ e.symm).1;omega)).trans N.2.1,N.2.2.1.grown O (λr e=>(P r e).2),(frozen_kept (N.2.2.1.cell Af V3) O (λr e=>(P r e).2)).trans N.2.2.2.1,CU N.2.2.2.2 nR ϝ O P⟩)
  (λc X X' ao N O P=>⟨N.1,N.2.1,cell_kept N.2.2.1 O (λr e=>(P r e).2),CU N.2.2.2 nR ϝ O P⟩)
  ⟨nodup_nil,V2,Aq.refl _ _,V4,V8⟩
  (λi U X=> ∃B,U={tmps:=#[.agg #[vI m,vS d f j,vS q n s],.pointer (some ⟨w,0,none⟩),.pointer (some ⟨w+1,0,none⟩),.pointer (some ⟨w+1+1+1,0,none⟩),.pointer (some ⟨B,0,none⟩),.map (some (w.heap.size+1+1)),.agg #[vI m,vS d f j,vS q n s],.func (.func 276) #[] #[.pointer (some ⟨w+1+1+1+1,0,none⟩)],(E.getD i ϰ).val,undef,undef,undef,undef,undef,undef,undef,undef,undef,undef,undef,undef],defers:=[]}/\ώ X B (.string (E.getD i ϰ).key) (vI (E.getD i ϰ).time) (vI (E.getD i ϰ).seq) (hdV (E.getD i ϰ).row) (.bool (E.getD i ϰ).met))
  (λi U u X X' ao N O P=>by
   obtain⟨B,h1,h2,h3,h4,h5,h6⟩:=N;exact⟨B,h1,cell_kept h2 O (λr e=>(P r e).2),cell_kept h3 O (λr e=>(P r e).2),cell_kept h4 O (λr e=>(P r e).2),cell_kept h5 O (λr e=>(P r e).2),cell_kept h6 O (λr e=>(P r e).2)⟩) ?assign ?body ?done ?stop
 case assign=>
  intro l' k x X K hx hi hK;obtain⟨hk,an⟩:=List.getElem?_eq_some_iff.1 hx;rw[lMp]at hk;rw[getElem_map]at an;subst an;have hd:E.getD k ϰ=E[k]:=by rw[gDe,gEe hk];rfl
  have Y:=hK;rw[hd]at Y;clear hK hd hx;obtain⟨⟨C,G,F,⟨r1,r2,r3⟩,em⟩,hz⟩:∃z,E[k]=z:=⟨_,rfl⟩;rw[hz]at Y⊢;unfold EM.val hdV at Y⊢;dsimp only at Y⊢;obtain⟨j1,j0,j2,j3,Z⟩:=hi
  gi_wp2
  have lX:w.heap.size+1<X.heap.size:=bLt _ _ (j2.cell Af V3);have lM:=Gg j0;exact Y _ _ ((KeepsOthers.alloc _ _).from _) (Aq.alloc _ _) ⟨j1,FH j0 Ϩ lM,j2.trans (Aq.alloc _ _),ϡ,Z.alloc Z.size _⟩ ⟨X.heap.size,rfl,ϡ,ϡ,ϡ,ϡ,ϡ⟩
 case body=>
  intro l' i x U X hx av ax ar af;obtain⟨j1,j0,j2,j3,Z⟩:=ar;obtain⟨B,af,b0,b1,b2,b3,b4⟩:=af;subst af;obtain⟨hi,_⟩:=List.getElem?_eq_some_iff.1 hx;rw[lMp]at hi;have aq:=aa.o.1;have aj:i<L.length:=ϝ;have ac:=aa.o.2 i aj;have KP:ϛ (∀w1,CT 275 #[(E.getD i ϰ).val] w1 (θ w1 (.agg #[.string (E.getD i ϰ).key,vI (E.getD i ϰ).time,vI (E.getD i ϰ).seq]))):=λw1=>Hp _ w1;have ab:Bd (L.getD i ϰ)=((E.getD i ϰ).key,(E.getD i ϰ).time,(E.getD i ϰ).seq):=by unfold Bd;rw[ac.key,ac.time,ac.seq]
  have ad:wfP (Bd (L.getD i ϰ)):=HW.o _ (by rw[gDe,gEe aj];simp);obtain⟨⟨C,G,F,⟨r1,r2,r3⟩,em⟩,hz⟩:∃z,E.getD i ϰ=z:=⟨_,rfl⟩;rw[hz]at KP b0 b1 b2 b3 b4 ab⊢;unfold EM.val hdV at KP;unfold hdV at b3;dsimp only at KP b0 b1 b2 b3 b4 ab;rw[ab]at ad;have c0:=j2.cell Af V0;have T:=j2.cell Af V3;have lX:w.heap.size+1<X.heap.size:=bLt _ _ T;have lM:=Gg j0;have aw:Tryz.prog.follows .mixedOrders=true:=Ϡ;have ay:IntKind.i64.wrap 1=1:=by rw[IntKind.wrap_i64];omega
  have az:IntKind.i64.wrap 2=2:=by rw[IntKind.wrap_i64];omega
  have ae:ϛ (Bd (L.getD i ϰ)=(C,G,F)):=ab;have HJ:ϛ ((D9 L i).Nodup/\Aq Fy V X/\i<L.length):=⟨j1,j2,aj⟩;clear hz ac aq hx ab;by_cases hm:(C,G,F)∈D9 L i
  ·have HO:ϛ (∀W,Df W (w.heap.size+1+1) (D9 L i)->∃(b:Nat) (S H:ϙ),
    (Instr.lookup 338 (.map (some (w.heap.size+1+1))) (.agg #[.string C,vI G,vI F]) false).run Tryz.prog W= .ok (vI 1) W/\
    (Instr.mapEntry 338 (.map (some (w.heap.size+1+1))) (.agg #[.string C,vI G,vI F])).run Tryz.prog W= .ok (.tuple #[vI 1,vI b]) S/\
    (Instr.lookup 338 (.map (some (w.heap.size+1+1))) (.agg #[.string C,vI G,vI F]) false).run Tryz.prog S= .ok (vI 1) S/\
    (Instr.entryStore 338 (.map (some (w.heap.size+1+1))) (vI b) (vI 2)).run Tryz.prog S= .ok () H/\
    (∀W5:World,W5.heap[w.heap.size+1+1]? =H.heap[w.heap.size+1+1]? ->(Instr.lookup 338 (.map (some (w.heap.size+1+1))) (.agg #[.string C,vI G,vI F]) false).run Tryz.prog W5= .ok (vI 2) W5)/\W.grownBy H (some (w.heap.size+1+1))):=λW hW=>by
    have h:=AbE hW ad hm;unfold BC at h;exact h
   have HE:ϛ (true=R):=by
    show _=_;rw[<-al.o,Aec HJ.o.2.2 (by rw[ae.o];exact hm)];rfl
   gi_wp2
   refine wpIn_mono (Q:=λe U W'=> ∃(bo:Nat) (I:ϙ),e= .normal/\U={tmps:=#[.agg #[vI m,vS d f j,vS q n s],.pointer (some ⟨w,0,none⟩),.pointer (some ⟨w+1,0,none⟩),.pointer (some ⟨w+1+1+1,0,none⟩),.pointer (some ⟨B,0,none⟩),.map (some (w.heap.size+1+1)),.agg #[vI m,vS d f j,vS q n s],.func (.func 276) #[] #[.pointer (some ⟨w+1+1+1+1,0,none⟩)],EM.val ⟨C,G,F,(r1,r2,r3),em⟩,.map (some (w.heap.size+1+1)),.agg #[.string C,vI G,vI F,vS r1 r2 r3,.bool em],.agg #[.string C,vI G,vI F],vI 1,vI 2,.tuple #[vI 1,vI (bo:Nat)],vI (bo:Nat),undef,undef,undef,undef,undef],defers:=[]}/\Ϝ X I/\Df I (w.heap.size+1+1) (D9 L i)/\(∀W5:World,W5.heap[w.heap.size+1+1]? =W'.heap[w.heap.size+1+1]? ->(Instr.lookup 338 (.map (some (w.heap.size+1+1))) (.agg #[.string C,vI G,vI F]) false).run Tryz.prog W5= .ok (vI 2) W5)/\I.grownBy W' (some (w.heap.size+1+1))) ?_ ?_
   ·gi_region_with_o (refine⟨trivial,rfl,?_⟩;gi_at_call 275;refine(CallsIn.inRound l' (callsIn_wide.2 (KP.o _))).mono ?_;rintro e I ⟨rfl,ag⟩;have a:Ϝ X I:=bR.drew.trans ag;have k0:=cLz a c0;have A:Df I (w.heap.size+1+1) (D9 L i):=FH j0 a lM;obtain⟨bo,S,H,o1,o2,o3,o4,o5,t⟩:=HO.o I A)
    all_goals exact⟨bo,I,rfl,rfl,a,A,o5,t⟩
   ·rintro e U H ⟨bo,I,rfl,rfl,a,A,o5,t⟩;have d0:=cell_grown A t (cLz a c0);have d3:=cell_grown A t (cLz a T);have df:=NH A t (cLz a T) (by rw[a.frozen (p:=⟨w+1,0,none⟩) lX];exact j3);have e0:=cell_grown A t (cLz a b0);have e1:=cell_grown A t (cLz a b1);have e2:=cell_grown A t (cLz a b2);have e3:=cell_grown A t (cLz a b3);have e4:=cell_grown A t (cLz a b4);have kx:KeepsFrom V.heap.size X H:=(BH a).trans (S7 t ϝ);have ai:Ϝ w H:=(bT Z a).grown t (by have:=a.size;omega) (λr e=>by cases e;omega);have l4:w.heap.size+1+1<H.heap.size:=by have:=a.size;have:=t.size;omega
    clear j0 A t a HO c0 T b0 b1 b2 b3 b4
    gi_wp2
    gi_region_with_o (refine⟨trivial,rfl,?_⟩;gi_at_call 275;refine(CallsIn.inRound l' (callsIn_wide.2 (KP.o _))).mono ?_;rintro e w5 ⟨rfl,ah⟩;have J:Ϝ H w5:=bR.drew.trans ah;have k0:=cLz J d0;have k3:=cLz J d3;have kf:Ξ w5 (w+1) 0:=(by rw[J.frozen (p:=⟨w+1,0,none⟩) ϣ];exact df);have lk:=o5 w5 (J.block _ l4))
    all_goals
     gi_wp2
     exact⟨(kx.trans (BH J)).trans ((KeepsOthers.setCell _ _ _).from _),rfl,HE.o,World.cell?_setCell_same _ _ _ k3,(bT ai J).setCell ϣ _⟩
  ·have HO:ϛ (∀W,Df W (w.heap.size+1+1) (D9 L i)->∃S H,
    (Instr.lookup 338 (.map (some (w.heap.size+1+1))) (.agg #[.string C,vI G,vI F]) false).run Tryz.prog W= .ok (vI 0) W/\
    (Instr.mapEntry 338 (.map (some (w.heap.size+1+1))) (.agg #[.string C,vI G,vI F])).run Tryz.prog W= .ok (.tuple #[ω,vI (D9 L i).length]) S/\
    (Instr.lookup 338 (.map (some (w.heap.size+1+1))) (.agg #[.string C,vI G,vI F]) false).run Tryz.prog S= .ok (vI 0) S/\
    (Instr.entryStore 338 (.map (some (w.heap.size+1+1))) (vI (D9 L i).length) (vI 1)).run Tryz.prog S= .ok () H/\
    Df H (w.heap.size+1+1) (D9 L i++[(C,G,F)])/\W.grownBy H (some (w.heap.size+1+1))):=λW hW=>by
    have h:=AbD hW ad hm;unfold BC at h;exact h
   have ap:ϛ (∀W,Df W (w.heap.size+1+1) (D9 L i++[(C,G,F)])->(Instr.lookup 338 (.map (some (w.heap.size+1+1))) (.agg #[.string C,vI G,vI F]) false).run Tryz.prog W= .ok (vI 1) W):=λW hW=>by
    have h:=Z3 hW ad hm;unfold BC at h;exact h
   have HS:ϛ (D9 L (i+1)=D9 L i++[(C,G,F)]/\(D9 L (i+1)).Nodup):=⟨by rw[Lq HJ.o.2.2,ae.o],Ur HJ.o.2.2 HJ.o.1 (by rw[ae.o];exact hm)⟩;obtain⟨pn,am⟩:=nM ((D9 L i).length);rw[am]at HO;clear am
   gi_wp2
   refine wpIn_mono (Q:=λe U W'=> ∃(I:ϙ),e= .normal/\U={tmps:=#[.agg #[vI m,vS d f j,vS q n s],.pointer (some ⟨w,0,none⟩),.pointer (some ⟨w+1,0,none⟩),.pointer (some ⟨w+1+1+1,0,none⟩),.pointer (some ⟨B,0,none⟩),.map (some (w.heap.size+1+1)),.agg #[vI m,vS d f j,vS q n s],.func (.func 276) #[] #[.pointer (some ⟨w+1+1+1+1,0,none⟩)],EM.val ⟨C,G,F,(r1,r2,r3),em⟩,.map (some (w.heap.size+1+1)),.agg #[.string C,vI G,vI F,vS r1 r2 r3,.bool em],.agg #[.string C,vI G,vI F],vI 0,vI 1,.tuple #[vI 0,vI (pn:Nat)],vI (pn:Nat),undef,undef,undef,undef,undef],defers:=[]}/\Ϝ X I/\Df I (w.heap.size+1+1) (D9 L i)/\Df W' (w.heap.size+1+1) (D9 L i++[(C,G,F)])/\I.grownBy W' (some (w.heap.size+1+1))) ?_ ?_
   ·gi_region_with_o (refine⟨trivial,rfl,?_⟩;gi_at_call 275;refine(CallsIn.inRound l' (callsIn_wide.2 (KP.o _))).mono ?_;rintro e I ⟨rfl,ag⟩;have a:Ϝ X I:=bR.drew.trans ag;have k0:=cLz a c0;have A:Df I (w.heap.size+1+1) (D9 L i):=FH j0 a lM;obtain⟨S,H,o1,o2,o3,o4,o5,t⟩:=HO.o I A)
    all_goals exact⟨I,rfl,rfl,a,A,o5,t⟩
   ·rintro e U H ⟨I,rfl,rfl,a,A,o5,t⟩;have d0:=cell_grown A t (cLz a c0);have d3:=cell_grown A t (cLz a T);have df:=NH A t (cLz a T) (by rw[a.frozen (p:=⟨w+1,0,none⟩) lX];exact j3);have e0:=cell_grown A t (cLz a b0);have e1:=cell_grown A t (cLz a b1);have e2:=cell_grown A t (cLz a b2);have e3:=cell_grown A t (cLz a b3);have e4:=cell_grown A t (cLz a b4);have kx:KeepsFrom V.heap.size X H:=(BH a).trans (S7 t ϝ);have ko:Aq Fy X H:=(Cf a nR).trans (AaA A t);have ai:Ϝ w H:=(bT Z a).grown t (by have:=a.size;omega) (λr e=>by cases e;omega);have l4:w.heap.size+1+1<H.heap.size:=Gg o5;clear j0 A t a HO c0 T b0 b1 b2 b3 b4
    gi_wp2
    gi_region_with_o (refine⟨trivial,rfl,?_⟩;gi_at_call 275;refine(CallsIn.inRound l' (callsIn_wide.2 (KP.o _))).mono ?_;rintro e w5 ⟨rfl,ah⟩;have J:Ϝ H w5:=bR.drew.trans ah;have k0:=cLz J d0;have mm:Df w5 (w.heap.size+1+1) (D9 L i++[(C,G,F)]):=FH o5 J l4;have lk:=ap.o w5 mm)
    all_goals
     gi_wp2
     exact⟨kx.trans (BH J),ko.trans (Cf J nR),HS.o.2,by rw[HS.o.1];exact mm,HJ.o.2.1.trans (ko.trans (Cf J nR)),by rw[J.frozen (p:=⟨w+1,0,none⟩) ϣ];exact df,bT ai J⟩
 case done=>
  rintro D X hD ⟨j1,j0,j2,j3,Z⟩ hK;have T:=j2.cell Af V3;have HE:ϛ (false=R):=by
   show _=_;rw[lMp,aa.o.1]at j1;rw[<-al.o,Uq j1];rfl
  clear j0
  gi_wp2
  have Y:(X.setCell ⟨w+1,0,none⟩ (.bool false)).heap[D]? =some (.deferred (some [])):=(heap_setCell_other _ _ _ _ ϣ).trans hK;refine⟨ϟ,.inl ⟨_,_,rfl,run_takeDeferred Y,?_⟩⟩;have y3:=Cu (World.cell?_setCell_same _ _ (.bool false) T) Y rfl (.deferred none);exact⟨.bool false,(by simp[results,results236,go_sem,y3]),Aa HE.o,Cq (Z.setCell ϣ _) ϝ Y _⟩
 case stop=>
  rintro D c X hD ⟨rfl,hE,T,Z⟩ hK
  gi_wp2
  refine⟨ϟ,.inl ⟨_,_,rfl,run_takeDeferred hK,?_⟩⟩;have y3:=Cu T hK rfl (.deferred none);exact⟨.bool true,(by simp[results,results236,go_sem,y3]),Aa hE,Cq Z ϝ hK _⟩
noncomputable def Ic(l:List Ent):Bool:=allB l.length (Fp l)
theorem Oh(h:Hdr)(k:List EM)(l:List Ent)(w:ϙ)(u:h.2.1=l.length)(q:l.length<=χ)(ha:Cm w h.1 k)(j:ERs w k l)(z:∀x∈l,wfE x):
 η 234 #[hdV h] w (θ w (.bool (Ic l))):=by
 obtain⟨a,n,c⟩:=h;unfold hdV;dsimp only at u ha⊢;subst u;have m:ϛ (∀d,Ϝ w d->Δ d w 0 (vS a l.length c)->CT 269 #[vS a l.length c,.func (.func 270) #[] #[μ w]] d (θ d (.bool (Ic l)))):=λd p C=>by
  have h:=PH 270 (enters_of func270 Ϡ rfl) #[μ w] (Fp l) a c k d (by rw[j.1];exact q) (Cr ha p) (λi A t f=>WV a c k l i w.heap.size A (by rw[j.1]at t;exact t) q (cLz f C) (Cr (Cr ha p) f) ((j.below p).below f) z);rw[j.1]at h;exact h
 obtain⟨n,y⟩:=nM l.length;rw[y]at m⊢;clear ha j z y q;obtain⟨R,r⟩:=nM (Ic l);rw[r]at m⊢;clear r;have s:Ϝ w (ξ w #[vS a n c] 33):=Ϩ;go_enter func234,ntmps234;go_wp2_with (go_at_call 269;refine(m.o _ s ϡ).mono ?_;rintro e A ⟨rfl,f⟩);go_ret;exact⟨rfl,bT s f⟩
def IJ(b:Buf):Bool:=allB b.runs.length λi=>decide (0<(b.runs.getD i ϰ).length)
theorem Us{P Q:Nat->Bool}(h:∀i,i<n->P i=Q i):allB n P=allB n Q:=by
 rcases Bool.eq_false_or_eq_true (allB n Q)with a|a
 ·rw[a];exact A9.2 (λi c=>by rw[h i c];exact A9.1 a i c)
 ·rw[a];rcases Bool.eq_false_or_eq_true (allB n P)with d|d
  ·have:allB n Q=true:=A9.2 (λi c=>by rw[<-h i c];exact A9.1 d i c);rw[a]at this;cases this
  ·exact d
theorem Kq(b:Buf)(x:BX)(w:ϙ)(h:bufAt w b x):
 η 235 #[AZ b x] w (θ w (.bool (!IJ b))):=by
 have c:ϛ (∀a,Ϝ w a->CT 273 #[vS x.ra x.rs.length x.rc,.func (.func 274) #[] #[]] a (θ a (.bool (IJ b)))):=λa A=>by
  have j:(x.rs.map (·.1)).length=x.rs.length:=lMp ..;have k:=PI 274 (enters_of func274 Ϡ rfl) #[] (λi=>decide (0<((x.rs.map (·.1)).getD i (none,0,0)).2.1)) x.ra x.rc (x.rs.map (·.1)) a (by rw[j];exact h.few) (Hr h.hds A) (λi t d r=>by rw[Array.append_empty];exact Tt _ _ t);have e:allB (x.rs.map (·.1)).length (λi=>decide (0<((x.rs.map (·.1)).getD i (none,0,0)).2.1))=IJ b:=by
   unfold IJ;rw[j,h.rlen];refine Us (λi d=>?_);have f:i<x.rs.length:=by rw[h.rlen];exact d
   have m:=(h.runs i d).1;have z:=(h.len (x.rs[i]) (mem_cons_of_mem _ (getElem_mem f))).1;have u:(x.rs.map (·.1)).getD i (none,0,0)=(x.rs[i]).1:=by rw[gDe,getElem?_map,gEe f];rfl
   have y:x.rs.getD i ϰ=x.rs[i]:=by rw[gDe,gEe f];rfl
   rw[y]at m;rw[u,z,m]
  rw[e,j]at k;exact k
 obtain⟨R,p⟩:=nM (IJ b);rw[p]at c⊢;clear p h;obtain⟨G,H,⟨⟨D,E,F⟩,K⟩,I⟩:=x;obtain⟨C,J,L⟩:=b;unfold AZ hdV;dsimp only at c⊢;obtain⟨n,s⟩:∃n,I.length=n:=⟨_,rfl⟩;rw[s]at c⊢;clear s;have q:Ϝ w (ξ w (ν C D E F G n H) 36):=Ϩ;go_enter func235,ntmps235;go_wp2_with (go_at_call 273;refine(c.o _ q).mono ?_;rintro e t ⟨rfl,r⟩);go_ret;exact⟨rfl,bT q r⟩
def countB(b:Buf):Bool:=decide ((b.mem.length:Int)<=b.lim)&&decide ((Ac b).length<=4096)
theorem EL(b:Buf)(x:BX)(w:ϙ)(h:bufAt w b x)(A:(Ac b).length<=4611686018427387904):
 η 167 #[AZ b x] w (θ w (.bool (countB b))):=by
 have a:=hIz (λ(C:ϙ) (E:Ϝ w C)=>MH b x C (An h E) A);have r:x.m.1.2.1=b.mem.length:=(h.len x.m (mem_cons_self ..)).1.trans h.mem.1;obtain⟨R,p⟩:=nM (countB b);have k:ϛ (countB b=R):=p;rw[p];clear p h;obtain⟨I,J,⟨⟨F,s,G⟩,P⟩,K⟩:=x;obtain⟨f,H,L⟩:=b;unfold AZ hdV at a⊢;dsimp only at a k r⊢;obtain⟨n,z⟩:∃n,K.length=n:=⟨_,rfl⟩;rw[z]at a⊢;clear z;obtain⟨N,m⟩:=nM ((Ac ⟨f,H,L⟩).length);rw[m]at a;have j:ϛ ((decide ((s:Int)<=f)&&decide (N<=4096))=R):=by
  show _=_;rw[<-k.o];unfold countB;rw[m,r]
 clear m k r A;have d:Ϝ w (ξ w (ν f F s G I n J) 36):=Ϩ;by_cases t:(s:Int)<=f
 ·by_cases u:N<=4096
  ·have c:ϛ (true=R):=by show _=_;rw[<-j.o];simp[t,u]
   have y:(N:Int)<=4096:=ϝ;go_enter func167,ntmps167;go_wp2_with (go_at_call 232;refine(a.o _ d).mono ?_;rintro e O ⟨rfl,q⟩);go_ret;exact⟨Aa c.o,bT d q⟩
  ·have c:ϛ (false=R):=by show _=_;rw[<-j.o];simp[u]
   have y:¬(N:Int)<=4096:=ϝ;have D:ϛ (¬(N:Int)<=4096):=y;go_enter func167,ntmps167;go_wp2_with (go_at_call 232;refine(a.o _ d).mono ?_;rintro e O ⟨rfl,q⟩);go_ret;exact⟨Aa ((decide_eq_false (by have:=D.o;omega)).trans c.o),bT d q⟩
 ·have c:ϛ (false=R):=by show _=_;rw[<-j.o];simp[t]
  go_enter func167,ntmps167;go_wp2;go_ret;exact⟨Aa c.o,d⟩
noncomputable def FI(b:Buf):Bool:=allB (partsB b).length (λi=>Ic ((partsB b).getD i ϰ))&&(IJ b&&Ib (Ac b))
theorem Yd{b:Buf}(a:i<(partsB b).length)(h:Ic ((partsB b).getD i ϰ)=false):FI b=false:=by unfold FI;rw[DW a h];rfl
theorem Ut{b:Buf}(h:∀i,i<(partsB b).length->Ic ((partsB b).getD i ϰ)=true):FI b=(IJ b&&Ib (Ac b)):=by unfold FI;rw[A9.2 h];rfl
theorem Cz(b:Buf)(x:BX)(w:ϙ)(h:bufAt w b x)(hw:∀y∈Ac b,wfE y/\wfP (Bd y)):
 η 168 #[AZ b x] w (θ w (.bool (FI b))):=by
 have HB:ϛ (bufAt w b x):=h;have J:=hIz (λ(G:ϙ) (F:Ϝ w G)=>Kq b x G (An h F));have K2:=hIz (λ(G:ϙ) (F:Ϝ w G)=>Yc b x G (An h F) (λy hy=>(hw y hy).2));have KP:ϛ (∀i G,i<(x.m::x.rs).length->Ϝ w G->CT 234 #[hdV ((x.m::x.rs).getD i ϰ).1] G (θ G (.bool (Ic ((partsB b).getD i ϰ))))):=λi G A F=>by
  have aj:(x.m::x.rs).getD i ϰ∈x.m::x.rs:=by rw[gDe,gEe A];exact getElem_mem A
  have ak:(partsB b).length=(x.m::x.rs).length:=by simp[partsB,h.rlen]
  have hE:ERs w ((x.m::x.rs).getD i ϰ).2 ((partsB b).getD i ϰ):=by
   cases i with
   |zero=>exact h.mem
   |succ i=>
    have ap:i<b.runs.length:=by rw[length_cons,h.rlen]at A;omega
    simpa[partsB]using h.runs i ap
  have hl:=h.len _ aj;refine Oh _ _ _ G (by rw[hl.1,hE.1]) (by rw[<-hE.1];exact hl.2) (Cr (h.ems _ aj) F) (hE.below F) (λy hy=>(hw y ?_).1);unfold Ac;refine mem_flatten.2 ⟨_,?_,hy⟩;rw[gDe,gEe (by rw[ak];exact A)];exact getElem_mem (by rw[ak];exact A)
 have ad:ϛ ((partsB b).length=(x.m::x.rs).length):=by show _=_;simp[partsB,h.rlen]
 obtain⟨R,hR⟩:=nM (FI b);have Z:ϛ (∀i,i<(x.m::x.rs).length->Ic ((partsB b).getD i ϰ)=false->false=R):=λi A hf=>by rw[<-hR,Yd (by rw[ad.o];exact A) hf]
 have N:ϛ ((∀i,i<(x.m::x.rs).length->Ic ((partsB b).getD i ϰ)=true)->(IJ b&&Ib (Ac b))=R):=λL=>by rw[<-hR,Ut (λi A=>L i (by rw[<-ad.o];exact A))]
 rw[hR];clear hR h hw ad;obtain⟨RB,ai⟩:∃z:Nat->Bool,(λi=>Ic ((partsB b).getD i ϰ))=z:=⟨_,rfl⟩;have af:∀i,Ic ((partsB b).getD i ϰ)=RB i:=λi=>congrFun ai i;simp only[af]at KP Z N;obtain⟨G1,ag⟩:=nM (IJ b);obtain⟨G2,ah⟩:=nM (Ib (Ac b));rw[ag]at J N;rw[ah]at K2 N;clear ai af ag ah;obtain⟨q,s,⟨⟨a,d,f⟩,ml⟩,rs⟩:=x;obtain⟨t,au,av⟩:=b;unfold AZ at J K2⊢;dsimp only at KP Z N J K2⊢;obtain⟨n,hn⟩:∃n,rs.length=n:=⟨_,rfl⟩;have HN:ϛ (rs.length=n):=hn;rw[hn]at J K2⊢;clear hn;have e1:hdV (a,d,f)=vS a d f:=rfl;rw[e1]at J K2⊢;refine(callsIn_wide (n:=0)).1 ?_;refine callsIn_of_wp_marks func168 rfl trivial ?_ rfl;simp only[ntmps168,size_toArray,length_cons,length_nil,Nat.reduceAdd,Nat.reduceSub,Array.replicate_succ,Array.replicate_zero,push_toArray,append_toArray,nil_append,cons_append]
 gi_wp2_with (refine⟨trivial,rfl,?_⟩;gi_at_call 233;refine(callsIn_wide.2 (Iq _ _ _ rfl rfl rfl _)).mono ?_;rintro e w' ⟨rfl,rfl⟩)
 have V0:Δ (ξ (ξ (ξ w (ν t a d f q n s) 36) #[ϋ] 4) (ν t a d f q n s) 36) w 0 (vI t):=ϡ;have V1:Δ (ξ (ξ (ξ w (ν t a d f q n s) 36) #[ϋ] 4) (ν t a d f q n s) 36) w 1 (vS a d f):=ϡ;have V2:Δ (ξ (ξ (ξ w (ν t a d f q n s) 36) #[ϋ] 4) (ν t a d f q n s) 36) w 2 (vS q n s):=ϡ;have V3:Δ (ξ (ξ (ξ w (ν t a d f q n s) 36) #[ϋ] 4) (ν t a d f q n s) 36) (w+1) 0 (.bool false):=ϡ;have V4:Ξ (ξ (ξ (ξ w (ν t a d f q n s) 36) #[ϋ] 4) (ν t a d f q n s) 36) (w+1) 0:=ϡ;have V6:Δ (ξ (ξ (ξ w (ν t a d f q n s) 36) #[ϋ] 4) (ν t a d f q n s) 36) (w+1+1) 1 (vS a d f):=ϡ;have V7:Δ (ξ (ξ (ξ w (ν t a d f q n s) 36) #[ϋ] 4) (ν t a d f q n s) 36) (w+1+1) 2 (vS q n s):=ϡ;have V8:Ϝ w (ξ (ξ (ξ w (ν t a d f q n s) 36) #[ϋ] 4) (ν t a d f q n s) 36):=by
  repeat (first|exact bR|(refine Below.alloc ?_ Ϥ _))
 have V9:(((w.alloc (.cells (ν t a d f q n s) 36)).alloc (.cells #[ϋ] 4)).alloc (.cells (ν t a d f q n s) 36)).heap.size=w.heap.size+1+1+1:=ϟ;generalize (((w.alloc (.cells (ν t a d f q n s) 36)).alloc (.cells #[ϋ] 4)).alloc (.cells (ν t a d f q n s) 36))=V at *;have ae:=Je HB.o V8 (w.heap.size+1+1) Fy V6 (by rw[HN.o];exact V7) Af (λ_ _ _=>Af);obtain⟨P,hP⟩:∃z:List Part,(((a,d,f),ml)::rs)=z:=⟨_,rfl⟩;dsimp only at ae;rw[hP]at ae KP Z N;clear hP;refine Db (gf:=268) (lb:=#[.pointer (some ⟨w+1+1,0,none⟩)]) rfl (enters_of func268 Ϡ rfl) ae bR (λx U=>by obtain⟨p,_,rfl⟩:=mem_map.1 U;rfl) (λh k=>Aq.trans h k) (λW l o o' _ h ho=>Aq.put W l o o' h ho)
  (λi X=>(∀j,j<i->RB j=true)/\Aq Fy V X/\Ξ X (w+1) 0/\Ϝ w X) (λc X=>c= .ret/\false=R/\Δ X (w+1) 0 (.bool false)/\Ϝ w X)
  (λi X X' al E L T=>⟨E.1,E.2.1.grown L (λr e=>(T r e).2),(frozen_kept (E.2.1.cell Af V3) L (λr e=>(T r e).2)).trans E.2.2.1,CU E.2.2.2 nR ϝ L T⟩)
  (λc X X' al E L T=>⟨E.1,E.2.1,cell_kept E.2.2.1 L (λr e=>(T r e).2),CU E.2.2.2 nR ϝ L T⟩)
  ⟨λj hj=>absurd hj (Nat.not_lt_zero j),Aq.refl _ _,V4,V8⟩
  (λi a' X=>a'={tmps:=#[.agg #[vI t,vS a d f,vS q n s],.pointer (some ⟨w,0,none⟩),.pointer (some ⟨w+1,0,none⟩),hdV (P.getD i ϰ).1,.agg #[vI t,vS a d f,vS q n s],.func (.func 268) #[] #[.pointer (some ⟨w+1+1,0,none⟩)],hdV (P.getD i ϰ).1,undef,undef,undef,undef,undef,undef,undef,undef,undef,undef,undef],defers:=[]})
  (λi a' u X X' al E L T=>E) ?assign ?body ?done ?stop
 case assign=>
  intro l' k x X K U A H;obtain⟨hk,ab⟩:=List.getElem?_eq_some_iff.1 U;rw[lMp]at hk;rw[getElem_map]at ab;subst ab;have hd:P.getD k ϰ=P[k]:=by rw[gDe,gEe hk];rfl
  have C:=λW' h1 h2 h3=>H _ W' h1 h2 h3 rfl;rw[hd]at C;clear H hd U;obtain⟨⟨⟨z1,z2,z3⟩,zl⟩,hz⟩:∃z,P[k]=z:=⟨_,rfl⟩;rw[hz]at C⊢;unfold hdV at C⊢;dsimp only at C⊢
  gi_wp2
  exact C X (KeepsFrom.refl _ _) (Aq.refl _ _) A
 case body=>
  intro l' i x a' X U aq ar an ao;obtain⟨j1,Q,j3,I⟩:=an;obtain⟨A,ab⟩:=List.getElem?_eq_some_iff.1 U;rw[lMp]at A;subst ao;have S:ϛ (CT 234 #[hdV (P.getD i ϰ).1] X (θ X (.bool (RB i)))):=KP.o i X A I;have O:=Q.cell Af V3;have lX:w.heap.size+1<X.heap.size:=bLt _ _ O;have am:ϛ (RB i=false->false=R):=Z.o i A;have HJ:ϛ ((∀j,j<i->RB j=true)/\Aq Fy V X):=⟨j1,Q⟩;clear U ab KP Z N j1 Q;obtain⟨⟨⟨z1,z2,z3⟩,zl⟩,hz⟩:∃z,P.getD i ϰ=z:=⟨_,rfl⟩;rw[hz]at S⊢;unfold hdV at S⊢;dsimp only at S⊢;clear hz
  cases F:RB i with
  |true=>
   rw[F]at S
   gi_wp2_with (refine⟨trivial,rfl,?_⟩;gi_at_call 234;refine(CallsIn.inRound l' (callsIn_wide.2 S.o)).mono ?_;rintro e Y ⟨rfl,m⟩)
   exact⟨BH m,Cf m nR,λj hj=>by
    rcases Nat.lt_succ_iff_lt_or_eq.1 hj with h|h
    ·exact HJ.o.1 j h
    ·rw[h];exact F,HJ.o.2.trans (Cf m nR),by rw[m.frozen (p:=⟨w+1,0,none⟩) lX];exact j3,bT I m⟩
  |false=>
   rw[F]at S
   gi_wp2_with (refine⟨trivial,rfl,?_⟩;gi_at_call 234;refine(CallsIn.inRound l' (callsIn_wide.2 S.o)).mono ?_;rintro e Y ⟨rfl,m⟩;have k3:=cLz m O;have kf:Ξ Y (w+1) 0:=(by rw[m.frozen (p:=⟨w+1,0,none⟩) lX];exact j3))
   exact⟨(BH m).trans ((KeepsOthers.setCell _ _ _).from _),rfl,am.o F,World.cell?_setCell_same _ _ _ k3,(bT I m).setCell ϣ _⟩
 case done=>
  rintro D X hD ⟨j1,Q,j3,I⟩ H;rw[lMp]at j1;have HE:ϛ ((G1&&G2)=R):=N.o j1;have c0:=Q.cell Af V0;have c1:=Q.cell Af V1;have c2:=Q.cell Af V2;have O:=Q.cell Af V3;have lX:w.heap.size+1<X.heap.size:=bLt _ _ O;have lD:D<X.heap.size:=(Array.getElem?_eq_some_iff.1 H).1;clear j1 Z N KP
  cases hg1:G1 with
  |false=>
   have ac:ϛ (false=R):=by show _=_;rw[<-HE.o,hg1];rfl
   rw[hg1]at J
   gi_wp2_with (first|(refine⟨trivial,rfl,?_⟩;gi_at_call 235;refine(callsIn_wide.2 (J.o _ I)).mono ?_;rintro e Y ⟨rfl,m⟩;have k3:=cLz m O;have kf:Ξ Y (w+1) 0:=(by rw[m.frozen (p:=⟨w+1,0,none⟩) lX];exact j3))|refine⟨trivial,?_⟩)
   have C:(Y.setCell ⟨w+1,0,none⟩ (.bool false)).heap[D]? =some (.deferred (some [])):=(heap_setCell_other _ _ _ _ ϣ).trans ((m.block _ lD).trans H);refine⟨ϟ,.inl ⟨_,_,rfl,run_takeDeferred C,?_⟩⟩;have y3:=Cu (World.cell?_setCell_same _ _ (.bool false) k3) C rfl (.deferred none);exact⟨.bool false,(by simp[results,results168,go_sem,y3]),Aa ac.o,Cq ((bT I m).setCell ϣ _) ϝ C _⟩
  |true=>
   have ac:ϛ (G2=R):=by show _=_;rw[<-HE.o,hg1];rfl
   rw[hg1]at J
   gi_wp2_with (first
    |(refine⟨trivial,rfl,?_⟩;gi_at_call 235;refine(callsIn_wide.2 (J.o _ I)).mono ?_;rintro e Y ⟨rfl,m⟩;have k0:=cLz m c0;have k1:=cLz m c1;have k2:=cLz m c2;have k3:=cLz m O;have kf:Ξ Y (w+1) 0:=(by rw[m.frozen (p:=⟨w.heap.size+1,0,none⟩) lX];exact j3);have j5:=bT I m)
    |(refine⟨trivial,rfl,?_⟩;gi_at_call 236;refine(callsIn_wide.2 (K2.o _ j5)).mono ?_;rintro e w3 ⟨rfl,aa⟩;have u3:=cLz aa k3;have uf:Ξ w3 (w+1) 0:=(by rw[aa.frozen (p:=⟨w.heap.size+1,0,none⟩) (Nat.lt_of_lt_of_le lX m.size)];exact kf)))
   have C:∀v,(w3.setCell ⟨w+1,0,none⟩ v).heap[D]? =some (.deferred (some [])):=λv=>(heap_setCell_other _ _ _ _ ϣ).trans ((aa.block _ (Nat.lt_of_lt_of_le lD m.size)).trans ((m.block _ lD).trans H));refine⟨ϟ,.inl ⟨_,_,rfl,run_takeDeferred (C _),?_⟩⟩;have y3:=Cu (World.cell?_setCell_same _ _ (.bool G2) u3) (C _) rfl (.deferred none);exact⟨.bool G2,(by simp[results,results168,go_sem,y3]),Aa ac.o,Cq ((bT j5 aa).setCell ϣ _) ϝ (C _) _⟩
 case stop=>
  rintro D c X hD ⟨rfl,hE,O,I⟩ H
  gi_wp2
  refine⟨ϟ,.inl ⟨_,_,rfl,run_takeDeferred H,?_⟩⟩;have y3:=Cu O H rfl (.deferred none);exact⟨.bool false,(by simp[results,results168,go_sem,y3]),Aa hE,Cq I ϝ H _⟩
noncomputable def FV(b:Buf):Int:=if BG b.lim 1 64=false then 3 else if countB b=false then 2 else if FI b=false then 1 else 0
theorem AH(b:Buf)(x:BX)(w:ϙ)(h:bufAt w b x)(N:∀y∈Ac b,wfE y/\wfP (Bd y))(L:(Ac b).length<=4611686018427387904):
 η 100 #[AZ b x] w (θ w (vI (FV b))):=by
 have k:=hIz (λ(c:ϙ) (t:Ϝ w c)=>EL b x c (An h t) L);have q:=hIz (λ(c:ϙ) (t:Ϝ w c)=>Cz b x c (An h t) N);have p:ϛ (∀c,CT 166 #[vI b.lim] c λe w'=>e= .returned (.bool (BG b.lim 1 64))/\w'=c):=λc=>Ho _ c;obtain⟨R,s⟩:=nM (FV b);have j:ϛ ((if BG b.lim 1 64=false then 3 else if countB b=false then 2 else if FI b=false then 1 else 0)=R):=s;rw[s];clear s h N L;obtain⟨G1,H⟩:=nM (BG b.lim 1 64);obtain⟨O,I⟩:=nM (countB b);obtain⟨P,J⟩:=nM (FI b);rw[H]at p j;rw[I]at k j;rw[J]at q j;clear H I J;obtain⟨E,F,⟨⟨A,C,D⟩,Y⟩,U⟩:=x;obtain⟨z,X,Z⟩:=b;unfold AZ hdV at k q⊢;dsimp only at p k q⊢;obtain⟨n,K⟩:∃n,U.length=n:=⟨_,rfl⟩;rw[K]at k q⊢;clear K;have m:Ϝ w (ξ w (ν z A C D E n F) 36):=Ϩ
 cases G1 with
 |false=>
  have f:ϛ ((3:Int)=R):=j.o;go_enter func100,ntmps100;go_wp2_with (go_at_call 166;refine(p.o _).mono ?_;rintro e G ⟨rfl,rfl⟩);go_ret;exact⟨Aj f.o,m⟩
 |true=>
  cases O with
  |false=>
   have f:ϛ ((2:Int)=R):=j.o;go_enter func100,ntmps100;go_wp2_with (first
    |(go_at_call 166;refine(p.o _).mono ?_;rintro e G ⟨rfl,rfl⟩)
    |(go_at_call 167;refine(k.o _ m).mono ?_;rintro e d ⟨rfl,a⟩))
   go_ret;exact⟨Aj f.o,bT m a⟩
  |true=>
   cases P with
   |false=>
    have f:ϛ ((1:Int)=R):=j.o;go_enter func100,ntmps100;go_wp2_with (first
     |(go_at_call 166;refine(p.o _).mono ?_;rintro e G ⟨rfl,rfl⟩)
     |(go_at_call 167;refine(k.o _ m).mono ?_;rintro e d ⟨rfl,a⟩;have r:=bT m a;have Q:Δ d w 0 (vI z):=cLz a ϡ;have S:Δ d w 1 (vS A C D):=cLz a ϡ;have T:Δ d w 2 (vS E n F):=cLz a ϡ)
     |(go_at_call 168;refine(q.o _ r).mono ?_;rintro e V ⟨rfl,u⟩))
    go_ret;exact⟨Aj f.o,bT r u⟩
   |true=>
    have f:ϛ ((0:Int)=R):=j.o;go_enter func100,ntmps100;go_wp2_with (first
     |(go_at_call 166;refine(p.o _).mono ?_;rintro e G ⟨rfl,rfl⟩)
     |(go_at_call 167;refine(k.o _ m).mono ?_;rintro e d ⟨rfl,a⟩;have r:=bT m a;have Q:Δ d w 0 (vI z):=cLz a ϡ;have S:Δ d w 1 (vS A C D):=cLz a ϡ;have T:Δ d w 2 (vS E n F):=cLz a ϡ)
     |(go_at_call 168;refine(q.o _ r).mono ?_;rintro e V ⟨rfl,u⟩))
    go_ret;exact⟨Aj f.o,bT r u⟩
end bf
namespace bf
open vl
variable {w w' : ϙ} {base base' g n size : Nat} {e : TypeId} {v : Value} {xs : List Value} {x : Ent} {l : List Ent}
theorem VD:(Tryz.prog.info? 166).map (λi=>(i.zero,i.size,i.bytes))=some (some (.agg #[ϊ,ω,ω,ψ,ϋ]),5,64):=Ϡ
theorem A4(h:w.ownsRow base e size v n xs)(m:∀g,v.ownBlock=some g->w'.heap[g]? =w.heap[g]?):w'.ownsRow base e size v n xs:=by
 refine⟨h.1,?_⟩;rcases h.2 with f|⟨g,c,d,a,j,p,k⟩
 ·exact .inl f
 ·exact .inr ⟨g,c,d,a,j,by rw[m g (by rw[a];rfl)];exact p,k⟩
theorem AE(h:w.ownsRow base e size v n xs)(a:v.ownBlock=some g):base<=g/\g<w.heap.size:=World.ownsRow.lt h g a
theorem own_below(h:w.ownsRow base e size v n xs)(a:Ϝ w w'):w'.ownsRow base e size v n xs:=
 A4 h (λg c=>a.block g (AE h c).2)
theorem Di(h:w.ownsRow base e size v n xs)(k:base'<=base):w.ownsRow base' e size v n xs:=by
 refine⟨h.1,?_⟩;rcases h.2 with d|⟨g,a,c,p,f,m,j⟩
 ·exact .inl d
 ·exact .inr ⟨g,a,c,p,Nat.le_trans k f,m,j⟩
theorem I5{a:TypeId}{s s':Nat}{j:Value}{t:Nat}{u:List Value}(h:w.ownsRow base e s v n xs)(p:w.ownsRow base' a s' j t u)(r:e≠a)(d:v.ownBlock=some g):j.ownBlock≠some g:=λf=>by
 rcases h.2 with⟨rfl,_⟩|⟨b,z,C,rfl,_,q,_⟩
 ·cases d
 ·rcases p.2 with⟨rfl,_⟩|⟨y,A,D,rfl,_,c,_⟩
  ·cases f
  ·cases d
   cases f
   rw[q]at c;injection c with k
   injection k with _ m _
   exact r m
theorem C3(b a j:Nat):(⟨b,a,none⟩:Addr).add j=⟨b,a+j,none⟩:=by unfold Addr.add;split<;>simp_all
theorem FG{b d:Nat}{r:List Cel}(h:vl.rowAt w (some ⟨b,d,none⟩) r):∀j u,(celCells r)[j]? =some u->w.cell? ((⟨b,d,none⟩:Addr).add j)=some u:=by
 intro j u a;have k:j<(celCells r).length:=by
  rcases Nat.lt_or_ge j (celCells r).length with h|h
  ·exact h
  ·rw[getElem?_eq_none h]at a;cases a
 rw[DT]at k;have c:j/3<r.length:=ϝ;obtain⟨z,A,e,m,p,q⟩:=h (j/3) c
 cases e
 obtain⟨s,t,y⟩:=Hd r (j/3) c;rw[C3];have f:j=j/3 * 3\/j=j/3 * 3+1\/j=j/3 * 3+1+1:=ϝ;rcases f with e|e|e
 ·rw[e]at a⊢;rw[s]at a;rw[<-a];exact m
 ·rw[e]at a⊢;rw[t]at a;rw[<-a];exact p
 ·rw[e]at a⊢;rw[y]at a;rw[<-a];exact q
theorem EZ(r:List Cel):∀u∈celCells r,u.oneCell'=true:=by
 intro u d;unfold celCells at d;obtain⟨c,_,a⟩:=mem_flatMap.1 d;simp at a;rcases a with rfl|rfl|rfl<;>rfl
def EM.to(e:EM)(h:Hdr):EM:=⟨e.key,e.time,e.seq,h,e.met⟩
def A1(l:List EM):List Value:=l.flatMap λe=>[.string e.key,vI e.time,vI e.seq,hdV e.row,.bool e.met]
theorem Kr(l:List EM):(A1 l).length=l.length * 5:=by
 induction l with
 |nil=>rfl
 |cons c r ih=>show([_,_,_,_,_]++A1 r).length=_;rw[lAp,ih,length_cons];simp;omega
theorem IK(l:List EM)(e:EM):A1 (l++[e])=A1 l++[.string e.key,vI e.time,vI e.seq,hdV e.row,.bool e.met]:=by
 unfold A1;rw[flatMap_append];simp
theorem Ie(r:List EM)(i:Nat)(h:i<r.length):(A1 r)[i * 5]? =some (.string (r.getD i ϰ).key)/\(A1 r)[i * 5+1]? =some (vI (r.getD i ϰ).time)/\(A1 r)[i * 5+2]? =some (vI (r.getD i ϰ).seq)/\(A1 r)[i * 5+3]? =some (hdV (r.getD i ϰ).row)/\(A1 r)[i * 5+4]? =some (.bool (r.getD i ϰ).met):=by
 induction r generalizing i with
 |nil=>exact absurd h (Nat.not_lt_zero i)
 |cons c r ih=>
  have e:A1 (c::r)= .string c.key::vI c.time::vI c.seq::hdV c.row:: .bool c.met::A1 r:=rfl;rw[e]
  cases i with
  |zero=>exact⟨rfl,rfl,rfl,rfl,rfl⟩
  |succ i=>
   have:=ih i (by simpa using h);rw[show(i+1) * 5=i * 5+1+1+1+1+1 by omega];simpa using this
structure OR(w:World)(base:Nat)(e:EM)(x:Ent):Prop where
 key:e.key=x.key
 time:e.time=x.time
 seq:e.seq=x.seq
 met:e.met=x.met
 len:e.row.2.1=x.row.length
 row:AA w base (hdV e.row) x.row
theorem OR.er{e:EM}(h:OR w base e x):ER w e x:=⟨h.key,h.time,h.seq,h.met,h.len,by
 have a:=h.row;have c:=h.len;obtain⟨j,q,p,⟨d,m,f⟩,k⟩:=e;unfold hdV at a;dsimp only at a c⊢;rw[c]at a;exact Fg a⟩
structure OE(w:World)(base:Nat)(v:Value)(es:List EM)(l:List Ent):Prop where
 low:base<=w.heap.size
 own:w.ownsRow base 166 5 v es.length (A1 es)
 len:es.length=l.length
 rows:∀i,i<l.length->OR w base (es.getD i ϰ) (l.getD i ϰ)
theorem E4(h:base<=w.heap.size):OE w base (vS none 0 0) [] []:=⟨h,World.ownsRow_nil _ _ _ _,rfl,λi a=>absurd a (Nat.not_lt_zero i)⟩
theorem OE.form{c:List EM}(h:OE w base v c l):∃d a,v=vS d c.length a:=by
 rcases h.own.2 with⟨rfl,f⟩|⟨g,a,j,rfl,_⟩
 ·exact⟨none,0,by rw[f]⟩
 ·exact⟨_,_,rfl⟩
theorem OE.ers{a:List EM}(h:OE w base v a l):ERs w a l:=⟨h.len,λi c=>(h.rows i c).er⟩
theorem OE.at{cap:Nat}{ad:Ϛ}{c:List EM}(h:OE w base (vS ad c.length cap) c l):Cm w ad c:=by
 intro i f;rcases h.own.2 with⟨d,t⟩|⟨g,r,s,d,u,z,y⟩
 ·omega
 ·cases d
  have a:=World.ownsRow.cells h.own (g:=g) rfl;obtain⟨j,k,m,p,q⟩:=Ie c i f;refine⟨g,0,rfl,?_,?_,?_,?_,?_⟩
  ·have:=a _ _ j;rw[C3]at this;exact this
  ·have:=a _ _ k;rw[C3]at this;exact this
  ·have:=a _ _ m;rw[C3]at this;exact this
  ·have:=a _ _ p;rw[C3]at this;exact this
  ·have:=a _ _ q;rw[C3]at this;exact this
theorem OE.below{c:List EM}(h:OE w base v c l)(a:Ϝ w w'):OE w' base v c l:=
 ⟨Nat.le_trans h.low a.size,own_below h.own a,h.len,λi q=>by
  obtain⟨d,f,j,k,m,p⟩:=h.rows i q;exact⟨d,f,j,k,m,own_below p a⟩⟩
theorem OE.mono{c:List EM}(h:OE w base v c l)(a:base'<=base):OE w base' v c l:=
 ⟨Nat.le_trans a h.low,Di h.own a,h.len,λi q=>by
  obtain⟨d,f,j,k,m,p⟩:=h.rows i q;exact⟨d,f,j,k,m,Di p a⟩⟩
theorem OE.same{j:List EM}(h:OE w base v j l)(z:w.heap.size<=w'.heap.size)(k:∀g c t,w.heap[g]? =some (.cells c t (0,0))->(v.ownBlock=some g/\t=166)\/t=119->w'.heap[g]? =w.heap[g]?):OE w' base v j l:=
 ⟨Nat.le_trans h.low z,A4 h.own (λg a=>by
  rcases h.own.2 with⟨rfl,_⟩|⟨b,u,c,rfl,_,d,_⟩
  ·cases a
  ·cases a
   exact k _ _ _ d (.inl ⟨rfl,rfl⟩)),h.len,λi y=>by
  obtain⟨m,p,q,r,s,f⟩:=h.rows i y;refine⟨m,p,q,r,s,A4 f (λg a=>?_)⟩;rcases f.2 with⟨e,_⟩|⟨b,u,c,e,_,d,_⟩
  ·rw[e]at a;cases a
  ·rw[e]at a;cases a;exact k _ _ _ d (.inr rfl)⟩
theorem LW{a c:ϙ}{d:List EM}{e:EM}{cap2:Nat}{o:Obj}(h:OE w base v d l)(t:Ϝ w a)(K:OR a base e x)
 (H:c.ownsRow base 166 5 (vS (τ g) (d.length+1) cap2) (d.length+1) (A1 d++[.string e.key,vI e.time,vI e.seq,hdV e.row,.bool e.met])) (q:(a.alloc o).grownBy c v.ownBlock):
 OE c base (vS (τ g) (d.length+1) cap2) (d++[e]) (l++[x])/\Below base w c:=by
 have f:=h.below t;have I:a.heap.size<=c.heap.size:=by have:=q.size;simp at this;omega
 have F:∀b,b<a.heap.size->v.ownBlock≠some b->c.heap[b]? =a.heap[b]? :=λb j G=>by
  rw[q.block b Ϣ (λe=>G e.symm)];exact Below.heap_alloc _ _ b j
 have y:∀{p:EM} {s:Ent},OR a base p s->OR c base p s:=λ{p s} k=>by
  obtain⟨z,A,C,D,E,m⟩:=k;refine⟨z,A,C,D,E,A4 m (λb j=>F b (AE m j).2 (λJ=>?_))⟩;exact I5 f.own m Ϟ J j
 refine⟨⟨Nat.le_trans f.low I,?_,by rw[lAp,lAp,h.len];rfl,λi u=>?_⟩,?_⟩
 ·rw[lAp,IK];exact H
 ·rw[lAp]at u;by_cases r:i<l.length
  ·rw[Bc (by rw[h.len];exact r),Bc r];exact y (f.rows i r)
  ·have:i=l.length:=by simp at u;omega
   subst this;rw[AP (by rw[h.len];exact Nat.le_refl _),AP nR,h.len,Nat.sub_self];exact y K
 ·exact((t.mono h.low).alloc f.low o).grown q (by simp;have:=f.low;omega) (λb j=>(AE f.own j).1)
end bf
end Go.Proofs.YtfkihidbnfkbaaaGreatDoor
