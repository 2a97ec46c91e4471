import Derived.Test.YtfkihidbnfkbaaaGreatDoorPv8
set_option linter.all false
set_option maxHeartbeats 8000000
open Go.ChangeShapes Go.WideShapes Go.ChangeAt Go.RowKit Go.Shelf List
open Inhabited renaming default->ϰ
namespace Go.Proofs.YtfkihidbnfkbaaaGreatDoor
open Go.Proofs.Tryz
namespace bf
open vl
attribute [local go_sem] Oper.semAt_some
variable {B M b i n o : Nat} {W W' : Ϙ} {v : Value} {l : List Ent} {ps : List Plc}
def AZ(x:Ent):Plc:=(x.key,x.time,x.seq)
theorem Uf{a b:Ent}:AZ a=AZ b↔D4 a b:=by
 unfold AZ D4;simp[Prod.mk.injEq]
def hasB(l:List Ent)(p:Plc):Bool:=l.any λx=>decide (AZ x=p)
def ES:Nat->Obj->Prop:=λ_ _=>True
theorem Af:names ES W b:=λ_ _=>trivial
theorem BV(h:Below n W W')(c:W.heap.size<=n):Ap ES W W':=λb o a _ _=>(h.block b (by have:=(Array.getElem?_eq_some_iff.1 a).1;omega)).trans a
theorem F9{w V:Ϙ}{b:Buf}{x:BX}(h:bufAt w b x)(u:ϛ w V)(B:Nat)(d:Nat->Obj->Prop)(j:Δ V B 0 (vI b.lim))(m:Δ V B 1 (hdV x.m.1))(q:Δ V B 2 (vS x.ra x.rs.length x.rc))
 (t:names d V B) (k:∀b,b<w.heap.size->names d V b)
 (r:∀b c f,V.heap.size<=b->d b (.cells c 36 f)) (s:∀b c f,V.heap.size<=b->d b (.cells c 247 f)):
 WK Tryz.prog 276 #[μ B] ((ems (x.m::x.rs)).map λe=>#[e.val]) (Ap d) V:=
 Xo B b.lim x.ra x.rc x.m x.rs d V (ZU (Al h u) j m q) t (λa ha A=>k _ (Z8 h ha A)) (λp z a j ha=>by
  obtain⟨C,o,e,y,_⟩:=h.ems p z 0 j;rw[ha]at e;cases e;exact k _ (bLt _ _ y)) r s
theorem BA(h:ϛ W W'):KeepsFrom B W W':=⟨h.size,λk o _ a _=>(h.block k (Array.getElem?_eq_some_iff.1 a).1).trans a⟩
theorem Cj{D:Nat}{x:Obj}(h:Δ W b o v)(c:W.heap[D]? =some x)(d:x.isCells=false)(a:Obj):Δ (W.putObj D a) b o v:=
 cell_kept h (grownBy_putObj' W D a) (λr e=>by cases e;exact⟨x,c,d⟩)
theorem YE(b:Buf)(x:BX)(p:Plc)(w:Ϙ)(h:bufAt w b x):
 η 350 #[AY b x,B6 p] w (θ w (.bool (hasB (Ab b) p))):=by
 have HB:Ϛ (bufAt w b x):=h;have HE:=Dl h;have aa:Ϛ (ERs w (ems (x.m::x.rs)) (Ab b)):=HE;obtain⟨L,hL⟩:=nM (Ab b);rw[hL]at aa⊢;clear hL h HE;obtain⟨R,hR⟩:=nM (hasB L p);have ah:Ϛ (hasB L p=R):=hR;rw[hR];clear hR;obtain⟨q,s,⟨⟨a,d,f⟩,ml⟩,rs⟩:=x;obtain⟨m,au,av⟩:=b;obtain⟨y,C,ps⟩:=p;unfold AY hdV B6;dsimp only at aa⊢;obtain⟨n,hn⟩:∃n,rs.length=n:=⟨_,rfl⟩;have HN:Ϛ (rs.length=n):=hn;rw[hn];clear hn;refine(callsIn_wide (n:=0)).1 ?_;refine callsIn_of_wp_marks func350 rfl trivial ?_ rfl;simp only[ntmps350,size_toArray,length_cons,length_nil,Nat.reduceAdd,Nat.reduceSub,Array.replicate_succ,Array.replicate_zero,push_toArray,append_toArray,nil_append,cons_append]
 gi_wp2_with (refine⟨trivial,rfl,?_⟩;gi_at_call 237;refine(callsIn_wide.2 (Hp _ _ _ rfl rfl rfl _)).mono ?_;rintro e w' ⟨rfl,rfl⟩)
 have V0:Δ (ξ (ξ (ξ (ξ w (ν m a d f q n s) 36) #[.string y,vI C,vI ps] 340) #[ϋ] 4) (ν m a d f q n s) 36) (w+1) 0 (.string y):=Ϡ;have V1:Δ (ξ (ξ (ξ (ξ w (ν m a d f q n s) 36) #[.string y,vI C,vI ps] 340) #[ϋ] 4) (ν m a d f q n s) 36) (w+1) 1 (vI C):=Ϡ;have V2:Δ (ξ (ξ (ξ (ξ w (ν m a d f q n s) 36) #[.string y,vI C,vI ps] 340) #[ϋ] 4) (ν m a d f q n s) 36) (w+1) 2 (vI ps):=Ϡ;have V3:Δ (ξ (ξ (ξ (ξ w (ν m a d f q n s) 36) #[.string y,vI C,vI ps] 340) #[ϋ] 4) (ν m a d f q n s) 36) (w+1+1) 0 (.bool false):=Ϡ;have V4:Ξ (ξ (ξ (ξ (ξ w (ν m a d f q n s) 36) #[.string y,vI C,vI ps] 340) #[ϋ] 4) (ν m a d f q n s) 36) (w+1+1) 0:=Ϡ;have V5:Δ (ξ (ξ (ξ (ξ w (ν m a d f q n s) 36) #[.string y,vI C,vI ps] 340) #[ϋ] 4) (ν m a d f q n s) 36) (w+1+1+1) 0 (vI m):=Ϡ;have V6:Δ (ξ (ξ (ξ (ξ w (ν m a d f q n s) 36) #[.string y,vI C,vI ps] 340) #[ϋ] 4) (ν m a d f q n s) 36) (w+1+1+1) 1 (vS a d f):=Ϡ;have V7:Δ (ξ (ξ (ξ (ξ w (ν m a d f q n s) 36) #[.string y,vI C,vI ps] 340) #[ϋ] 4) (ν m a d f q n s) 36) (w+1+1+1) 2 (vS q n s):=Ϡ;have V8:ϛ w (ξ (ξ (ξ (ξ w (ν m a d f q n s) 36) #[.string y,vI C,vI ps] 340) #[ϋ] 4) (ν m a d f q n s) 36):=by
  repeat (first|exact bR|(refine Below.alloc ?_ ϣ _))
 have V9:((((w.alloc (.cells (ν m a d f q n s) 36)).alloc (.cells #[.string y,vI C,vI ps] 340)).alloc (.cells #[ϋ] 4)).alloc (.cells (ν m a d f q n s) 36)).heap.size=w.heap.size+1+1+1+1:=Ϟ;generalize ((((w.alloc (.cells (ν m a d f q n s) 36)).alloc (.cells #[.string y,vI C,vI ps] 340)).alloc (.cells #[ϋ] 4)).alloc (.cells (ν m a d f q n s) 36))=V at *;have af:=F9 HB.o V8 (w.heap.size+1+1+1) ES V5 V6 (by rw[HN.o];exact V7) Af (λ_ _=>Af) (λ_ _ _ _=>trivial) (λ_ _ _ _=>trivial);dsimp only at af;obtain⟨E,N⟩:=nM (ems ((((a,d,f):Hdr),ml)::rs));rw[N]at af aa;clear N;refine CM (gf:=276) (lb:=#[.pointer (some ⟨w+1+1+1,0,none⟩)]) rfl (enters_of func276 ϟ rfl) af bR (λx Q=>by obtain⟨p,_,rfl⟩:=mem_map.1 Q;rfl) (λh k=>Ap.trans h k) (λW l o o' _ h ho=>Ap.put W l o o' h ho)
  (λi X=>(∀j,j<i->AZ (L.getD j ϰ)≠(y,C,ps))/\Ap ES V X/\Ξ X (w+1+1) 0/\ϛ w X) (λc X=>c= .ret/\true=R/\Δ X (w+1+1) 0 (.bool true)/\ϛ w X)
  (λi X X' aj H F G=>⟨H.1,H.2.1.grown F (λr e=>(G r e).2),(frozen_kept (H.2.1.cell Af V3) F (λr e=>(G r e).2)).trans H.2.2.1,C6 H.2.2.2 nR Ϝ F G⟩)
  (λc X X' aj H F G=>⟨H.1,H.2.1,cell_kept H.2.2.1 F (λr e=>(G r e).2),C6 H.2.2.2 nR Ϝ F G⟩)
  ⟨λj O=>absurd O (Nat.not_lt_zero j),Ap.refl _ _,V4,V8⟩
  (λi a' X=> ∃B,a'={tmps:=#[.agg #[vI m,vS a d f,vS q n s],.agg #[.string y,vI C,vI ps],.pointer (some ⟨w,0,none⟩),.pointer (some ⟨w+1,0,none⟩),.pointer (some ⟨w+1+1,0,none⟩),.pointer (some ⟨B,0,none⟩),.agg #[vI m,vS a d f,vS q n s],.func (.func 276) #[] #[.pointer (some ⟨w+1+1+1,0,none⟩)],(E.getD i ϰ).val,undef,undef,undef,undef],defers:=[]}/\ό X B (.string (E.getD i ϰ).key) (vI (E.getD i ϰ).time) (vI (E.getD i ϰ).seq) (hdV (E.getD i ϰ).row) (.bool (E.getD i ϰ).met))
  (λi a' u X X' aj H F G=>by
   obtain⟨B,h1,h2,h3,h4,h5,h6⟩:=H;exact⟨B,h1,cell_kept h2 F (λr e=>(G r e).2),cell_kept h3 F (λr e=>(G r e).2),cell_kept h4 F (λr e=>(G r e).2),cell_kept h5 F (λr e=>(G r e).2),cell_kept h6 F (λr e=>(G r e).2)⟩) ?assign ?body ?done ?stop
 case assign=>
  intro l' k x X K Q hi U;obtain⟨hk,ai⟩:=List.getElem?_eq_some_iff.1 Q;rw[lMp]at hk;rw[getElem_map]at ai;subst ai;have hd:E.getD k ϰ=E[k]:=by rw[gDe,gEe hk];rfl
  have P:=U;rw[hd]at P;clear U hd Q;obtain⟨⟨T,et,es,⟨r1,r2,r3⟩,em⟩,hz⟩:∃z,E[k]=z:=⟨_,rfl⟩;rw[hz]at P⊢;unfold EM.val hdV at P⊢;dsimp only at P⊢;obtain⟨Y,I,j3,J⟩:=hi
  gi_wp2
  have lX:w.heap.size+1+1<X.heap.size:=bLt _ _ (I.cell Af V3);exact P _ _ ((KeepsOthers.alloc _ _).from _) (Ap.alloc _ _) ⟨Y,I.trans (Ap.alloc _ _),Ϡ,J.alloc J.size _⟩ ⟨X.heap.size,rfl,Ϡ,Ϡ,Ϡ,Ϡ,Ϡ⟩
 case body=>
  intro l' i x a' X Q ao ar an ae;obtain⟨Y,I,j3,J⟩:=an;obtain⟨B,ae,b0,b1,b2,b3,b4⟩:=ae;subst ae;obtain⟨hi,_⟩:=List.getElem?_eq_some_iff.1 Q;rw[lMp]at hi;have am:=aa.o.1;have ab:=aa.o.2 i Ϝ;have KP:Ϛ (∀w1,CT 275 #[(E.getD i ϰ).val] w1 (θ w1 (.agg #[.string (E.getD i ϰ).key,vI (E.getD i ϰ).time,vI (E.getD i ϰ).seq]))):=λw1=>Gu _ w1;have ac:AZ (L.getD i ϰ)=((E.getD i ϰ).key,(E.getD i ϰ).time,(E.getD i ϰ).seq):=by unfold AZ;rw[ab.key,ab.time,ab.seq]
  have ak:Ϛ (L.getD i ϰ∈L):=by show _∈_;rw[gDe,gEe Ϝ];simp
  obtain⟨⟨T,et,es,⟨r1,r2,r3⟩,em⟩,hz⟩:∃z,E.getD i ϰ=z:=⟨_,rfl⟩;rw[hz]at KP b0 b1 b2 b3 b4 ac⊢;unfold EM.val hdV at KP;unfold hdV at b3;dsimp only at KP b0 b1 b2 b3 b4 ac;have ag:Ϛ (AZ (L.getD i ϰ)=(T,et,es)):=ac;have c0:=I.cell Af V0;have c1:=I.cell Af V1;have c2:=I.cell Af V2;have c3:=I.cell Af V3;have lX:w.heap.size+1+1<X.heap.size:=bLt _ _ c3;have ap:Tryz.prog.follows .mixedOrders=true:=ϟ;clear hz ac ab am Q;by_cases N:(T,et,es)=(y,C,ps)
  ·have HE:Ϛ (true=R):=by
    show _=_;rw[<-ah.o];exact(any_eq_true.2 ⟨_,ak.o,by rw[ag.o];simpa using N⟩).symm
   injection N with S al
   injection al with e2 e3
   subst S e2 e3
   gi_wp2
   gi_region_with_o (refine⟨trivial,rfl,?_⟩;gi_at_call 275;refine(CallsIn.inRound l' (callsIn_wide.2 (KP.o _))).mono ?_;rintro e Z ⟨rfl,t⟩;have k0:=cLz t c0;have k1:=cLz t c1;have k2:=cLz t c2;have k3:=cLz t c3;have kf:Ξ Z (w+1+1) 0:=(by rw[t.frozen (p:=⟨w+1+1,0,none⟩) lX];exact j3);have A:ϛ X Z:=bR.drew.trans t)
   all_goals
    gi_wp2
    exact⟨(BA A).trans ((KeepsOthers.setCell _ _ _).from _),rfl,HE.o,World.cell?_setCell_same _ _ _ k3,(bT J A).setCell Ϣ _⟩
  ·have aq:((T.toList==y.toList)&&((et==C)&&(es==ps)))=false:=by
    rw[bytes_beq];by_cases S:T=y
    ·by_cases e2:et=C
     ·have e3:es≠ps:=λe3=>N (by rw[S,e2,e3]);simp[S,e2,e3]
     ·simp[S,e2]
    ·simp[S]
   have ad:Ϛ (AZ (L.getD i ϰ)≠(y,C,ps)):=by show _≠_;rw[ag.o];exact N
   by_cases t1:T.toList=y.toList
   ·by_cases t2:et=C
    ·have t3:(es==ps)=false:=by
      rw[beq_eq_false_iff_ne];intro e3;have S:T=y:=by have:=bytes_beq T y;rw[t1]at this;simpa using this.symm
      exact N (by rw[S,t2,e3])
     subst t2
     gi_wp2
     gi_region_with_o (refine⟨trivial,rfl,?_⟩;gi_at_call 275;refine(CallsIn.inRound l' (callsIn_wide.2 (KP.o _))).mono ?_;rintro e Z ⟨rfl,t⟩;have k0:=cLz t c0;have k1:=cLz t c1;have k2:=cLz t c2;have A:ϛ X Z:=bR.drew.trans t)
     all_goals
      gi_wp2
      exact⟨BA A,BV A nR,λj O=>by
       rcases Nat.lt_succ_iff_lt_or_eq.1 O with h|h
       ·exact Y j h
       ·rw[h];exact ad.o,I.trans (BV A nR),by rw[A.frozen (p:=⟨w+1+1,0,none⟩) lX];exact j3,bT J A⟩
    ·have aw:(et==C)=false:=by simpa using t2
     gi_wp2
     gi_region_with_o (refine⟨trivial,rfl,?_⟩;gi_at_call 275;refine(CallsIn.inRound l' (callsIn_wide.2 (KP.o _))).mono ?_;rintro e Z ⟨rfl,t⟩;have k0:=cLz t c0;have k1:=cLz t c1;have k2:=cLz t c2;have A:ϛ X Z:=bR.drew.trans t)
     all_goals
      gi_wp2
      exact⟨BA A,BV A nR,λj O=>by
       rcases Nat.lt_succ_iff_lt_or_eq.1 O with h|h
       ·exact Y j h
       ·rw[h];exact ad.o,I.trans (BV A nR),by rw[A.frozen (p:=⟨w+1+1,0,none⟩) lX];exact j3,bT J A⟩
   ·skip
    gi_wp2
    gi_region_with_o (refine⟨trivial,rfl,?_⟩;gi_at_call 275;refine(CallsIn.inRound l' (callsIn_wide.2 (KP.o _))).mono ?_;rintro e Z ⟨rfl,t⟩;have k0:=cLz t c0;have k1:=cLz t c1;have k2:=cLz t c2;have A:ϛ X Z:=bR.drew.trans t)
    all_goals
     gi_wp2
     exact⟨BA A,BV A nR,λj O=>by
      rcases Nat.lt_succ_iff_lt_or_eq.1 O with h|h
      ·exact Y j h
      ·rw[h];exact ad.o,I.trans (BV A nR),by rw[A.frozen (p:=⟨w+1+1,0,none⟩) lX];exact j3,bT J A⟩
 case done=>
  rintro D X hD ⟨Y,I,j3,J⟩ U;have c3:=I.cell Af V3;have HE:Ϛ (false=R):=by
   show _=_;rw[<-ah.o]
   symm
   rw[lMp]at Y;refine any_eq_false.2 (λx Q=>?_);obtain⟨j,O,rfl⟩:=getElem_of_mem Q;have:=Y j (by rw[aa.o.1];exact O);rw[gDe,gEe O]at this;simpa using this
  gi_wp2
  have P:(X.setCell ⟨w+1+1,0,none⟩ (.bool false)).heap[D]? =some (.deferred (some [])):=(heap_setCell_other _ _ _ _ Ϣ).trans U;refine⟨Ϟ,.inl ⟨_,_,rfl,run_takeDeferred P,?_⟩⟩;have y3:=Cj (World.cell?_setCell_same _ _ (.bool false) c3) P rfl (.deferred none);exact⟨.bool false,(by simp[results,results350,go_sem,y3]),Aa HE.o,Ch (J.setCell Ϣ _) Ϝ P _⟩
 case stop=>
  rintro D c X hD ⟨rfl,N,c3,J⟩ U
  gi_wp2
  refine⟨Ϟ,.inl ⟨_,_,rfl,run_takeDeferred U,?_⟩⟩;have y3:=Cj c3 U rfl (.deferred none);exact⟨.bool true,(by simp[results,results350,go_sem,y3]),Aa N,Ch J Ϝ U _⟩
def GF(l:List Ent):Bool:=decide ((l.map AZ).Nodup)
def Dm(l:List Ent)(i:Nat):List Plc:=(l.take i).map AZ
theorem JJ(h:i<l.length):Dm l (i+1)=Dm l i++[AZ (l.getD i ϰ)]:=by
 unfold Dm;rw[take_succ_eq_append_getElem h,map_append,gDe,gEe h];rfl
theorem Rr(h:(Dm l l.length).Nodup):GF l=true:=by
 unfold Dm at h;rw[take_length]at h;exact decide_eq_true h
theorem Aai(h:i<l.length)(c:AZ (l.getD i ϰ)∈Dm l i):GF l=false:=by
 refine decide_eq_false (λa=>?_);have e:l.map AZ=Dm l (i+1)++(l.drop (i+1)).map AZ:=by
  unfold Dm;rw[<-map_append,take_append_drop]
 rw[e,JJ h]at a;have:=(nodup_append.1 (nodup_append.1 a).1).2.2 _ c _ (mem_singleton.2 rfl);exact this rfl
theorem Rs(h:i<l.length)(f:(Dm l i).Nodup)(d:AZ (l.getD i ϰ) ∉ Dm l i):(Dm l (i+1)).Nodup:=by
 rw[JJ h];refine nodup_append.2 ⟨f,Ϟ,λa ha b c=>?_⟩;rw[mem_singleton.1 c];exact λe=>d (by rw[<-e];exact ha)
theorem Fa(h:CR W M ps)(c:Below n W W')(a:M<n):CR W' M ps:=(c.block M a).trans h
theorem P6(a:W.grownBy W' (some M))(c:M<B):KeepsFrom B W W':=⟨a.size,λk o d h _=>(a.block k (Array.getElem?_eq_some_iff.1 h).1 (λe=>by cases e;omega)).trans h⟩
theorem Wj{a:Nat->Obj->Prop}(d:CR W M ps)(c:W.grownBy W' (some M)):Ap a W W':=(Ap.refl a W).grown c (λr e=>by cases e;exact⟨_,d,rfl⟩)
theorem cell_grown(c:CR W M ps)(a:W.grownBy W' (some M))(h:Δ W b o v):Δ W' b o v:=cell_kept h a (λr e=>by cases e;exact⟨_,c,rfl⟩)
theorem LD(d:CR W M ps)(c:W.grownBy W' (some M))(h:Δ W b o v)(a:Ξ W b o):Ξ W' b o:=(frozen_kept h c (λr e=>by cases e;exact⟨_,d,rfl⟩)).trans a
theorem Ug(b:Buf)(x:BX)(w:Ϙ)(h:bufAt w b x)(hw:∀y∈Ab b,wfP (AZ y)):
 η 236 #[AY b x] w (θ w (.bool (!GF (Ab b)))):=by
 have HB:Ϛ (bufAt w b x):=h;have aa:Ϛ (ERs w (ems (x.m::x.rs)) (Ab b)):=Dl h;obtain⟨L,hL⟩:=nM (Ab b);rw[hL]at aa hw⊢;have HW:Ϛ (∀y∈L,wfP (AZ y)):=hw;clear hL h hw;obtain⟨R,hR⟩:=nM (!GF L);have al:Ϛ ((!GF L)=R):=hR;rw[hR];clear hR;obtain⟨q,s,⟨⟨d,f,j⟩,ml⟩,rs⟩:=x;obtain⟨m,a0,a1⟩:=b;unfold AY hdV;dsimp only at aa⊢;obtain⟨n,hn⟩:∃n,rs.length=n:=⟨_,rfl⟩;have HN:Ϛ (rs.length=n):=hn;rw[hn];clear hn;have au:=@run_makeMap Tryz.prog;refine(callsIn_wide (n:=0)).1 ?_;refine callsIn_of_wp_marks func236 rfl trivial ?_ rfl;simp only[ntmps236,size_toArray,length_cons,length_nil,Nat.reduceAdd,Nat.reduceSub,Array.replicate_succ,Array.replicate_zero,push_toArray,append_toArray,nil_append,cons_append]
 gi_wp2_with (refine⟨trivial,rfl,?_⟩;gi_at_call 237;refine(callsIn_wide.2 (Hp _ _ _ rfl rfl rfl _)).mono ?_;rintro e w' ⟨rfl,rfl⟩)
 have V0:Δ (ξ (ξ (((w.alloc (.cells (ν m d f j q n s) 36)).alloc (.cells #[ϋ] 4)).alloc (.map #[] 0)) #[.map (some (w.heap.size+1+1))] 338) (ν m d f j q n s) 36) (w+1+1+1) 0 (.map (some (w.heap.size+1+1))):=Ϡ;have V2:CR (ξ (ξ (((w.alloc (.cells (ν m d f j q n s) 36)).alloc (.cells #[ϋ] 4)).alloc (.map #[] 0)) #[.map (some (w.heap.size+1+1))] 338) (ν m d f j q n s) 36) (w.heap.size+1+1) []:=by
  show(((((w.alloc (.cells (ν m d f j q n s) 36)).alloc (.cells #[ϋ] 4)).alloc (.map #[] 0)).alloc (.cells #[.map (some (w.heap.size+1+1))] 338)).alloc (.cells (ν m d f j q n s) 36)).heap[w.heap.size+1+1]? =some (.map #[] 0);have h:=World.alloc_heap_new (ξ (ξ w (ν m d f j q n s) 36) #[ϋ] 4) (.map #[] 0);rw[World.size_alloc,World.size_alloc]at h;rw[Below.heap_alloc _ _ _ Ϟ,Below.heap_alloc _ _ _ Ϟ];exact h
 have V3:Δ (ξ (ξ (((w.alloc (.cells (ν m d f j q n s) 36)).alloc (.cells #[ϋ] 4)).alloc (.map #[] 0)) #[.map (some (w.heap.size+1+1))] 338) (ν m d f j q n s) 36) (w+1) 0 (.bool false):=Ϡ;have V4:Ξ (ξ (ξ (((w.alloc (.cells (ν m d f j q n s) 36)).alloc (.cells #[ϋ] 4)).alloc (.map #[] 0)) #[.map (some (w.heap.size+1+1))] 338) (ν m d f j q n s) 36) (w+1) 0:=Ϡ;have V5:Δ (ξ (ξ (((w.alloc (.cells (ν m d f j q n s) 36)).alloc (.cells #[ϋ] 4)).alloc (.map #[] 0)) #[.map (some (w.heap.size+1+1))] 338) (ν m d f j q n s) 36) (w+1+1+1+1) 0 (vI m):=Ϡ;have V6:Δ (ξ (ξ (((w.alloc (.cells (ν m d f j q n s) 36)).alloc (.cells #[ϋ] 4)).alloc (.map #[] 0)) #[.map (some (w.heap.size+1+1))] 338) (ν m d f j q n s) 36) (w+1+1+1+1) 1 (vS d f j):=Ϡ;have V7:Δ (ξ (ξ (((w.alloc (.cells (ν m d f j q n s) 36)).alloc (.cells #[ϋ] 4)).alloc (.map #[] 0)) #[.map (some (w.heap.size+1+1))] 338) (ν m d f j q n s) 36) (w+1+1+1+1) 2 (vS q n s):=Ϡ;have V8:ϛ w (ξ (ξ (((w.alloc (.cells (ν m d f j q n s) 36)).alloc (.cells #[ϋ] 4)).alloc (.map #[] 0)) #[.map (some (w.heap.size+1+1))] 338) (ν m d f j q n s) 36):=by
  repeat (first|exact bR|(refine Below.alloc ?_ ϣ _))
 have V9:(((((w.alloc (.cells (ν m d f j q n s) 36)).alloc (.cells #[ϋ] 4)).alloc (.map #[] 0)).alloc (.cells #[.map (some (w.heap.size+1+1))] 338)).alloc (.cells (ν m d f j q n s) 36)).heap.size=w.heap.size+1+1+1+1+1:=Ϟ;generalize (((((w.alloc (.cells (ν m d f j q n s) 36)).alloc (.cells #[ϋ] 4)).alloc (.map #[] 0)).alloc (.cells #[.map (some (w.heap.size+1+1))] 338)).alloc (.cells (ν m d f j q n s) 36))=V at *;have ak:=F9 HB.o V8 (w.heap.size+1+1+1+1) ES V5 V6 (by rw[HN.o];exact V7) Af (λ_ _=>Af) (λ_ _ _ _=>trivial) (λ_ _ _ _=>trivial);dsimp only at ak;obtain⟨E,hE⟩:=nM (ems ((((d,f,j):Hdr),ml)::rs));rw[hE]at ak aa;clear hE au;refine CM (gf:=276) (lb:=#[.pointer (some ⟨w+1+1+1+1,0,none⟩)]) rfl (enters_of func276 ϟ rfl) ak bR (λx hx=>by obtain⟨p,_,rfl⟩:=mem_map.1 hx;rfl) (λh k=>Ap.trans h k) (λW l o o' _ h ho=>Ap.put W l o o' h ho)
  (λi X=>(Dm L i).Nodup/\CR X (w.heap.size+1+1) (Dm L i)/\Ap ES V X/\Ξ X (w+1) 0/\ϛ w X) (λc X=>c= .ret/\true=R/\Δ X (w+1) 0 (.bool true)/\ϛ w X)
  (λi X X' ao N O P=>⟨N.1,(O.block _ (F7 N.2.1) (λe=>by have:=(P _ e.symm).1;omega)).trans N.2.1,N.2.2.1.grown O (λr e=>(P r e).2),(frozen_kept (N.2.2.1.cell Af V3) O (λr e=>(P r e).2)).trans N.2.2.2.1,C6 N.2.2.2.2 nR Ϝ O P⟩)
  (λc X X' ao N O P=>⟨N.1,N.2.1,cell_kept N.2.2.1 O (λr e=>(P r e).2),C6 N.2.2.2 nR Ϝ O P⟩)
  ⟨nodup_nil,V2,Ap.refl _ _,V4,V8⟩
  (λi U X=> ∃B,U={tmps:=#[.agg #[vI m,vS d f j,vS q n s],.pointer (some ⟨w,0,none⟩),.pointer (some ⟨w+1,0,none⟩),.pointer (some ⟨w+1+1+1,0,none⟩),.pointer (some ⟨B,0,none⟩),.map (some (w.heap.size+1+1)),.agg #[vI m,vS d f j,vS q n s],.func (.func 276) #[] #[.pointer (some ⟨w+1+1+1+1,0,none⟩)],(E.getD i ϰ).val,undef,undef,undef,undef,undef,undef,undef,undef,undef,undef,undef,undef],defers:=[]}/\ό X B (.string (E.getD i ϰ).key) (vI (E.getD i ϰ).time) (vI (E.getD i ϰ).seq) (hdV (E.getD i ϰ).row) (.bool (E.getD i ϰ).met))
  (λi U u X X' ao N O P=>by
   obtain⟨B,h1,h2,h3,h4,h5,h6⟩:=N;exact⟨B,h1,cell_kept h2 O (λr e=>(P r e).2),cell_kept h3 O (λr e=>(P r e).2),cell_kept h4 O (λr e=>(P r e).2),cell_kept h5 O (λr e=>(P r e).2),cell_kept h6 O (λr e=>(P r e).2)⟩) ?assign ?body ?done ?stop
 case assign=>
  intro l' k x X K hx hi hK;obtain⟨hk,an⟩:=List.getElem?_eq_some_iff.1 hx;rw[lMp]at hk;rw[getElem_map]at an;subst an;have hd:E.getD k ϰ=E[k]:=by rw[gDe,gEe hk];rfl
  have Y:=hK;rw[hd]at Y;clear hK hd hx;obtain⟨⟨C,G,F,⟨r1,r2,r3⟩,em⟩,hz⟩:∃z,E[k]=z:=⟨_,rfl⟩;rw[hz]at Y⊢;unfold EM.val hdV at Y⊢;dsimp only at Y⊢;obtain⟨j1,j0,j2,j3,Z⟩:=hi
  gi_wp2
  have lX:w.heap.size+1<X.heap.size:=bLt _ _ (j2.cell Af V3);have lM:=F7 j0;exact Y _ _ ((KeepsOthers.alloc _ _).from _) (Ap.alloc _ _) ⟨j1,Fa j0 ϧ lM,j2.trans (Ap.alloc _ _),Ϡ,Z.alloc Z.size _⟩ ⟨X.heap.size,rfl,Ϡ,Ϡ,Ϡ,Ϡ,Ϡ⟩
 case body=>
  intro l' i x U X hx av ax ar af;obtain⟨j1,j0,j2,j3,Z⟩:=ar;obtain⟨B,af,b0,b1,b2,b3,b4⟩:=af;subst af;obtain⟨hi,_⟩:=List.getElem?_eq_some_iff.1 hx;rw[lMp]at hi;have aq:=aa.o.1;have aj:i<L.length:=Ϝ;have ac:=aa.o.2 i aj;have KP:Ϛ (∀w1,CT 275 #[(E.getD i ϰ).val] w1 (θ w1 (.agg #[.string (E.getD i ϰ).key,vI (E.getD i ϰ).time,vI (E.getD i ϰ).seq]))):=λw1=>Gu _ w1;have ab:AZ (L.getD i ϰ)=((E.getD i ϰ).key,(E.getD i ϰ).time,(E.getD i ϰ).seq):=by unfold AZ;rw[ac.key,ac.time,ac.seq]
  have ad:wfP (AZ (L.getD i ϰ)):=HW.o _ (by rw[gDe,gEe aj];simp);obtain⟨⟨C,G,F,⟨r1,r2,r3⟩,em⟩,hz⟩:∃z,E.getD i ϰ=z:=⟨_,rfl⟩;rw[hz]at KP b0 b1 b2 b3 b4 ab⊢;unfold EM.val hdV at KP;unfold hdV at b3;dsimp only at KP b0 b1 b2 b3 b4 ab;rw[ab]at ad;have c0:=j2.cell Af V0;have T:=j2.cell Af V3;have lX:w.heap.size+1<X.heap.size:=bLt _ _ T;have lM:=F7 j0;have aw:Tryz.prog.follows .mixedOrders=true:=ϟ;have ay:IntKind.i64.wrap 1=1:=by rw[IntKind.wrap_i64];omega
  have az:IntKind.i64.wrap 2=2:=by rw[IntKind.wrap_i64];omega
  have ae:Ϛ (AZ (L.getD i ϰ)=(C,G,F)):=ab;have HJ:Ϛ ((Dm L i).Nodup/\Ap ES V X/\i<L.length):=⟨j1,j2,aj⟩;clear hz ac aq hx ab;by_cases hm:(C,G,F)∈Dm L i
  ·have HO:Ϛ (∀W,CR W (w.heap.size+1+1) (Dm L i)->∃(b:Nat) (S H:Ϙ),
    (Instr.lookup 338 (.map (some (w.heap.size+1+1))) (.agg #[.string C,vI G,vI F]) false).run Tryz.prog W= .ok (vI 1) W/\
    (Instr.mapEntry 338 (.map (some (w.heap.size+1+1))) (.agg #[.string C,vI G,vI F])).run Tryz.prog W= .ok (.tuple #[vI 1,vI b]) S/\
    (Instr.lookup 338 (.map (some (w.heap.size+1+1))) (.agg #[.string C,vI G,vI F]) false).run Tryz.prog S= .ok (vI 1) S/\
    (Instr.entryStore 338 (.map (some (w.heap.size+1+1))) (vI b) (vI 2)).run Tryz.prog S= .ok () H/\
    (∀W5:World,W5.heap[w.heap.size+1+1]? =H.heap[w.heap.size+1+1]? ->(Instr.lookup 338 (.map (some (w.heap.size+1+1))) (.agg #[.string C,vI G,vI F]) false).run Tryz.prog W5= .ok (vI 2) W5)/\W.grownBy H (some (w.heap.size+1+1))):=λW hW=>by
    have h:=Yr hW ad hm;unfold B6 at h;exact h
   have HE:Ϛ (true=R):=by
    show _=_;rw[<-al.o,Aai HJ.o.2.2 (by rw[ae.o];exact hm)];rfl
   gi_wp2
   refine wpIn_mono (Q:=λe U W'=> ∃(bo:Nat) (I:Ϙ),e= .normal/\U={tmps:=#[.agg #[vI m,vS d f j,vS q n s],.pointer (some ⟨w,0,none⟩),.pointer (some ⟨w+1,0,none⟩),.pointer (some ⟨w+1+1+1,0,none⟩),.pointer (some ⟨B,0,none⟩),.map (some (w.heap.size+1+1)),.agg #[vI m,vS d f j,vS q n s],.func (.func 276) #[] #[.pointer (some ⟨w+1+1+1+1,0,none⟩)],EM.val ⟨C,G,F,(r1,r2,r3),em⟩,.map (some (w.heap.size+1+1)),.agg #[.string C,vI G,vI F,vS r1 r2 r3,.bool em],.agg #[.string C,vI G,vI F],vI 1,vI 2,.tuple #[vI 1,vI (bo:Nat)],vI (bo:Nat),undef,undef,undef,undef,undef],defers:=[]}/\ϛ X I/\CR I (w.heap.size+1+1) (Dm L i)/\(∀W5:World,W5.heap[w.heap.size+1+1]? =W'.heap[w.heap.size+1+1]? ->(Instr.lookup 338 (.map (some (w.heap.size+1+1))) (.agg #[.string C,vI G,vI F]) false).run Tryz.prog W5= .ok (vI 2) W5)/\I.grownBy W' (some (w.heap.size+1+1))) ?_ ?_
   ·gi_region_with_o (refine⟨trivial,rfl,?_⟩;gi_at_call 275;refine(CallsIn.inRound l' (callsIn_wide.2 (KP.o _))).mono ?_;rintro e I ⟨rfl,ag⟩;have a:ϛ X I:=bR.drew.trans ag;have k0:=cLz a c0;have A:CR I (w.heap.size+1+1) (Dm L i):=Fa j0 a lM;obtain⟨bo,S,H,o1,o2,o3,o4,o5,t⟩:=HO.o I A)
    all_goals exact⟨bo,I,rfl,rfl,a,A,o5,t⟩
   ·rintro e U H ⟨bo,I,rfl,rfl,a,A,o5,t⟩;have d0:=cell_grown A t (cLz a c0);have d3:=cell_grown A t (cLz a T);have df:=LD A t (cLz a T) (by rw[a.frozen (p:=⟨w+1,0,none⟩) lX];exact j3);have e0:=cell_grown A t (cLz a b0);have e1:=cell_grown A t (cLz a b1);have e2:=cell_grown A t (cLz a b2);have e3:=cell_grown A t (cLz a b3);have e4:=cell_grown A t (cLz a b4);have kx:KeepsFrom V.heap.size X H:=(BA a).trans (P6 t Ϝ);have ai:ϛ w H:=(bT Z a).grown t (by have:=a.size;omega) (λr e=>by cases e;omega);have l4:w.heap.size+1+1<H.heap.size:=by have:=a.size;have:=t.size;omega
    clear j0 A t a HO c0 T b0 b1 b2 b3 b4
    gi_wp2
    gi_region_with_o (refine⟨trivial,rfl,?_⟩;gi_at_call 275;refine(CallsIn.inRound l' (callsIn_wide.2 (KP.o _))).mono ?_;rintro e w5 ⟨rfl,ah⟩;have J:ϛ H w5:=bR.drew.trans ah;have k0:=cLz J d0;have k3:=cLz J d3;have kf:Ξ w5 (w+1) 0:=(by rw[J.frozen (p:=⟨w+1,0,none⟩) Ϣ];exact df);have lk:=o5 w5 (J.block _ l4))
    all_goals
     gi_wp2
     exact⟨(kx.trans (BA J)).trans ((KeepsOthers.setCell _ _ _).from _),rfl,HE.o,World.cell?_setCell_same _ _ _ k3,(bT ai J).setCell Ϣ _⟩
  ·have HO:Ϛ (∀W,CR W (w.heap.size+1+1) (Dm L i)->∃S H,
    (Instr.lookup 338 (.map (some (w.heap.size+1+1))) (.agg #[.string C,vI G,vI F]) false).run Tryz.prog W= .ok (vI 0) W/\
    (Instr.mapEntry 338 (.map (some (w.heap.size+1+1))) (.agg #[.string C,vI G,vI F])).run Tryz.prog W= .ok (.tuple #[ω,vI (Dm L i).length]) S/\
    (Instr.lookup 338 (.map (some (w.heap.size+1+1))) (.agg #[.string C,vI G,vI F]) false).run Tryz.prog S= .ok (vI 0) S/\
    (Instr.entryStore 338 (.map (some (w.heap.size+1+1))) (vI (Dm L i).length) (vI 1)).run Tryz.prog S= .ok () H/\
    CR H (w.heap.size+1+1) (Dm L i++[(C,G,F)])/\W.grownBy H (some (w.heap.size+1+1))):=λW hW=>by
    have h:=Yq hW ad hm;unfold B6 at h;exact h
   have ap:Ϛ (∀W,CR W (w.heap.size+1+1) (Dm L i++[(C,G,F)])->(Instr.lookup 338 (.map (some (w.heap.size+1+1))) (.agg #[.string C,vI G,vI F]) false).run Tryz.prog W= .ok (vI 1) W):=λW hW=>by
    have h:=VF hW ad hm;unfold B6 at h;exact h
   have HS:Ϛ (Dm L (i+1)=Dm L i++[(C,G,F)]/\(Dm L (i+1)).Nodup):=⟨by rw[JJ HJ.o.2.2,ae.o],Rs HJ.o.2.2 HJ.o.1 (by rw[ae.o];exact hm)⟩;obtain⟨pn,am⟩:=nM ((Dm L i).length);rw[am]at HO;clear am
   gi_wp2
   refine wpIn_mono (Q:=λe U W'=> ∃(I:Ϙ),e= .normal/\U={tmps:=#[.agg #[vI m,vS d f j,vS q n s],.pointer (some ⟨w,0,none⟩),.pointer (some ⟨w+1,0,none⟩),.pointer (some ⟨w+1+1+1,0,none⟩),.pointer (some ⟨B,0,none⟩),.map (some (w.heap.size+1+1)),.agg #[vI m,vS d f j,vS q n s],.func (.func 276) #[] #[.pointer (some ⟨w+1+1+1+1,0,none⟩)],EM.val ⟨C,G,F,(r1,r2,r3),em⟩,.map (some (w.heap.size+1+1)),.agg #[.string C,vI G,vI F,vS r1 r2 r3,.bool em],.agg #[.string C,vI G,vI F],vI 0,vI 1,.tuple #[vI 0,vI (pn:Nat)],vI (pn:Nat),undef,undef,undef,undef,undef],defers:=[]}/\ϛ X I/\CR I (w.heap.size+1+1) (Dm L i)/\CR W' (w.heap.size+1+1) (Dm L i++[(C,G,F)])/\I.grownBy W' (some (w.heap.size+1+1))) ?_ ?_
   ·gi_region_with_o (refine⟨trivial,rfl,?_⟩;gi_at_call 275;refine(CallsIn.inRound l' (callsIn_wide.2 (KP.o _))).mono ?_;rintro e I ⟨rfl,ag⟩;have a:ϛ X I:=bR.drew.trans ag;have k0:=cLz a c0;have A:CR I (w.heap.size+1+1) (Dm L i):=Fa j0 a lM;obtain⟨S,H,o1,o2,o3,o4,o5,t⟩:=HO.o I A)
    all_goals exact⟨I,rfl,rfl,a,A,o5,t⟩
   ·rintro e U H ⟨I,rfl,rfl,a,A,o5,t⟩;have d0:=cell_grown A t (cLz a c0);have d3:=cell_grown A t (cLz a T);have df:=LD A t (cLz a T) (by rw[a.frozen (p:=⟨w+1,0,none⟩) lX];exact j3);have e0:=cell_grown A t (cLz a b0);have e1:=cell_grown A t (cLz a b1);have e2:=cell_grown A t (cLz a b2);have e3:=cell_grown A t (cLz a b3);have e4:=cell_grown A t (cLz a b4);have kx:KeepsFrom V.heap.size X H:=(BA a).trans (P6 t Ϝ);have ko:Ap ES X H:=(BV a nR).trans (Wj A t);have ai:ϛ w H:=(bT Z a).grown t (by have:=a.size;omega) (λr e=>by cases e;omega);have l4:w.heap.size+1+1<H.heap.size:=F7 o5;clear j0 A t a HO c0 T b0 b1 b2 b3 b4
    gi_wp2
    gi_region_with_o (refine⟨trivial,rfl,?_⟩;gi_at_call 275;refine(CallsIn.inRound l' (callsIn_wide.2 (KP.o _))).mono ?_;rintro e w5 ⟨rfl,ah⟩;have J:ϛ H w5:=bR.drew.trans ah;have k0:=cLz J d0;have mm:CR w5 (w.heap.size+1+1) (Dm L i++[(C,G,F)]):=Fa o5 J l4;have lk:=ap.o w5 mm)
    all_goals
     gi_wp2
     exact⟨kx.trans (BA J),ko.trans (BV J nR),HS.o.2,by rw[HS.o.1];exact mm,HJ.o.2.1.trans (ko.trans (BV J nR)),by rw[J.frozen (p:=⟨w+1,0,none⟩) Ϣ];exact df,bT ai J⟩
 case done=>
  rintro D X hD ⟨j1,j0,j2,j3,Z⟩ hK;have T:=j2.cell Af V3;have HE:Ϛ (false=R):=by
   show _=_;rw[lMp,aa.o.1]at j1;rw[<-al.o,Rr j1];rfl
  clear j0
  gi_wp2
  have Y:(X.setCell ⟨w+1,0,none⟩ (.bool false)).heap[D]? =some (.deferred (some [])):=(heap_setCell_other _ _ _ _ Ϣ).trans hK;refine⟨Ϟ,.inl ⟨_,_,rfl,run_takeDeferred Y,?_⟩⟩;have y3:=Cj (World.cell?_setCell_same _ _ (.bool false) T) Y rfl (.deferred none);exact⟨.bool false,(by simp[results,results236,go_sem,y3]),Aa HE.o,Ch (Z.setCell Ϣ _) Ϝ Y _⟩
 case stop=>
  rintro D c X hD ⟨rfl,hE,T,Z⟩ hK
  gi_wp2
  refine⟨Ϟ,.inl ⟨_,_,rfl,run_takeDeferred hK,?_⟩⟩;have y3:=Cj T hK rfl (.deferred none);exact⟨.bool true,(by simp[results,results236,go_sem,y3]),Aa hE,Ch Z Ϝ hK _⟩
noncomputable def GG(l:List Ent):Bool:=allB l.length (EA l)
theorem MQ(h:Hdr)(k:List EM)(l:List Ent)(w:Ϙ)(u:h.2.1=l.length)(q:l.length<=χ)(ha:C5 w h.1 k)(j:ERs w k l)(z:∀x∈l,wfE x):
 η 234 #[hdV h] w (θ w (.bool (GG l))):=by
 obtain⟨a,n,c⟩:=h;unfold hdV;dsimp only at u ha⊢;subst u;have m:Ϛ (∀d,ϛ w d->Δ d w 0 (vS a l.length c)->CT 269 #[vS a l.length c,.func (.func 270) #[] #[μ w]] d (θ d (.bool (GG l)))):=λd p C=>by
  have h:=NX 270 (enters_of func270 ϟ rfl) #[μ w] (EA l) a c k d (by rw[j.1];exact q) (Cm ha p) (λi A t f=>TF a c k l i w.heap.size A (by rw[j.1]at t;exact t) q (cLz f C) (Cm (Cm ha p) f) ((j.below p).below f) z);rw[j.1]at h;exact h
 obtain⟨n,y⟩:=nM l.length;rw[y]at m⊢;clear ha j z y q;obtain⟨R,r⟩:=nM (GG l);rw[r]at m⊢;clear r;have s:ϛ w (ξ w #[vS a n c] 33):=ϧ;go_enter func234,ntmps234;go_wp2_with (go_at_call 269;refine(m.o _ s Ϡ).mono ?_;rintro e A ⟨rfl,f⟩);go_ret;exact⟨rfl,bT s f⟩
def H4(b:Buf):Bool:=allB b.runs.length λi=>decide (0<(b.runs.getD i ϰ).length)
theorem Rt{P Q:Nat->Bool}(h:∀i,i<n->P i=Q i):allB n P=allB n Q:=by
 rcases Bool.eq_false_or_eq_true (allB n Q)with a|a
 ·rw[a];exact AQ.2 (λi c=>by rw[h i c];exact AQ.1 a i c)
 ·rw[a];rcases Bool.eq_false_or_eq_true (allB n P)with d|d
  ·have:allB n Q=true:=AQ.2 (λi c=>by rw[<-h i c];exact AQ.1 d i c);rw[a]at this;cases this
  ·exact d
theorem IH(b:Buf)(x:BX)(w:Ϙ)(h:bufAt w b x):
 η 235 #[AY b x] w (θ w (.bool (!H4 b))):=by
 have c:Ϛ (∀a,ϛ w a->CT 273 #[vS x.ra x.rs.length x.rc,.func (.func 274) #[] #[]] a (θ a (.bool (H4 b)))):=λa A=>by
  have j:(x.rs.map (·.1)).length=x.rs.length:=lMp ..;have k:=NY 274 (enters_of func274 ϟ rfl) #[] (λi=>decide (0<((x.rs.map (·.1)).getD i (none,0,0)).2.1)) x.ra x.rc (x.rs.map (·.1)) a (by rw[j];exact h.few) (Gw h.hds A) (λi t d r=>by rw[Array.append_empty];exact QR _ _ t);have e:allB (x.rs.map (·.1)).length (λi=>decide (0<((x.rs.map (·.1)).getD i (none,0,0)).2.1))=H4 b:=by
   unfold H4;rw[j,h.rlen];refine Rt (λi d=>?_);have f:i<x.rs.length:=by rw[h.rlen];exact d
   have m:=(h.runs i d).1;have z:=(h.len (x.rs[i]) (mem_cons_of_mem _ (getElem_mem f))).1;have u:(x.rs.map (·.1)).getD i (none,0,0)=(x.rs[i]).1:=by rw[gDe,getElem?_map,gEe f];rfl
   have y:x.rs.getD i ϰ=x.rs[i]:=by rw[gDe,gEe f];rfl
   rw[y]at m;rw[u,z,m]
  rw[e,j]at k;exact k
 obtain⟨R,p⟩:=nM (H4 b);rw[p]at c⊢;clear p h;obtain⟨G,H,⟨⟨D,E,F⟩,K⟩,I⟩:=x;obtain⟨C,J,L⟩:=b;unfold AY hdV;dsimp only at c⊢;obtain⟨n,s⟩:∃n,I.length=n:=⟨_,rfl⟩;rw[s]at c⊢;clear s;have q:ϛ w (ξ w (ν C D E F G n H) 36):=ϧ;go_enter func235,ntmps235;go_wp2_with (go_at_call 273;refine(c.o _ q).mono ?_;rintro e t ⟨rfl,r⟩);go_ret;exact⟨rfl,bT q r⟩
def countB(b:Buf):Bool:=decide ((b.mem.length:Int)<=b.lim)&&decide ((Ab b).length<=4096)
theorem Er(b:Buf)(x:BX)(w:Ϙ)(h:bufAt w b x)(A:(Ab b).length<=4611686018427387904):
 η 167 #[AY b x] w (θ w (.bool (countB b))):=by
 have a:=hIz (λ(C:Ϙ) (E:ϛ w C)=>Lq b x C (Al h E) A);have r:x.m.1.2.1=b.mem.length:=(h.len x.m (mem_cons_self ..)).1.trans h.mem.1;obtain⟨R,p⟩:=nM (countB b);have k:Ϛ (countB b=R):=p;rw[p];clear p h;obtain⟨I,J,⟨⟨F,s,G⟩,P⟩,K⟩:=x;obtain⟨f,H,L⟩:=b;unfold AY hdV at a⊢;dsimp only at a k r⊢;obtain⟨n,z⟩:∃n,K.length=n:=⟨_,rfl⟩;rw[z]at a⊢;clear z;obtain⟨N,m⟩:=nM ((Ab ⟨f,H,L⟩).length);rw[m]at a;have j:Ϛ ((decide ((s:Int)<=f)&&decide (N<=4096))=R):=by
  show _=_;rw[<-k.o];unfold countB;rw[m,r]
 clear m k r A;have d:ϛ w (ξ w (ν f F s G I n J) 36):=ϧ;by_cases t:(s:Int)<=f
 ·by_cases u:N<=4096
  ·have c:Ϛ (true=R):=by show _=_;rw[<-j.o];simp[t,u]
   have y:(N:Int)<=4096:=Ϝ;go_enter func167,ntmps167;go_wp2_with (go_at_call 232;refine(a.o _ d).mono ?_;rintro e O ⟨rfl,q⟩);go_ret;exact⟨Aa c.o,bT d q⟩
  ·have c:Ϛ (false=R):=by show _=_;rw[<-j.o];simp[u]
   have y:¬(N:Int)<=4096:=Ϝ;have D:Ϛ (¬(N:Int)<=4096):=y;go_enter func167,ntmps167;go_wp2_with (go_at_call 232;refine(a.o _ d).mono ?_;rintro e O ⟨rfl,q⟩);go_ret;exact⟨Aa ((decide_eq_false (by have:=D.o;omega)).trans c.o),bT d q⟩
 ·have c:Ϛ (false=R):=by show _=_;rw[<-j.o];simp[t]
  go_enter func167,ntmps167;go_wp2;go_ret;exact⟨Aa c.o,d⟩
noncomputable def Fb(b:Buf):Bool:=allB (partsB b).length (λi=>GG ((partsB b).getD i ϰ))&&(H4 b&&GF (Ab b))
theorem Uh{b:Buf}(a:i<(partsB b).length)(h:GG ((partsB b).getD i ϰ)=false):Fb b=false:=by unfold Fb;rw[Ez a h];rfl
theorem Ru{b:Buf}(h:∀i,i<(partsB b).length->GG ((partsB b).getD i ϰ)=true):Fb b=(H4 b&&GF (Ab b)):=by unfold Fb;rw[AQ.2 h];rfl
theorem Dh(b:Buf)(x:BX)(w:Ϙ)(h:bufAt w b x)(hw:∀y∈Ab b,wfE y/\wfP (AZ y)):
 η 168 #[AY b x] w (θ w (.bool (Fb b))):=by
 have HB:Ϛ (bufAt w b x):=h;have J:=hIz (λ(G:Ϙ) (F:ϛ w G)=>IH b x G (Al h F));have K2:=hIz (λ(G:Ϙ) (F:ϛ w G)=>Ug b x G (Al h F) (λy hy=>(hw y hy).2));have KP:Ϛ (∀i G,i<(x.m::x.rs).length->ϛ w G->CT 234 #[hdV ((x.m::x.rs).getD i ϰ).1] G (θ G (.bool (GG ((partsB b).getD i ϰ))))):=λi G A F=>by
  have aj:(x.m::x.rs).getD i ϰ∈x.m::x.rs:=by rw[gDe,gEe A];exact getElem_mem A
  have ak:(partsB b).length=(x.m::x.rs).length:=by simp[partsB,h.rlen]
  have hE:ERs w ((x.m::x.rs).getD i ϰ).2 ((partsB b).getD i ϰ):=by
   cases i with
   |zero=>exact h.mem
   |succ i=>
    have ap:i<b.runs.length:=by rw[length_cons,h.rlen]at A;omega
    simpa[partsB]using h.runs i ap
  have hl:=h.len _ aj;refine MQ _ _ _ G (by rw[hl.1,hE.1]) (by rw[<-hE.1];exact hl.2) (Cm (h.ems _ aj) F) (hE.below F) (λy hy=>(hw y ?_).1);unfold Ab;refine mem_flatten.2 ⟨_,?_,hy⟩;rw[gDe,gEe (by rw[ak];exact A)];exact getElem_mem (by rw[ak];exact A)
 have ad:Ϛ ((partsB b).length=(x.m::x.rs).length):=by show _=_;simp[partsB,h.rlen]
 obtain⟨R,hR⟩:=nM (Fb b);have Z:Ϛ (∀i,i<(x.m::x.rs).length->GG ((partsB b).getD i ϰ)=false->false=R):=λi A hf=>by rw[<-hR,Uh (by rw[ad.o];exact A) hf]
 have N:Ϛ ((∀i,i<(x.m::x.rs).length->GG ((partsB b).getD i ϰ)=true)->(H4 b&&GF (Ab b))=R):=λL=>by rw[<-hR,Ru (λi A=>L i (by rw[<-ad.o];exact A))]
 rw[hR];clear hR h hw ad;obtain⟨RB,ai⟩:∃z:Nat->Bool,(λi=>GG ((partsB b).getD i ϰ))=z:=⟨_,rfl⟩;have af:∀i,GG ((partsB b).getD i ϰ)=RB i:=λi=>congrFun ai i;simp only[af]at KP Z N;obtain⟨G1,ag⟩:=nM (H4 b);obtain⟨G2,ah⟩:=nM (GF (Ab b));rw[ag]at J N;rw[ah]at K2 N;clear ai af ag ah;obtain⟨q,s,⟨⟨a,d,f⟩,ml⟩,rs⟩:=x;obtain⟨t,au,av⟩:=b;unfold AY at J K2⊢;dsimp only at KP Z N J K2⊢;obtain⟨n,hn⟩:∃n,rs.length=n:=⟨_,rfl⟩;have HN:Ϛ (rs.length=n):=hn;rw[hn]at J K2⊢;clear hn;have e1:hdV (a,d,f)=vS a d f:=rfl;rw[e1]at J K2⊢;refine(callsIn_wide (n:=0)).1 ?_;refine callsIn_of_wp_marks func168 rfl trivial ?_ rfl;simp only[ntmps168,size_toArray,length_cons,length_nil,Nat.reduceAdd,Nat.reduceSub,Array.replicate_succ,Array.replicate_zero,push_toArray,append_toArray,nil_append,cons_append]
 gi_wp2_with (refine⟨trivial,rfl,?_⟩;gi_at_call 233;refine(callsIn_wide.2 (Ho _ _ _ rfl rfl rfl _)).mono ?_;rintro e w' ⟨rfl,rfl⟩)
 have V0:Δ (ξ (ξ (ξ w (ν t a d f q n s) 36) #[ϋ] 4) (ν t a d f q n s) 36) w 0 (vI t):=Ϡ;have V1:Δ (ξ (ξ (ξ w (ν t a d f q n s) 36) #[ϋ] 4) (ν t a d f q n s) 36) w 1 (vS a d f):=Ϡ;have V2:Δ (ξ (ξ (ξ w (ν t a d f q n s) 36) #[ϋ] 4) (ν t a d f q n s) 36) w 2 (vS q n s):=Ϡ;have V3:Δ (ξ (ξ (ξ w (ν t a d f q n s) 36) #[ϋ] 4) (ν t a d f q n s) 36) (w+1) 0 (.bool false):=Ϡ;have V4:Ξ (ξ (ξ (ξ w (ν t a d f q n s) 36) #[ϋ] 4) (ν t a d f q n s) 36) (w+1) 0:=Ϡ;have V6:Δ (ξ (ξ (ξ w (ν t a d f q n s) 36) #[ϋ] 4) (ν t a d f q n s) 36) (w+1+1) 1 (vS a d f):=Ϡ;have V7:Δ (ξ (ξ (ξ w (ν t a d f q n s) 36) #[ϋ] 4) (ν t a d f q n s) 36) (w+1+1) 2 (vS q n s):=Ϡ;have V8:ϛ w (ξ (ξ (ξ w (ν t a d f q n s) 36) #[ϋ] 4) (ν t a d f q n s) 36):=by
  repeat (first|exact bR|(refine Below.alloc ?_ ϣ _))
 have V9:(((w.alloc (.cells (ν t a d f q n s) 36)).alloc (.cells #[ϋ] 4)).alloc (.cells (ν t a d f q n s) 36)).heap.size=w.heap.size+1+1+1:=Ϟ;generalize (((w.alloc (.cells (ν t a d f q n s) 36)).alloc (.cells #[ϋ] 4)).alloc (.cells (ν t a d f q n s) 36))=V at *;have ae:=Ih HB.o V8 (w.heap.size+1+1) ES V6 (by rw[HN.o];exact V7) Af (λ_ _ _=>Af);obtain⟨P,hP⟩:∃z:List Part,(((a,d,f),ml)::rs)=z:=⟨_,rfl⟩;dsimp only at ae;rw[hP]at ae KP Z N;clear hP;refine CM (gf:=268) (lb:=#[.pointer (some ⟨w+1+1,0,none⟩)]) rfl (enters_of func268 ϟ rfl) ae bR (λx U=>by obtain⟨p,_,rfl⟩:=mem_map.1 U;rfl) (λh k=>Ap.trans h k) (λW l o o' _ h ho=>Ap.put W l o o' h ho)
  (λi X=>(∀j,j<i->RB j=true)/\Ap ES V X/\Ξ X (w+1) 0/\ϛ w X) (λc X=>c= .ret/\false=R/\Δ X (w+1) 0 (.bool false)/\ϛ w X)
  (λi X X' al E L T=>⟨E.1,E.2.1.grown L (λr e=>(T r e).2),(frozen_kept (E.2.1.cell Af V3) L (λr e=>(T r e).2)).trans E.2.2.1,C6 E.2.2.2 nR Ϝ L T⟩)
  (λc X X' al E L T=>⟨E.1,E.2.1,cell_kept E.2.2.1 L (λr e=>(T r e).2),C6 E.2.2.2 nR Ϝ L T⟩)
  ⟨λj hj=>absurd hj (Nat.not_lt_zero j),Ap.refl _ _,V4,V8⟩
  (λi a' X=>a'={tmps:=#[.agg #[vI t,vS a d f,vS q n s],.pointer (some ⟨w,0,none⟩),.pointer (some ⟨w+1,0,none⟩),hdV (P.getD i ϰ).1,.agg #[vI t,vS a d f,vS q n s],.func (.func 268) #[] #[.pointer (some ⟨w+1+1,0,none⟩)],hdV (P.getD i ϰ).1,undef,undef,undef,undef,undef,undef,undef,undef,undef,undef,undef],defers:=[]})
  (λi a' u X X' al E L T=>E) ?assign ?body ?done ?stop
 case assign=>
  intro l' k x X K U A H;obtain⟨hk,ab⟩:=List.getElem?_eq_some_iff.1 U;rw[lMp]at hk;rw[getElem_map]at ab;subst ab;have hd:P.getD k ϰ=P[k]:=by rw[gDe,gEe hk];rfl
  have C:=λW' h1 h2 h3=>H _ W' h1 h2 h3 rfl;rw[hd]at C;clear H hd U;obtain⟨⟨⟨z1,z2,z3⟩,zl⟩,hz⟩:∃z,P[k]=z:=⟨_,rfl⟩;rw[hz]at C⊢;unfold hdV at C⊢;dsimp only at C⊢
  gi_wp2
  exact C X (KeepsFrom.refl _ _) (Ap.refl _ _) A
 case body=>
  intro l' i x a' X U aq ar an ao;obtain⟨j1,Q,j3,I⟩:=an;obtain⟨A,ab⟩:=List.getElem?_eq_some_iff.1 U;rw[lMp]at A;subst ao;have S:Ϛ (CT 234 #[hdV (P.getD i ϰ).1] X (θ X (.bool (RB i)))):=KP.o i X A I;have O:=Q.cell Af V3;have lX:w.heap.size+1<X.heap.size:=bLt _ _ O;have am:Ϛ (RB i=false->false=R):=Z.o i A;have HJ:Ϛ ((∀j,j<i->RB j=true)/\Ap ES V X):=⟨j1,Q⟩;clear U ab KP Z N j1 Q;obtain⟨⟨⟨z1,z2,z3⟩,zl⟩,hz⟩:∃z,P.getD i ϰ=z:=⟨_,rfl⟩;rw[hz]at S⊢;unfold hdV at S⊢;dsimp only at S⊢;clear hz
  cases F:RB i with
  |true=>
   rw[F]at S
   gi_wp2_with (refine⟨trivial,rfl,?_⟩;gi_at_call 234;refine(CallsIn.inRound l' (callsIn_wide.2 S.o)).mono ?_;rintro e Y ⟨rfl,m⟩)
   exact⟨BA m,BV m nR,λj hj=>by
    rcases Nat.lt_succ_iff_lt_or_eq.1 hj with h|h
    ·exact HJ.o.1 j h
    ·rw[h];exact F,HJ.o.2.trans (BV m nR),by rw[m.frozen (p:=⟨w+1,0,none⟩) lX];exact j3,bT I m⟩
  |false=>
   rw[F]at S
   gi_wp2_with (refine⟨trivial,rfl,?_⟩;gi_at_call 234;refine(CallsIn.inRound l' (callsIn_wide.2 S.o)).mono ?_;rintro e Y ⟨rfl,m⟩;have k3:=cLz m O;have kf:Ξ Y (w+1) 0:=(by rw[m.frozen (p:=⟨w+1,0,none⟩) lX];exact j3))
   exact⟨(BA m).trans ((KeepsOthers.setCell _ _ _).from _),rfl,am.o F,World.cell?_setCell_same _ _ _ k3,(bT I m).setCell Ϣ _⟩
 case done=>
  rintro D X hD ⟨j1,Q,j3,I⟩ H;rw[lMp]at j1;have HE:Ϛ ((G1&&G2)=R):=N.o j1;have c0:=Q.cell Af V0;have c1:=Q.cell Af V1;have c2:=Q.cell Af V2;have O:=Q.cell Af V3;have lX:w.heap.size+1<X.heap.size:=bLt _ _ O;have lD:D<X.heap.size:=(Array.getElem?_eq_some_iff.1 H).1;clear j1 Z N KP
  cases hg1:G1 with
  |false=>
   have ac:Ϛ (false=R):=by show _=_;rw[<-HE.o,hg1];rfl
   rw[hg1]at J
   gi_wp2_with (first|(refine⟨trivial,rfl,?_⟩;gi_at_call 235;refine(callsIn_wide.2 (J.o _ I)).mono ?_;rintro e Y ⟨rfl,m⟩;have k3:=cLz m O;have kf:Ξ Y (w+1) 0:=(by rw[m.frozen (p:=⟨w+1,0,none⟩) lX];exact j3))|refine⟨trivial,?_⟩)
   have C:(Y.setCell ⟨w+1,0,none⟩ (.bool false)).heap[D]? =some (.deferred (some [])):=(heap_setCell_other _ _ _ _ Ϣ).trans ((m.block _ lD).trans H);refine⟨Ϟ,.inl ⟨_,_,rfl,run_takeDeferred C,?_⟩⟩;have y3:=Cj (World.cell?_setCell_same _ _ (.bool false) k3) C rfl (.deferred none);exact⟨.bool false,(by simp[results,results168,go_sem,y3]),Aa ac.o,Ch ((bT I m).setCell Ϣ _) Ϝ C _⟩
  |true=>
   have ac:Ϛ (G2=R):=by show _=_;rw[<-HE.o,hg1];rfl
   rw[hg1]at J
   gi_wp2_with (first
    |(refine⟨trivial,rfl,?_⟩;gi_at_call 235;refine(callsIn_wide.2 (J.o _ I)).mono ?_;rintro e Y ⟨rfl,m⟩;have k0:=cLz m c0;have k1:=cLz m c1;have k2:=cLz m c2;have k3:=cLz m O;have kf:Ξ Y (w+1) 0:=(by rw[m.frozen (p:=⟨w.heap.size+1,0,none⟩) lX];exact j3);have j5:=bT I m)
    |(refine⟨trivial,rfl,?_⟩;gi_at_call 236;refine(callsIn_wide.2 (K2.o _ j5)).mono ?_;rintro e w3 ⟨rfl,aa⟩;have u3:=cLz aa k3;have uf:Ξ w3 (w+1) 0:=(by rw[aa.frozen (p:=⟨w.heap.size+1,0,none⟩) (Nat.lt_of_lt_of_le lX m.size)];exact kf)))
   have C:∀v,(w3.setCell ⟨w+1,0,none⟩ v).heap[D]? =some (.deferred (some [])):=λv=>(heap_setCell_other _ _ _ _ Ϣ).trans ((aa.block _ (Nat.lt_of_lt_of_le lD m.size)).trans ((m.block _ lD).trans H));refine⟨Ϟ,.inl ⟨_,_,rfl,run_takeDeferred (C _),?_⟩⟩;have y3:=Cj (World.cell?_setCell_same _ _ (.bool G2) u3) (C _) rfl (.deferred none);exact⟨.bool G2,(by simp[results,results168,go_sem,y3]),Aa ac.o,Ch ((bT j5 aa).setCell Ϣ _) Ϝ (C _) _⟩
 case stop=>
  rintro D c X hD ⟨rfl,hE,O,I⟩ H
  gi_wp2
  refine⟨Ϟ,.inl ⟨_,_,rfl,run_takeDeferred H,?_⟩⟩;have y3:=Cj O H rfl (.deferred none);exact⟨.bool false,(by simp[results,results168,go_sem,y3]),Aa hE,Ch I Ϝ H _⟩
noncomputable def Fx(b:Buf):Int:=if B9 b.lim 1 64=false then 3 else if countB b=false then 2 else if Fb b=false then 1 else 0
theorem Bb(b:Buf)(x:BX)(w:Ϙ)(h:bufAt w b x)(N:∀y∈Ab b,wfE y/\wfP (AZ y))(L:(Ab b).length<=4611686018427387904):
 η 100 #[AY b x] w (θ w (vI (Fx b))):=by
 have k:=hIz (λ(c:Ϙ) (t:ϛ w c)=>Er b x c (Al h t) L);have q:=hIz (λ(c:Ϙ) (t:ϛ w c)=>Dh b x c (Al h t) N);have p:Ϛ (∀c,CT 166 #[vI b.lim] c λe w'=>e= .returned (.bool (B9 b.lim 1 64))/\w'=c):=λc=>Gt _ c;obtain⟨R,s⟩:=nM (Fx b);have j:Ϛ ((if B9 b.lim 1 64=false then 3 else if countB b=false then 2 else if Fb b=false then 1 else 0)=R):=s;rw[s];clear s h N L;obtain⟨G1,H⟩:=nM (B9 b.lim 1 64);obtain⟨O,I⟩:=nM (countB b);obtain⟨P,J⟩:=nM (Fb b);rw[H]at p j;rw[I]at k j;rw[J]at q j;clear H I J;obtain⟨E,F,⟨⟨A,C,D⟩,Y⟩,U⟩:=x;obtain⟨z,X,Z⟩:=b;unfold AY hdV at k q⊢;dsimp only at p k q⊢;obtain⟨n,K⟩:∃n,U.length=n:=⟨_,rfl⟩;rw[K]at k q⊢;clear K;have m:ϛ w (ξ w (ν z A C D E n F) 36):=ϧ
 cases G1 with
 |false=>
  have f:Ϛ ((3:Int)=R):=j.o;go_enter func100,ntmps100;go_wp2_with (go_at_call 166;refine(p.o _).mono ?_;rintro e G ⟨rfl,rfl⟩);go_ret;exact⟨Am f.o,m⟩
 |true=>
  cases O with
  |false=>
   have f:Ϛ ((2:Int)=R):=j.o;go_enter func100,ntmps100;go_wp2_with (first
    |(go_at_call 166;refine(p.o _).mono ?_;rintro e G ⟨rfl,rfl⟩)
    |(go_at_call 167;refine(k.o _ m).mono ?_;rintro e d ⟨rfl,a⟩))
   go_ret;exact⟨Am f.o,bT m a⟩
  |true=>
   cases P with
   |false=>
    have f:Ϛ ((1:Int)=R):=j.o;go_enter func100,ntmps100;go_wp2_with (first
     |(go_at_call 166;refine(p.o _).mono ?_;rintro e G ⟨rfl,rfl⟩)
     |(go_at_call 167;refine(k.o _ m).mono ?_;rintro e d ⟨rfl,a⟩;have r:=bT m a;have Q:Δ d w 0 (vI z):=cLz a Ϡ;have S:Δ d w 1 (vS A C D):=cLz a Ϡ;have T:Δ d w 2 (vS E n F):=cLz a Ϡ)
     |(go_at_call 168;refine(q.o _ r).mono ?_;rintro e V ⟨rfl,u⟩))
    go_ret;exact⟨Am f.o,bT r u⟩
   |true=>
    have f:Ϛ ((0:Int)=R):=j.o;go_enter func100,ntmps100;go_wp2_with (first
     |(go_at_call 166;refine(p.o _).mono ?_;rintro e G ⟨rfl,rfl⟩)
     |(go_at_call 167;refine(k.o _ m).mono ?_;rintro e d ⟨rfl,a⟩;have r:=bT m a;have Q:Δ d w 0 (vI z):=cLz a Ϡ;have S:Δ d w 1 (vS A C D):=cLz a Ϡ;have T:Δ d w 2 (vS E n F):=cLz a Ϡ)
     |(go_at_call 168;refine(q.o _ r).mono ?_;rintro e V ⟨rfl,u⟩))
    go_ret;exact⟨Am f.o,bT r u⟩
end bf
namespace bf
open vl
variable {w w' : Ϙ} {base base' g n size : Nat} {e : TypeId} {v : Value} {xs : List Value} {x : Ent} {l : List Ent}
theorem SH:(Tryz.prog.info? 166).map (λi=>(i.zero,i.size,i.bytes))=some (some (.agg #[ϊ,ω,ω,ψ,ϋ]),5,64):=ϟ
theorem As(h:w.ownsRow base e size v n xs)(m:∀g,v.ownBlock=some g->w'.heap[g]? =w.heap[g]?):w'.ownsRow base e size v n xs:=by
 refine⟨h.1,?_⟩;rcases h.2 with f|⟨g,c,d,a,j,p,k⟩
 ·exact .inl f
 ·exact .inr ⟨g,c,d,a,j,by rw[m g (by rw[a];rfl)];exact p,k⟩
theorem A5(h:w.ownsRow base e size v n xs)(a:v.ownBlock=some g):base<=g/\g<w.heap.size:=World.ownsRow.lt h g a
theorem own_below(h:w.ownsRow base e size v n xs)(a:ϛ w w'):w'.ownsRow base e size v n xs:=
 As h (λg c=>a.block g (A5 h c).2)
theorem CX(h:w.ownsRow base e size v n xs)(k:base'<=base):w.ownsRow base' e size v n xs:=by
 refine⟨h.1,?_⟩;rcases h.2 with d|⟨g,a,c,p,f,m,j⟩
 ·exact .inl d
 ·exact .inr ⟨g,a,c,p,Nat.le_trans k f,m,j⟩
theorem Hf{a:TypeId}{s s':Nat}{v':Value}{r:Nat}{t:List Value}(h:w.ownsRow base e s v n xs)(m:w.ownsRow base' a s' v' r t)(q:e≠a)(d:v.ownBlock=some g):v'.ownBlock≠some g:=λf=>by
 rcases h.2 with⟨rfl,_⟩|⟨b,y,A,rfl,_,p,_⟩
 ·cases d
 ·rcases m.2 with⟨rfl,_⟩|⟨u,z,C,rfl,_,c,_⟩
  ·cases f
  ·cases d
   cases f
   rw[p]at c;injection c with j
   injection j with _ k _
   exact q k
theorem De(b a j:Nat):(⟨b,a,none⟩:Addr).add j=⟨b,a+j,none⟩:=by unfold Addr.add;split<;>simp_all
theorem Fc{b d:Nat}{r:List Cel}(h:vl.rowAt w (some ⟨b,d,none⟩) r):∀j u,(celCells r)[j]? =some u->w.cell? ((⟨b,d,none⟩:Addr).add j)=some u:=by
 intro j u a;have k:j<(celCells r).length:=by
  rcases Nat.lt_or_ge j (celCells r).length with h|h
  ·exact h
  ·rw[getElem?_eq_none h]at a;cases a
 rw[D5]at k;have c:j/3<r.length:=Ϝ;obtain⟨z,A,e,m,p,q⟩:=h (j/3) c
 cases e
 obtain⟨s,t,y⟩:=Gz r (j/3) c;rw[De];have f:j=j/3 * 3\/j=j/3 * 3+1\/j=j/3 * 3+1+1:=Ϝ;rcases f with e|e|e
 ·rw[e]at a⊢;rw[s]at a;rw[<-a];exact m
 ·rw[e]at a⊢;rw[t]at a;rw[<-a];exact p
 ·rw[e]at a⊢;rw[y]at a;rw[<-a];exact q
theorem E5(r:List Cel):∀u∈celCells r,u.oneCell'=true:=by
 intro u d;unfold celCells at d;obtain⟨c,_,a⟩:=mem_flatMap.1 d;simp at a;rcases a with rfl|rfl|rfl<;>rfl
def EM.to(e:EM)(h:Hdr):EM:=⟨e.key,e.time,e.seq,h,e.met⟩
def A0(l:List EM):List Value:=l.flatMap λe=>[.string e.key,vI e.time,vI e.seq,hdV e.row,.bool e.met]
theorem II(l:List EM):(A0 l).length=l.length * 5:=by
 induction l with
 |nil=>rfl
 |cons c r ih=>show([_,_,_,_,_]++A0 r).length=_;rw[lAp,ih,length_cons];simp;omega
theorem H8(l:List EM)(e:EM):A0 (l++[e])=A0 l++[.string e.key,vI e.time,vI e.seq,hdV e.row,.bool e.met]:=by
 unfold A0;rw[flatMap_append];simp
theorem GH(r:List EM)(i:Nat)(h:i<r.length):(A0 r)[i * 5]? =some (.string (r.getD i ϰ).key)/\(A0 r)[i * 5+1]? =some (vI (r.getD i ϰ).time)/\(A0 r)[i * 5+2]? =some (vI (r.getD i ϰ).seq)/\(A0 r)[i * 5+3]? =some (hdV (r.getD i ϰ).row)/\(A0 r)[i * 5+4]? =some (.bool (r.getD i ϰ).met):=by
 induction r generalizing i with
 |nil=>exact absurd h (Nat.not_lt_zero i)
 |cons c r ih=>
  have e:A0 (c::r)= .string c.key::vI c.time::vI c.seq::hdV c.row:: .bool c.met::A0 r:=rfl;rw[e]
  cases i with
  |zero=>exact⟨rfl,rfl,rfl,rfl,rfl⟩
  |succ i=>
   have:=ih i (by simpa using h);rw[show(i+1) * 5=i * 5+1+1+1+1+1 by omega];simpa using this
structure OR(w:World)(base:Nat)(e:EM)(x:Ent):Prop where
 key:e.key=x.key
 time:e.time=x.time
 seq:e.seq=x.seq
 met:e.met=x.met
 len:e.row.2.1=x.row.length
 row:AA w base (hdV e.row) x.row
theorem OR.er{e:EM}(h:OR w base e x):ER w e x:=⟨h.key,h.time,h.seq,h.met,h.len,by
 have a:=h.row;have c:=h.len;obtain⟨j,q,p,⟨d,m,f⟩,k⟩:=e;unfold hdV at a;dsimp only at a c⊢;rw[c]at a;exact GA a⟩
structure OE(w:World)(base:Nat)(v:Value)(es:List EM)(l:List Ent):Prop where
 low:base<=w.heap.size
 own:w.ownsRow base 166 5 v es.length (A0 es)
 len:es.length=l.length
 rows:∀i,i<l.length->OR w base (es.getD i ϰ) (l.getD i ϰ)
theorem DV(h:base<=w.heap.size):OE w base (vS none 0 0) [] []:=⟨h,World.ownsRow_nil _ _ _ _,rfl,λi a=>absurd a (Nat.not_lt_zero i)⟩
theorem OE.form{c:List EM}(h:OE w base v c l):∃d a,v=vS d c.length a:=by
 rcases h.own.2 with⟨rfl,f⟩|⟨g,a,j,rfl,_⟩
 ·exact⟨none,0,by rw[f]⟩
 ·exact⟨_,_,rfl⟩
theorem OE.ers{a:List EM}(h:OE w base v a l):ERs w a l:=⟨h.len,λi c=>(h.rows i c).er⟩
theorem OE.at{cap:Nat}{ad:ϙ}{c:List EM}(h:OE w base (vS ad c.length cap) c l):C5 w ad c:=by
 intro i f;rcases h.own.2 with⟨d,t⟩|⟨g,r,s,d,u,z,y⟩
 ·omega
 ·cases d
  have a:=World.ownsRow.cells h.own (g:=g) rfl;obtain⟨j,k,m,p,q⟩:=GH c i f;refine⟨g,0,rfl,?_,?_,?_,?_,?_⟩
  ·have:=a _ _ j;rw[De]at this;exact this
  ·have:=a _ _ k;rw[De]at this;exact this
  ·have:=a _ _ m;rw[De]at this;exact this
  ·have:=a _ _ p;rw[De]at this;exact this
  ·have:=a _ _ q;rw[De]at this;exact this
theorem OE.below{c:List EM}(h:OE w base v c l)(a:ϛ w w'):OE w' base v c l:=
 ⟨Nat.le_trans h.low a.size,own_below h.own a,h.len,λi q=>by
  obtain⟨d,f,j,k,m,p⟩:=h.rows i q;exact⟨d,f,j,k,m,own_below p a⟩⟩
theorem OE.mono{c:List EM}(h:OE w base v c l)(a:base'<=base):OE w base' v c l:=
 ⟨Nat.le_trans a h.low,CX h.own a,h.len,λi q=>by
  obtain⟨d,f,j,k,m,p⟩:=h.rows i q;exact⟨d,f,j,k,m,CX p a⟩⟩
theorem OE.same{j:List EM}(h:OE w base v j l)(z:w.heap.size<=w'.heap.size)(k:∀g c t,w.heap[g]? =some (.cells c t (0,0))->(v.ownBlock=some g/\t=166)\/t=119->w'.heap[g]? =w.heap[g]?):OE w' base v j l:=
 ⟨Nat.le_trans h.low z,As h.own (λg a=>by
  rcases h.own.2 with⟨rfl,_⟩|⟨b,u,c,rfl,_,d,_⟩
  ·cases a
  ·cases a
   exact k _ _ _ d (.inl ⟨rfl,rfl⟩)),h.len,λi y=>by
  obtain⟨m,p,q,r,s,f⟩:=h.rows i y;refine⟨m,p,q,r,s,As f (λg a=>?_)⟩;rcases f.2 with⟨e,_⟩|⟨b,u,c,e,_,d,_⟩
  ·rw[e]at a;cases a
  ·rw[e]at a;cases a;exact k _ _ _ d (.inr rfl)⟩
theorem Ld{a c:Ϙ}{d:List EM}{e:EM}{cap2:Nat}{o:Obj}(h:OE w base v d l)(t:ϛ w a)(K:OR a base e x)
 (H:c.ownsRow base 166 5 (vS (τ g) (d.length+1) cap2) (d.length+1) (A0 d++[.string e.key,vI e.time,vI e.seq,hdV e.row,.bool e.met])) (q:(a.alloc o).grownBy c v.ownBlock):
 OE c base (vS (τ g) (d.length+1) cap2) (d++[e]) (l++[x])/\Below base w c:=by
 have f:=h.below t;have I:a.heap.size<=c.heap.size:=by have:=q.size;simp at this;omega
 have F:∀b,b<a.heap.size->v.ownBlock≠some b->c.heap[b]? =a.heap[b]? :=λb j G=>by
  rw[q.block b ϡ (λe=>G e.symm)];exact Below.heap_alloc _ _ b j
 have y:∀{p:EM} {s:Ent},OR a base p s->OR c base p s:=λ{p s} k=>by
  obtain⟨z,A,C,D,E,m⟩:=k;refine⟨z,A,C,D,E,As m (λb j=>F b (A5 m j).2 (λJ=>?_))⟩;exact Hf f.own m ϝ J j
 refine⟨⟨Nat.le_trans f.low I,?_,by rw[lAp,lAp,h.len];rfl,λi u=>?_⟩,?_⟩
 ·rw[lAp,H8];exact H
 ·rw[lAp]at u;by_cases r:i<l.length
  ·rw[AK (by rw[h.len];exact r),AK r];exact y (f.rows i r)
  ·have:i=l.length:=by simp at u;omega
   subst this;rw[AB (by rw[h.len];exact Nat.le_refl _),AB nR,h.len,Nat.sub_self];exact y K
 ·exact((t.mono h.low).alloc f.low o).grown q (by simp;have:=f.low;omega) (λb j=>(A5 f.own j).1)
end bf
end Go.Proofs.YtfkihidbnfkbaaaGreatDoor
