import Derived.Test.YtfkihidbnfkbaaaGreatDoorPv6
set_option linter.all false
set_option maxHeartbeats 8000000
open Go.ChangeShapes Go.WideShapes Go.ChangeAt Go.RowKit Go.Shelf List
open Inhabited renaming default->ϰ
namespace Go.Proofs.YtfkihidbnfkbaaaGreatDoor
open Go.Proofs.Tryz
namespace bf
open vl
attribute [local go_sem] Oper.semAt_some
variable {B M b i n o : Nat} {W W' : World} {v : Value} {l : List Ent} {ps : List Plc}
def AK(x:Ent):Plc:=(x.key,x.time,x.seq)
theorem Mg{a b:Ent}:AK a=AK b↔Ep a b:=by
 unfold AK Ep;simp[Prod.mk.injEq]
def hasB(l:List Ent)(p:Plc):Bool:=l.any λx=>decide (AK x=p)
def Gu:Nat->Obj->Prop:=λ_ _=>True
theorem Ai:names Gu W b:=λ_ _=>trivial
theorem C2(h:Below n W W')(c:W.heap.size<=n):A0 Gu W W':=λb o a _ _=>(h.block b (by have:=(Array.getElem?_eq_some_iff.1 a).1;omega)).trans a
theorem Hm{w V:World}{b:Buf}{x:BX}(h:bufAt w b x)(u:ϣ w V)(B:Nat)(d:Nat->Obj->Prop)(h0:V.cell? ⟨B,0,none⟩=some (vI b.lim))(h1:V.cell? ⟨B,1,none⟩=some (hdV x.m.1))(k:V.cell? ⟨B,2,none⟩=some (vS x.ra x.rs.length x.rc))
 (r:names d V B) (j:∀b,b<w.heap.size->names d V b)
 (m:∀b c f,V.heap.size<=b->d b (.cells c 36 f)) (q:∀b c f,V.heap.size<=b->d b (.cells c 247 f)):
 Abu Tryz.prog 276 #[.pointer (some ⟨B,0,none⟩)] ((ems (x.m::x.rs)).map λe=>#[e.val]) (A0 d) V:=
 AbR B b.lim x.ra x.rc x.m x.rs d V (Af1 (Ar h u) h0 h1 k) r (λa ha A=>j _ (AeD h ha A)) (λp z a h0 ha=>by
  obtain⟨D,o,e,y,_⟩:=h.ems p z 0 h0;rw[ha]at e;cases e;exact j _ (bLt _ _ y)) m q
theorem Ca(h:ϣ W W'):KeepsFrom B W W':=⟨h.size,λk o _ a _=>(h.block k (Array.getElem?_eq_some_iff.1 a).1).trans a⟩
theorem CZ{D:Nat}{x:Obj}(h:W.cell? ⟨b,o,none⟩=some v)(c:W.heap[D]? =some x)(d:x.isCells=false)(a:Obj):(W.putObj D a).cell? ⟨b,o,none⟩=some v:=
 cell_kept h (grownBy_putObj' W D a) (λr e=>by cases e;exact⟨x,c,d⟩)
theorem Aen(b:Buf)(x:BX)(p:Plc)(w:World)(h:bufAt w b x):
 Calls Tryz.prog 350 #[B5 b x,BW p] w λe w'=>e= .returned (.bool (hasB (Ab b) p))/\ϣ w w':=by
 have HB:Ϣ (bufAt w b x):=h;have HE:=E7 h;have aa:Ϣ (ERs w (ems (x.m::x.rs)) (Ab b)):=HE;obtain⟨L,hL⟩:=nM (Ab b);rw[hL]at aa⊢;clear hL h HE;obtain⟨R,hR⟩:=nM (hasB L p);have ai:Ϣ (hasB L p=R):=hR;rw[hR];clear hR;obtain⟨ra,rc,⟨⟨m1,m2,m3⟩,ml⟩,rs⟩:=x;obtain⟨ab,av,aw⟩:=b;obtain⟨G,J,ps⟩:=p;unfold B5 hdV BW;dsimp only at aa⊢;obtain⟨n,hn⟩:∃n,rs.length=n:=⟨_,rfl⟩;have HN:Ϣ (rs.length=n):=hn;rw[hn];clear hn;refine(callsIn_wide (n:=0)).1 ?_;refine callsIn_of_wp_marks func350 rfl trivial ?_ rfl;simp only[ntmps350,size_toArray,length_cons,length_nil,Nat.reduceAdd,Nat.reduceSub,Array.replicate_succ,Array.replicate_zero,push_toArray,append_toArray,nil_append,cons_append]
 gi_wp2_with (refine⟨trivial,rfl,?_⟩;gi_at_call 237;refine(callsIn_wide.2 (Jp _ _ _ rfl rfl rfl _)).mono ?_;rintro e w' ⟨rfl,rfl⟩)
 generalize A:((((w.alloc (.cells #[vI ab,vS m1 m2 m3,vS ra n rc] 36)).alloc (.cells #[.string G,vI J,vI ps] 340)).alloc (.cells #[.bool false] 4)).alloc (.cells #[vI ab,vS m1 m2 m3,vS ra n rc] 36))=V at *;have V0:V.cell? ⟨w+1,0,none⟩=some (.string G):=by subst A;go_simp
 have V1:V.cell? ⟨w+1,1,none⟩=some (vI J):=by subst A;go_simp
 have V2:V.cell? ⟨w+1,2,none⟩=some (vI ps):=by subst A;go_simp
 have V3:V.cell? ⟨w+1+1,0,none⟩=some (.bool false):=by subst A;go_simp
 have V4:V.frozen? ⟨w+1+1,0,none⟩=false:=by subst A;go_simp
 have V5:V.cell? ⟨w+1+1+1,0,none⟩=some (vI ab):=by subst A;go_simp
 have V6:V.cell? ⟨w+1+1+1,1,none⟩=some (vS m1 m2 m3):=by subst A;go_simp
 have V7:V.cell? ⟨w+1+1+1,2,none⟩=some (vS ra n rc):=by subst A;go_simp
 have V8:ϣ w V:=by
  subst A
  repeat (first|exact bR|(refine Below.alloc ?_ ϫ _))
 have V9:V.heap.size=w.heap.size+1+1+1+1:=by subst A;simp
 clear A;have ag:=Hm HB.o V8 (w.heap.size+1+1+1) Gu V5 V6 (by rw[HN.o];exact V7) Ai (λ_ _=>Ai) (λ_ _ _ _=>trivial) (λ_ _ _ _=>trivial);dsimp only at ag;obtain⟨E,H⟩:=nM (ems ((((m1,m2,m3):Hdr),ml)::rs));rw[H]at ag aa;clear H;refine DD (gf:=276) (lb:=#[.pointer (some ⟨w+1+1+1,0,none⟩)]) rfl (enters_of func276 ϧ rfl) ag bR (λx O=>by obtain⟨p,_,rfl⟩:=mem_map.1 O;rfl) (λh k=>A0.trans h k) (λW l o o' _ h ho=>A0.put W l o o' h ho)
  (λi X=>(∀j,j<i->AK (L.getD j ϰ)≠(G,J,ps))/\A0 Gu V X/\X.frozen? ⟨w+1+1,0,none⟩=false/\ϣ w X) (λc X=>c= .ret/\true=R/\X.cell? ⟨w+1+1,0,none⟩=some (.bool true)/\ϣ w X)
  (λi X X' ak q f m=>⟨q.1,q.2.1.grown f (λr e=>(m r e).2),(frozen_kept (q.2.1.cell Ai V3) f (λr e=>(m r e).2)).trans q.2.2.1,D4 q.2.2.2 nR Ϥ f m⟩)
  (λc X X' ak q f m=>⟨q.1,q.2.1,cell_kept q.2.2.1 f (λr e=>(m r e).2),D4 q.2.2.2 nR Ϥ f m⟩)
  ⟨λj I=>absurd I (Nat.not_lt_zero j),A0.refl _ _,V4,V8⟩
  (λi a' X=> ∃B,a'={tmps:=#[.agg #[vI ab,vS m1 m2 m3,vS ra n rc],.agg #[.string G,vI J,vI ps],.pointer (some ⟨w,0,none⟩),.pointer (some ⟨w+1,0,none⟩),.pointer (some ⟨w+1+1,0,none⟩),.pointer (some ⟨B,0,none⟩),.agg #[vI ab,vS m1 m2 m3,vS ra n rc],.func (.func 276) #[] #[.pointer (some ⟨w+1+1+1,0,none⟩)],(E.getD i ϰ).val,undef,undef,undef,undef],defers:=[]}/\X.cell? ⟨B,0,none⟩=some (.string (E.getD i ϰ).key)/\X.cell? ⟨B,1,none⟩=some (vI (E.getD i ϰ).time)/\X.cell? ⟨B,2,none⟩=some (vI (E.getD i ϰ).seq)/\X.cell? ⟨B,3,none⟩=some (hdV (E.getD i ϰ).row)/\X.cell? ⟨B,4,none⟩=some (.bool (E.getD i ϰ).met))
  (λi a' u X X' ak q f m=>by
   obtain⟨B,h1,h2,h3,h4,h5,h6⟩:=q;exact⟨B,h1,cell_kept h2 f (λr e=>(m r e).2),cell_kept h3 f (λr e=>(m r e).2),cell_kept h4 f (λr e=>(m r e).2),cell_kept h5 f (λr e=>(m r e).2),cell_kept h6 f (λr e=>(m r e).2)⟩) ?assign ?body ?done ?stop
 case assign=>
  intro l' k x X K O hi S;obtain⟨hk,aj⟩:=List.getElem?_eq_some_iff.1 O;rw[lMp]at hk;rw[getElem_map]at aj;subst aj;have hd:E.getD k ϰ=E[k]:=by rw[gDe,gEe hk];rfl
  have N:=S;rw[hd]at N;clear S hd O;obtain⟨⟨Q,Z,es,⟨r1,r2,r3⟩,em⟩,hz⟩:∃z,E[k]=z:=⟨_,rfl⟩;rw[hz]at N⊢;unfold EM.val hdV at N⊢;dsimp only at N⊢;obtain⟨T,y,j3,F⟩:=hi
  gi_wp2
  have lX:w.heap.size+1+1<X.heap.size:=bLt _ _ (y.cell Ai V3);exact N _ _ ((KeepsOthers.alloc _ _).from _) (A0.alloc _ _) ⟨T,y.trans (A0.alloc _ _),Ϩ,F.alloc F.size _⟩ ⟨X.heap.size,rfl,Ϩ,Ϩ,Ϩ,Ϩ,Ϩ⟩
 case body=>
  intro l' i x a' X O ap au ao af;obtain⟨T,y,j3,F⟩:=ao;obtain⟨B,af,b0,b1,b2,b3,b4⟩:=af;subst af;obtain⟨hi,_⟩:=List.getElem?_eq_some_iff.1 O;rw[lMp]at hi;have an:=aa.o.1;have ac:=aa.o.2 i Ϥ;have U:Ϣ (∀w1,CT 275 #[(E.getD i ϰ).val] w1 λr w'=>r= .returned (.agg #[.string (E.getD i ϰ).key,vI (E.getD i ϰ).time,vI (E.getD i ϰ).seq])/\ϣ w1 w'):=λw1=>IK _ w1;have ad:AK (L.getD i ϰ)=((E.getD i ϰ).key,(E.getD i ϰ).time,(E.getD i ϰ).seq):=by unfold AK;rw[ac.key,ac.time,ac.seq]
  have al:Ϣ (L.getD i ϰ∈L):=by show _∈_;rw[gDe,gEe Ϥ];simp
  obtain⟨⟨Q,Z,es,⟨r1,r2,r3⟩,em⟩,hz⟩:∃z,E.getD i ϰ=z:=⟨_,rfl⟩;rw[hz]at U b0 b1 b2 b3 b4 ad⊢;unfold EM.val hdV at U;unfold hdV at b3;dsimp only at U b0 b1 b2 b3 b4 ad;have ah:Ϣ (AK (L.getD i ϰ)=(Q,Z,es)):=ad;have c0:=y.cell Ai V0;have c1:=y.cell Ai V1;have c2:=y.cell Ai V2;have c3:=y.cell Ai V3;have lX:w.heap.size+1+1<X.heap.size:=bLt _ _ c3;have aq:Tryz.prog.follows .mixedOrders=true:=ϧ;clear hz ad ac an O;by_cases H:(Q,Z,es)=(G,J,ps)
  ·have HE:Ϣ (true=R):=by
    show _=_;rw[<-ai.o];exact(any_eq_true.2 ⟨_,al.o,by rw[ah.o];simpa using H⟩).symm
   injection H with P am
   injection am with e2 Y
   subst P e2 Y
   gi_wp2
   gi_region_with_o (refine⟨trivial,rfl,?_⟩;gi_at_call 275;refine(CallsIn.inRound l' (callsIn_wide.2 (U.o _))).mono ?_;rintro e w2 ⟨rfl,a⟩;have k0:=cLz a c0;have k1:=cLz a c1;have k2:=cLz a c2;have k3:=cLz a c3;have kf:w2.frozen? ⟨w+1+1,0,none⟩=false:=(by rw[a.frozen (p:=⟨w+1+1,0,none⟩) lX];exact j3);have d:ϣ X w2:=bR.drew.trans a)
   all_goals
    gi_wp2
    exact⟨(Ca d).trans ((KeepsOthers.setCell _ _ _).from _),rfl,HE.o,World.cell?_setCell_same _ _ _ k3,(bT F d).setCell Ϫ _⟩
  ·have ar:((Q.toList==G.toList)&&((Z==J)&&(es==ps)))=false:=by
    rw[bytes_beq];by_cases P:Q=G
    ·by_cases e2:Z=J
     ·have Y:es≠ps:=λY=>H (by rw[P,e2,Y]);simp[P,e2,Y]
     ·simp[P,e2]
    ·simp[P]
   have ae:Ϣ (AK (L.getD i ϰ)≠(G,J,ps)):=by show _≠_;rw[ah.o];exact H
   by_cases t1:Q.toList=G.toList
   ·by_cases t2:Z=J
    ·have t3:(es==ps)=false:=by
      rw[beq_eq_false_iff_ne];intro Y;have P:Q=G:=by have:=bytes_beq Q G;rw[t1]at this;simpa using this.symm
      exact H (by rw[P,t2,Y])
     subst t2
     gi_wp2
     gi_region_with_o (refine⟨trivial,rfl,?_⟩;gi_at_call 275;refine(CallsIn.inRound l' (callsIn_wide.2 (U.o _))).mono ?_;rintro e w2 ⟨rfl,a⟩;have k0:=cLz a c0;have k1:=cLz a c1;have k2:=cLz a c2;have d:ϣ X w2:=bR.drew.trans a)
     all_goals
      gi_wp2
      exact⟨Ca d,C2 d nR,λj I=>by
       rcases Nat.lt_succ_iff_lt_or_eq.1 I with h|h
       ·exact T j h
       ·rw[h];exact ae.o,y.trans (C2 d nR),by rw[d.frozen (p:=⟨w+1+1,0,none⟩) lX];exact j3,bT F d⟩
    ·have ax:(Z==J)=false:=by simpa using t2
     gi_wp2
     gi_region_with_o (refine⟨trivial,rfl,?_⟩;gi_at_call 275;refine(CallsIn.inRound l' (callsIn_wide.2 (U.o _))).mono ?_;rintro e w2 ⟨rfl,a⟩;have k0:=cLz a c0;have k1:=cLz a c1;have k2:=cLz a c2;have d:ϣ X w2:=bR.drew.trans a)
     all_goals
      gi_wp2
      exact⟨Ca d,C2 d nR,λj I=>by
       rcases Nat.lt_succ_iff_lt_or_eq.1 I with h|h
       ·exact T j h
       ·rw[h];exact ae.o,y.trans (C2 d nR),by rw[d.frozen (p:=⟨w+1+1,0,none⟩) lX];exact j3,bT F d⟩
   ·skip
    gi_wp2
    gi_region_with_o (refine⟨trivial,rfl,?_⟩;gi_at_call 275;refine(CallsIn.inRound l' (callsIn_wide.2 (U.o _))).mono ?_;rintro e w2 ⟨rfl,a⟩;have k0:=cLz a c0;have k1:=cLz a c1;have k2:=cLz a c2;have d:ϣ X w2:=bR.drew.trans a)
    all_goals
     gi_wp2
     exact⟨Ca d,C2 d nR,λj I=>by
      rcases Nat.lt_succ_iff_lt_or_eq.1 I with h|h
      ·exact T j h
      ·rw[h];exact ae.o,y.trans (C2 d nR),by rw[d.frozen (p:=⟨w+1+1,0,none⟩) lX];exact j3,bT F d⟩
 case done=>
  rintro D X hD ⟨T,y,j3,F⟩ S;have c3:=y.cell Ai V3;have HE:Ϣ (false=R):=by
   show _=_;rw[<-ai.o]
   symm
   rw[lMp]at T;refine any_eq_false.2 (λx O=>?_);obtain⟨j,I,rfl⟩:=getElem_of_mem O;have:=T j (by rw[aa.o.1];exact I);rw[gDe,gEe I]at this;simpa using this
  gi_wp2
  have N:(X.setCell ⟨w+1+1,0,none⟩ (.bool false)).heap[D]? =some (.deferred (some [])):=(heap_setCell_other _ _ _ _ Ϫ).trans S;refine⟨Ϧ,.inl ⟨_,_,rfl,run_takeDeferred N,?_⟩⟩;have y3:=CZ (World.cell?_setCell_same _ _ (.bool false) c3) N rfl (.deferred none);exact⟨.bool false,(by simp[results,results350,go_sem,y3]),Aa HE.o,CY (F.setCell Ϫ _) Ϥ N _⟩
 case stop=>
  rintro D c X hD ⟨rfl,H,c3,F⟩ S
  gi_wp2
  refine⟨Ϧ,.inl ⟨_,_,rfl,run_takeDeferred S,?_⟩⟩;have y3:=CZ c3 S rfl (.deferred none);exact⟨.bool true,(by simp[results,results350,go_sem,y3]),Aa H,CY F Ϥ S _⟩
def Cw(l:List Ent):Bool:=decide ((l.map AK).Nodup)
def E8(l:List Ent)(i:Nat):List Plc:=(l.take i).map AK
theorem Mh(h:i<l.length):E8 l (i+1)=E8 l i++[AK (l.getD i ϰ)]:=by
 unfold E8;rw[take_succ_eq_append_getElem h,map_append,gDe,gEe h];rfl
theorem VZ(h:(E8 l l.length).Nodup):Cw l=true:=by
 unfold E8 at h;rw[take_length]at h;exact decide_eq_true h
theorem Af3(h:i<l.length)(c:AK (l.getD i ϰ)∈E8 l i):Cw l=false:=by
 refine decide_eq_false (λa=>?_);have e:l.map AK=E8 l (i+1)++(l.drop (i+1)).map AK:=by
  unfold E8;rw[<-map_append,take_append_drop]
 rw[e,Mh h]at a;have:=(nodup_append.1 (nodup_append.1 a).1).2.2 _ c _ (mem_singleton.2 rfl);exact this rfl
theorem Wa(h:i<l.length)(f:(E8 l i).Nodup)(d:AK (l.getD i ϰ) ∉ E8 l i):(E8 l (i+1)).Nodup:=by
 rw[Mh h];refine nodup_append.2 ⟨f,Ϧ,λa ha b c=>?_⟩;rw[mem_singleton.1 c];exact λe=>d (by rw[<-e];exact ha)
theorem GK(h:DT W M ps)(c:Below n W W')(a:M<n):DT W' M ps:=(c.block M a).trans h
theorem Ud(a:W.grownBy W' (some M))(c:M<B):KeepsFrom B W W':=⟨a.size,λk o d h _=>(a.block k (Array.getElem?_eq_some_iff.1 h).1 (λe=>by cases e;omega)).trans h⟩
theorem AbX{a:Nat->Obj->Prop}(d:DT W M ps)(c:W.grownBy W' (some M)):A0 a W W':=(A0.refl a W).grown c (λr e=>by cases e;exact⟨_,d,rfl⟩)
theorem cell_grown(c:DT W M ps)(a:W.grownBy W' (some M))(h:W.cell? ⟨b,o,none⟩=some v):W'.cell? ⟨b,o,none⟩=some v:=cell_kept h a (λr e=>by cases e;exact⟨_,c,rfl⟩)
theorem O4(d:DT W M ps)(c:W.grownBy W' (some M))(h:W.cell? ⟨b,o,none⟩=some v)(a:W.frozen? ⟨b,o,none⟩=false):W'.frozen? ⟨b,o,none⟩=false:=(frozen_kept h c (λr e=>by cases e;exact⟨_,d,rfl⟩)).trans a
theorem Zk(b:Buf)(x:BX)(w:World)(h:bufAt w b x)(hw:∀y∈Ab b,wfP (AK y)):
 Calls Tryz.prog 236 #[B5 b x] w λe w'=>e= .returned (.bool (!Cw (Ab b)))/\ϣ w w':=by
 have HB:Ϣ (bufAt w b x):=h;have ab:Ϣ (ERs w (ems (x.m::x.rs)) (Ab b)):=E7 h;obtain⟨L,hL⟩:=nM (Ab b);rw[hL]at ab hw⊢;have HW:Ϣ (∀y∈L,wfP (AK y)):=hw;clear hL h hw;obtain⟨R,hR⟩:=nM (!Cw L);have am:Ϣ ((!Cw L)=R):=hR;rw[hR];clear hR;obtain⟨S,T,⟨⟨J,N,O⟩,ml⟩,rs⟩:=x;obtain⟨P,a1,a2⟩:=b;unfold B5 hdV;dsimp only at ab⊢;obtain⟨n,hn⟩:∃n,rs.length=n:=⟨_,rfl⟩;have HN:Ϣ (rs.length=n):=hn;rw[hn];clear hn;have av:=@run_makeMap Tryz.prog;refine(callsIn_wide (n:=0)).1 ?_;refine callsIn_of_wp_marks func236 rfl trivial ?_ rfl;simp only[ntmps236,size_toArray,length_cons,length_nil,Nat.reduceAdd,Nat.reduceSub,Array.replicate_succ,Array.replicate_zero,push_toArray,append_toArray,nil_append,cons_append]
 gi_wp2_with (refine⟨trivial,rfl,?_⟩;gi_at_call 237;refine(callsIn_wide.2 (Jp _ _ _ rfl rfl rfl _)).mono ?_;rintro e w' ⟨rfl,rfl⟩)
 generalize Z:(((((w.alloc (.cells #[vI P,vS J N O,vS S n T] 36)).alloc (.cells #[.bool false] 4)).alloc (.map #[] 0)).alloc (.cells #[.map (some (w.heap.size+1+1))] 338)).alloc (.cells #[vI P,vS J N O,vS S n T] 36))=V at *;have V0:V.cell? ⟨w+1+1+1,0,none⟩=some (.map (some (w.heap.size+1+1))):=by subst Z;go_simp
 have V2:DT V (w.heap.size+1+1) []:=by
  subst Z;show(((((w.alloc (.cells #[vI P,vS J N O,vS S n T] 36)).alloc (.cells #[.bool false] 4)).alloc (.map #[] 0)).alloc (.cells #[.map (some (w.heap.size+1+1))] 338)).alloc (.cells #[vI P,vS J N O,vS S n T] 36)).heap[w.heap.size+1+1]? =some (.map #[] 0);have h:=World.alloc_heap_new ((w.alloc (.cells #[vI P,vS J N O,vS S n T] 36)).alloc (.cells #[.bool false] 4)) (.map #[] 0);rw[World.size_alloc,World.size_alloc]at h;rw[Below.heap_alloc _ _ _ Ϧ,Below.heap_alloc _ _ _ Ϧ];exact h
 have V3:V.cell? ⟨w+1,0,none⟩=some (.bool false):=by subst Z;go_simp
 have V4:V.frozen? ⟨w+1,0,none⟩=false:=by subst Z;go_simp
 have V5:V.cell? ⟨w+1+1+1+1,0,none⟩=some (vI P):=by subst Z;go_simp
 have V6:V.cell? ⟨w+1+1+1+1,1,none⟩=some (vS J N O):=by subst Z;go_simp
 have V7:V.cell? ⟨w+1+1+1+1,2,none⟩=some (vS S n T):=by subst Z;go_simp
 have V8:ϣ w V:=by
  subst Z
  repeat (first|exact bR|(refine Below.alloc ?_ ϫ _))
 have V9:V.heap.size=w.heap.size+1+1+1+1+1:=by subst Z;simp
 clear Z;have al:=Hm HB.o V8 (w.heap.size+1+1+1+1) Gu V5 V6 (by rw[HN.o];exact V7) Ai (λ_ _=>Ai) (λ_ _ _ _=>trivial) (λ_ _ _ _=>trivial);dsimp only at al;obtain⟨E,hE⟩:=nM (ems ((((J,N,O):Hdr),ml)::rs));rw[hE]at al ab;clear hE av;refine DD (gf:=276) (lb:=#[.pointer (some ⟨w+1+1+1+1,0,none⟩)]) rfl (enters_of func276 ϧ rfl) al bR (λx hx=>by obtain⟨p,_,rfl⟩:=mem_map.1 hx;rfl) (λh k=>A0.trans h k) (λW l o o' _ h ho=>A0.put W l o o' h ho)
  (λi X=>(E8 L i).Nodup/\DT X (w.heap.size+1+1) (E8 L i)/\A0 Gu V X/\X.frozen? ⟨w+1,0,none⟩=false/\ϣ w X) (λc X=>c= .ret/\true=R/\X.cell? ⟨w+1,0,none⟩=some (.bool true)/\ϣ w X)
  (λi X X' ap G H I=>⟨G.1,(H.block _ (Hl G.2.1) (λe=>by have:=(I _ e.symm).1;omega)).trans G.2.1,G.2.2.1.grown H (λr e=>(I r e).2),(frozen_kept (G.2.2.1.cell Ai V3) H (λr e=>(I r e).2)).trans G.2.2.2.1,D4 G.2.2.2.2 nR Ϥ H I⟩)
  (λc X X' ap G H I=>⟨G.1,G.2.1,cell_kept G.2.2.1 H (λr e=>(I r e).2),D4 G.2.2.2 nR Ϥ H I⟩)
  ⟨nodup_nil,V2,A0.refl _ _,V4,V8⟩
  (λi a' X=> ∃B,a'={tmps:=#[.agg #[vI P,vS J N O,vS S n T],.pointer (some ⟨w,0,none⟩),.pointer (some ⟨w+1,0,none⟩),.pointer (some ⟨w+1+1+1,0,none⟩),.pointer (some ⟨B,0,none⟩),.map (some (w.heap.size+1+1)),.agg #[vI P,vS J N O,vS S n T],.func (.func 276) #[] #[.pointer (some ⟨w+1+1+1+1,0,none⟩)],(E.getD i ϰ).val,undef,undef,undef,undef,undef,undef,undef,undef,undef,undef,undef,undef],defers:=[]}/\X.cell? ⟨B,0,none⟩=some (.string (E.getD i ϰ).key)/\X.cell? ⟨B,1,none⟩=some (vI (E.getD i ϰ).time)/\X.cell? ⟨B,2,none⟩=some (vI (E.getD i ϰ).seq)/\X.cell? ⟨B,3,none⟩=some (hdV (E.getD i ϰ).row)/\X.cell? ⟨B,4,none⟩=some (.bool (E.getD i ϰ).met))
  (λi a' u X X' ap G H I=>by
   obtain⟨B,h1,h2,h3,h4,h5,h6⟩:=G;exact⟨B,h1,cell_kept h2 H (λr e=>(I r e).2),cell_kept h3 H (λr e=>(I r e).2),cell_kept h4 H (λr e=>(I r e).2),cell_kept h5 H (λr e=>(I r e).2),cell_kept h6 H (λr e=>(I r e).2)⟩) ?assign ?body ?done ?stop
 case assign=>
  intro l' k x X K hx hi hK;obtain⟨hk,ao⟩:=List.getElem?_eq_some_iff.1 hx;rw[lMp]at hk;rw[getElem_map]at ao;subst ao;have hd:E.getD k ϰ=E[k]:=by rw[gDe,gEe hk];rfl
  have aa:=hK;rw[hd]at aa;clear hK hd hx;obtain⟨⟨j,q,m,⟨r1,r2,r3⟩,em⟩,hz⟩:∃z,E[k]=z:=⟨_,rfl⟩;rw[hz]at aa⊢;unfold EM.val hdV at aa⊢;dsimp only at aa⊢;obtain⟨j1,j0,j2,j3,j4⟩:=hi
  gi_wp2
  have lX:w.heap.size+1<X.heap.size:=bLt _ _ (j2.cell Ai V3);have lM:=Hl j0;exact aa _ _ ((KeepsOthers.alloc _ _).from _) (A0.alloc _ _) ⟨j1,GK j0 ϯ lM,j2.trans (A0.alloc _ _),Ϩ,j4.alloc j4.size _⟩ ⟨X.heap.size,rfl,Ϩ,Ϩ,Ϩ,Ϩ,Ϩ⟩
 case body=>
  intro l' i x a' X hx aw ay au ag;obtain⟨j1,j0,j2,j3,j4⟩:=au;obtain⟨B,ag,b0,b1,b2,b3,b4⟩:=ag;subst ag;obtain⟨hi,_⟩:=List.getElem?_eq_some_iff.1 hx;rw[lMp]at hi;have ar:=ab.o.1;have ak:i<L.length:=Ϥ;have ad:=ab.o.2 i ak;have KP:Ϣ (∀w1,CT 275 #[(E.getD i ϰ).val] w1 λr w'=>r= .returned (.agg #[.string (E.getD i ϰ).key,vI (E.getD i ϰ).time,vI (E.getD i ϰ).seq])/\ϣ w1 w'):=λw1=>IK _ w1;have ac:AK (L.getD i ϰ)=((E.getD i ϰ).key,(E.getD i ϰ).time,(E.getD i ϰ).seq):=by unfold AK;rw[ad.key,ad.time,ad.seq]
  have ae:wfP (AK (L.getD i ϰ)):=HW.o _ (by rw[gDe,gEe ak];simp);obtain⟨⟨j,q,m,⟨r1,r2,r3⟩,em⟩,hz⟩:∃z,E.getD i ϰ=z:=⟨_,rfl⟩;rw[hz]at KP b0 b1 b2 b3 b4 ac⊢;unfold EM.val hdV at KP;unfold hdV at b3;dsimp only at KP b0 b1 b2 b3 b4 ac;rw[ac]at ae;have c0:=j2.cell Ai V0;have Y:=j2.cell Ai V3;have lX:w.heap.size+1<X.heap.size:=bLt _ _ Y;have lM:=Hl j0;have ax:Tryz.prog.follows .mixedOrders=true:=ϧ;have az:IntKind.i64.wrap 1=1:=by rw[IntKind.wrap_i64];omega
  have a0:IntKind.i64.wrap 2=2:=by rw[IntKind.wrap_i64];omega
  have af:Ϣ (AK (L.getD i ϰ)=(j,q,m)):=ac;have HJ:Ϣ ((E8 L i).Nodup/\A0 Gu V X/\i<L.length):=⟨j1,j2,ak⟩;clear hz ad ar hx ac;by_cases hm:(j,q,m)∈E8 L i
  ·have HO:Ϣ (∀W,DT W (w.heap.size+1+1) (E8 L i)->∃(b:Nat) (U A:World),
    (Instr.lookup 338 (.map (some (w.heap.size+1+1))) (.agg #[.string j,vI q,vI m]) false).run Tryz.prog W= .ok (vI 1) W/\
    (Instr.mapEntry 338 (.map (some (w.heap.size+1+1))) (.agg #[.string j,vI q,vI m])).run Tryz.prog W= .ok (.tuple #[vI 1,vI b]) U/\
    (Instr.lookup 338 (.map (some (w.heap.size+1+1))) (.agg #[.string j,vI q,vI m]) false).run Tryz.prog U= .ok (vI 1) U/\
    (Instr.entryStore 338 (.map (some (w.heap.size+1+1))) (vI b) (vI 2)).run Tryz.prog U= .ok () A/\
    (∀W5:World,W5.heap[w.heap.size+1+1]? =A.heap[w.heap.size+1+1]? ->(Instr.lookup 338 (.map (some (w.heap.size+1+1))) (.agg #[.string j,vI q,vI m]) false).run Tryz.prog W5= .ok (vI 2) W5)/\W.grownBy A (some (w.heap.size+1+1))):=λW hW=>by
    have h:=Aem hW ae hm;unfold BW at h;exact h
   have HE:Ϣ (true=R):=by
    show _=_;rw[<-am.o,Af3 HJ.o.2.2 (by rw[af.o];exact hm)];rfl
   gi_wp2
   refine wpIn_mono (Q:=λe a' W'=> ∃(bo:Nat) (w2:World),e= .normal/\a'={tmps:=#[.agg #[vI P,vS J N O,vS S n T],.pointer (some ⟨w,0,none⟩),.pointer (some ⟨w+1,0,none⟩),.pointer (some ⟨w+1+1+1,0,none⟩),.pointer (some ⟨B,0,none⟩),.map (some (w.heap.size+1+1)),.agg #[vI P,vS J N O,vS S n T],.func (.func 276) #[] #[.pointer (some ⟨w+1+1+1+1,0,none⟩)],EM.val ⟨j,q,m,(r1,r2,r3),em⟩,.map (some (w.heap.size+1+1)),.agg #[.string j,vI q,vI m,vS r1 r2 r3,.bool em],.agg #[.string j,vI q,vI m],vI 1,vI 2,.tuple #[vI 1,vI (bo:Nat)],vI (bo:Nat),undef,undef,undef,undef,undef],defers:=[]}/\ϣ X w2/\DT w2 (w.heap.size+1+1) (E8 L i)/\(∀W5:World,W5.heap[w.heap.size+1+1]? =W'.heap[w.heap.size+1+1]? ->(Instr.lookup 338 (.map (some (w.heap.size+1+1))) (.agg #[.string j,vI q,vI m]) false).run Tryz.prog W5= .ok (vI 2) W5)/\w2.grownBy W' (some (w.heap.size+1+1))) ?_ ?_
   ·gi_region_with_o (refine⟨trivial,rfl,?_⟩;gi_at_call 275;refine(CallsIn.inRound l' (callsIn_wide.2 (KP.o _))).mono ?_;rintro e w2 ⟨rfl,ah⟩;have a:ϣ X w2:=bR.drew.trans ah;have k0:=cLz a c0;have f:DT w2 (w.heap.size+1+1) (E8 L i):=GK j0 a lM;obtain⟨bo,U,A,o1,o2,o3,o4,o5,d⟩:=HO.o w2 f)
    all_goals exact⟨bo,w2,rfl,rfl,a,f,o5,d⟩
   ·rintro e a' A ⟨bo,w2,rfl,rfl,a,f,o5,d⟩;have d0:=cell_grown f d (cLz a c0);have d3:=cell_grown f d (cLz a Y);have df:=O4 f d (cLz a Y) (by rw[a.frozen (p:=⟨w+1,0,none⟩) lX];exact j3);have e0:=cell_grown f d (cLz a b0);have e1:=cell_grown f d (cLz a b1);have e2:=cell_grown f d (cLz a b2);have e3:=cell_grown f d (cLz a b3);have e4:=cell_grown f d (cLz a b4);have kx:KeepsFrom V.heap.size X A:=(Ca a).trans (Ud d Ϥ);have aj:ϣ w A:=(bT j4 a).grown d (by have:=a.size;omega) (λr e=>by cases e;omega);have l4:w.heap.size+1+1<A.heap.size:=by have:=a.size;have:=d.size;omega
    clear j0 f d a HO c0 Y b0 b1 b2 b3 b4
    gi_wp2
    gi_region_with_o (refine⟨trivial,rfl,?_⟩;gi_at_call 275;refine(CallsIn.inRound l' (callsIn_wide.2 (KP.o _))).mono ?_;rintro e w5 ⟨rfl,ai⟩;have F:ϣ A w5:=bR.drew.trans ai;have k0:=cLz F d0;have k3:=cLz F d3;have kf:w5.frozen? ⟨w+1,0,none⟩=false:=(by rw[F.frozen (p:=⟨w+1,0,none⟩) Ϫ];exact df);have lk:=o5 w5 (F.block _ l4))
    all_goals
     gi_wp2
     exact⟨(kx.trans (Ca F)).trans ((KeepsOthers.setCell _ _ _).from _),rfl,HE.o,World.cell?_setCell_same _ _ _ k3,(bT aj F).setCell Ϫ _⟩
  ·have HO:Ϣ (∀W,DT W (w.heap.size+1+1) (E8 L i)->∃U A,
    (Instr.lookup 338 (.map (some (w.heap.size+1+1))) (.agg #[.string j,vI q,vI m]) false).run Tryz.prog W= .ok (vI 0) W/\
    (Instr.mapEntry 338 (.map (some (w.heap.size+1+1))) (.agg #[.string j,vI q,vI m])).run Tryz.prog W= .ok (.tuple #[vI 0,vI (E8 L i).length]) U/\
    (Instr.lookup 338 (.map (some (w.heap.size+1+1))) (.agg #[.string j,vI q,vI m]) false).run Tryz.prog U= .ok (vI 0) U/\
    (Instr.entryStore 338 (.map (some (w.heap.size+1+1))) (vI (E8 L i).length) (vI 1)).run Tryz.prog U= .ok () A/\
    DT A (w.heap.size+1+1) (E8 L i++[(j,q,m)])/\W.grownBy A (some (w.heap.size+1+1))):=λW hW=>by
    have h:=Ael hW ae hm;unfold BW at h;exact h
   have aq:Ϣ (∀W,DT W (w.heap.size+1+1) (E8 L i++[(j,q,m)])->(Instr.lookup 338 (.map (some (w.heap.size+1+1))) (.agg #[.string j,vI q,vI m]) false).run Tryz.prog W= .ok (vI 1) W):=λW hW=>by
    have h:=AbV hW ae hm;unfold BW at h;exact h
   have HS:Ϣ (E8 L (i+1)=E8 L i++[(j,q,m)]/\(E8 L (i+1)).Nodup):=⟨by rw[Mh HJ.o.2.2,af.o],Wa HJ.o.2.2 HJ.o.1 (by rw[af.o];exact hm)⟩;obtain⟨pn,an⟩:=nM ((E8 L i).length);rw[an]at HO;clear an
   gi_wp2
   refine wpIn_mono (Q:=λe a' W'=> ∃(w2:World),e= .normal/\a'={tmps:=#[.agg #[vI P,vS J N O,vS S n T],.pointer (some ⟨w,0,none⟩),.pointer (some ⟨w+1,0,none⟩),.pointer (some ⟨w+1+1+1,0,none⟩),.pointer (some ⟨B,0,none⟩),.map (some (w.heap.size+1+1)),.agg #[vI P,vS J N O,vS S n T],.func (.func 276) #[] #[.pointer (some ⟨w+1+1+1+1,0,none⟩)],EM.val ⟨j,q,m,(r1,r2,r3),em⟩,.map (some (w.heap.size+1+1)),.agg #[.string j,vI q,vI m,vS r1 r2 r3,.bool em],.agg #[.string j,vI q,vI m],vI 0,vI 1,.tuple #[vI 0,vI (pn:Nat)],vI (pn:Nat),undef,undef,undef,undef,undef],defers:=[]}/\ϣ X w2/\DT w2 (w.heap.size+1+1) (E8 L i)/\DT W' (w.heap.size+1+1) (E8 L i++[(j,q,m)])/\w2.grownBy W' (some (w.heap.size+1+1))) ?_ ?_
   ·gi_region_with_o (refine⟨trivial,rfl,?_⟩;gi_at_call 275;refine(CallsIn.inRound l' (callsIn_wide.2 (KP.o _))).mono ?_;rintro e w2 ⟨rfl,ah⟩;have a:ϣ X w2:=bR.drew.trans ah;have k0:=cLz a c0;have f:DT w2 (w.heap.size+1+1) (E8 L i):=GK j0 a lM;obtain⟨U,A,o1,o2,o3,o4,o5,d⟩:=HO.o w2 f)
    all_goals exact⟨w2,rfl,rfl,a,f,o5,d⟩
   ·rintro e a' A ⟨w2,rfl,rfl,a,f,o5,d⟩;have d0:=cell_grown f d (cLz a c0);have d3:=cell_grown f d (cLz a Y);have df:=O4 f d (cLz a Y) (by rw[a.frozen (p:=⟨w+1,0,none⟩) lX];exact j3);have e0:=cell_grown f d (cLz a b0);have e1:=cell_grown f d (cLz a b1);have e2:=cell_grown f d (cLz a b2);have e3:=cell_grown f d (cLz a b3);have e4:=cell_grown f d (cLz a b4);have kx:KeepsFrom V.heap.size X A:=(Ca a).trans (Ud d Ϥ);have ko:A0 Gu X A:=(C2 a nR).trans (AbX f d);have aj:ϣ w A:=(bT j4 a).grown d (by have:=a.size;omega) (λr e=>by cases e;omega);have l4:w.heap.size+1+1<A.heap.size:=Hl o5;clear j0 f d a HO c0 Y b0 b1 b2 b3 b4
    gi_wp2
    gi_region_with_o (refine⟨trivial,rfl,?_⟩;gi_at_call 275;refine(CallsIn.inRound l' (callsIn_wide.2 (KP.o _))).mono ?_;rintro e w5 ⟨rfl,ai⟩;have F:ϣ A w5:=bR.drew.trans ai;have k0:=cLz F d0;have mm:DT w5 (w.heap.size+1+1) (E8 L i++[(j,q,m)]):=GK o5 F l4;have lk:=aq.o w5 mm)
    all_goals
     gi_wp2
     exact⟨kx.trans (Ca F),ko.trans (C2 F nR),HS.o.2,by rw[HS.o.1];exact mm,HJ.o.2.1.trans (ko.trans (C2 F nR)),by rw[F.frozen (p:=⟨w+1,0,none⟩) Ϫ];exact df,bT aj F⟩
 case done=>
  rintro D X hD ⟨j1,j0,j2,j3,j4⟩ hK;have Y:=j2.cell Ai V3;have HE:Ϣ (false=R):=by
   show _=_;rw[lMp,ab.o.1]at j1;rw[<-am.o,VZ j1];rfl
  clear j0
  gi_wp2
  have aa:(X.setCell ⟨w+1,0,none⟩ (.bool false)).heap[D]? =some (.deferred (some [])):=(heap_setCell_other _ _ _ _ Ϫ).trans hK;refine⟨Ϧ,.inl ⟨_,_,rfl,run_takeDeferred aa,?_⟩⟩;have y3:=CZ (World.cell?_setCell_same _ _ (.bool false) Y) aa rfl (.deferred none);exact⟨.bool false,(by simp[results,results236,go_sem,y3]),Aa HE.o,CY (j4.setCell Ϫ _) Ϥ aa _⟩
 case stop=>
  rintro D c X hD ⟨rfl,hE,Y,j4⟩ hK
  gi_wp2
  refine⟨Ϧ,.inl ⟨_,_,rfl,run_takeDeferred hK,?_⟩⟩;have y3:=CZ Y hK rfl (.deferred none);exact⟨.bool true,(by simp[results,results236,go_sem,y3]),Aa hE,CY j4 Ϥ hK _⟩
noncomputable def IP(l:List Ent):Bool:=allB l.length (Gl l)
theorem Pu(h:Hdr)(j:List EM)(l:List Ent)(w:World)(z:h.2.1=l.length)(q:l.length<=9223372036854775807)(ha:BR w h.1 j)(f:ERs w j l)(D:∀x∈l,wfE x):
 Calls Tryz.prog 234 #[hdV h] w λe w'=>e= .returned (.bool (IP l))/\ϣ w w':=by
 obtain⟨a,n,c⟩:=h;unfold hdV;dsimp only at z ha⊢;subst z;have k:Ϣ (∀w1,ϣ w w1->w1.cell? ⟨w,0,none⟩=some (vS a l.length c)->CT 269 #[vS a l.length c,.func (.func 270) #[] #[.pointer (some ⟨w,0,none⟩)]] w1 λe w'=>e= .returned (.bool (IP l))/\ϣ w1 w'):=λw1 m E=>by
  have h:=R6 270 (enters_of func270 ϧ rfl) #[.pointer (some ⟨w,0,none⟩)] (Gl l) a c j w1 (by rw[f.1];exact q) (Cj ha m) (λi w2 y d=>Zh a c j l i w.heap.size w2 (by rw[f.1]at y;exact y) q (cLz d E) (Cj (Cj ha m) d) ((f.below m).below d) D);rw[f.1]at h;exact h
 obtain⟨n,A⟩:=nM l.length;rw[A]at k⊢;clear ha f D A q;obtain⟨R,r⟩:=nM (IP l);rw[r]at k⊢;clear r;have u:ϣ w (w.alloc (.cells #[vS a n c] 33)):=ϯ;go_enter func234,ntmps234;go_wp2_with (go_at_call 269;refine(k.o _ u Ϩ).mono ?_;rintro e w2 ⟨rfl,d⟩);go_ret;exact⟨rfl,bT u d⟩
def J8(b:Buf):Bool:=allB b.runs.length λi=>decide (0<(b.runs.getD i ϰ).length)
theorem Wb{P Q:Nat->Bool}(h:∀i,i<n->P i=Q i):allB n P=allB n Q:=by
 rcases Bool.eq_false_or_eq_true (allB n Q)with a|a
 ·rw[a];exact AF.2 (λi c=>by rw[h i c];exact AF.1 a i c)
 ·rw[a];rcases Bool.eq_false_or_eq_true (allB n P)with d|d
  ·have:allB n Q=true:=AF.2 (λi c=>by rw[<-h i c];exact AF.1 d i c);rw[a]at this;cases this
  ·exact d
theorem Lt(b:Buf)(x:BX)(w:World)(h:bufAt w b x):
 Calls Tryz.prog 235 #[B5 b x] w λe w'=>e= .returned (.bool (!J8 b))/\ϣ w w':=by
 have a:Ϣ (∀w1,ϣ w w1->CT 273 #[vS x.ra x.rs.length x.rc,.func (.func 274) #[] #[]] w1 λe w'=>e= .returned (.bool (J8 b))/\ϣ w1 w'):=λw1 D=>by
  have f:(x.rs.map (·.1)).length=x.rs.length:=lMp ..;have k:=R7 274 (enters_of func274 ϧ rfl) #[] (λi=>decide (0<((x.rs.map (·.1)).getD i (none,0,0)).2.1)) x.ra x.rc (x.rs.map (·.1)) w1 (by rw[f];exact h.few) (IM h.hds D) (λi w2 c r=>by rw[Array.append_empty];exact VK _ _ w2);have e:allB (x.rs.map (·.1)).length (λi=>decide (0<((x.rs.map (·.1)).getD i (none,0,0)).2.1))=J8 b:=by
   unfold J8;rw[f,h.rlen];refine Wb (λi c=>?_);have d:i<x.rs.length:=by rw[h.rlen];exact c
   have j:=(h.runs i c).1;have A:=(h.len (x.rs[i]) (mem_cons_of_mem _ (getElem_mem d))).1;have y:(x.rs.map (·.1)).getD i (none,0,0)=(x.rs[i]).1:=by rw[gDe,getElem?_map,gEe d];rfl
   have z:x.rs.getD i ϰ=x.rs[i]:=by rw[gDe,gEe d];rfl
   rw[z]at j;rw[y,A,j]
  rw[e,f]at k;exact k
 obtain⟨R,m⟩:=nM (J8 b);rw[m]at a⊢;clear m h;obtain⟨I,J,⟨⟨F,G,H⟩,N⟩,K⟩:=x;obtain⟨E,L,O⟩:=b;unfold B5 hdV;dsimp only at a⊢;obtain⟨n,u⟩:∃n,K.length=n:=⟨_,rfl⟩;rw[u]at a⊢;clear u;have q:ϣ w (w.alloc (.cells #[vI E,vS F G H,vS I n J] 36)):=ϯ;go_enter func235,ntmps235;go_wp2_with (go_at_call 273;refine(a.o _ q).mono ?_;rintro e w2 ⟨rfl,r⟩);go_ret;exact⟨rfl,bT q r⟩
def countB(b:Buf):Bool:=decide ((b.mem.length:Int)<=b.lim)&&decide ((Ab b).length<=4096)
theorem FJ(b:Buf)(x:BX)(w:World)(h:bufAt w b x)(F:(Ab b).length<=4611686018427387904):
 Calls Tryz.prog 167 #[B5 b x] w λe w'=>e= .returned (.bool (countB b))/\ϣ w w':=by
 have a:=hIz (λ(w1:World) (H:ϣ w w1)=>O3 b x w1 (Ar h H) F);have u:x.m.1.2.1=b.mem.length:=(h.len x.m (mem_cons_self ..)).1.trans h.mem.1;obtain⟨R,q⟩:=nM (countB b);have k:Ϣ (countB b=R):=q;rw[q];clear q h;obtain⟨L,O,⟨⟨I,y,J⟩,S⟩,P⟩:=x;obtain⟨f,K,Q⟩:=b;unfold B5 hdV at a⊢;dsimp only at a k u⊢;obtain⟨n,E⟩:∃n,P.length=n:=⟨_,rfl⟩;rw[E]at a⊢;clear E;obtain⟨N,m⟩:=nM ((Ab ⟨f,K,Q⟩).length);rw[m]at a;have j:Ϣ ((decide ((y:Int)<=f)&&decide (N<=4096))=R):=by
  show _=_;rw[<-k.o];unfold countB;rw[m,u]
 clear m k u F;have d:ϣ w (w.alloc (.cells #[vI f,vS I y J,vS L n O] 36)):=ϯ;by_cases z:(y:Int)<=f
 ·by_cases A:N<=4096
  ·have c:Ϣ (true=R):=by show _=_;rw[<-j.o];simp[z,A]
   have D:(N:Int)<=4096:=Ϥ;go_enter func167,ntmps167;go_wp2_with (go_at_call 232;refine(a.o _ d).mono ?_;rintro e w2 ⟨rfl,r⟩);go_ret;exact⟨Aa c.o,bT d r⟩
  ·have c:Ϣ (false=R):=by show _=_;rw[<-j.o];simp[A]
   have D:¬(N:Int)<=4096:=Ϥ;have G:Ϣ (¬(N:Int)<=4096):=D;go_enter func167,ntmps167;go_wp2_with (go_at_call 232;refine(a.o _ d).mono ?_;rintro e w2 ⟨rfl,r⟩);go_ret;exact⟨Aa ((decide_eq_false (by have:=G.o;omega)).trans c.o),bT d r⟩
 ·have c:Ϣ (false=R):=by show _=_;rw[<-j.o];simp[z]
  go_enter func167,ntmps167;go_wp2;go_ret;exact⟨Aa c.o,d⟩
noncomputable def FM(b:Buf):Bool:=allB (partsB b).length (λi=>IP ((partsB b).getD i ϰ))&&(J8 b&&Cw (Ab b))
theorem Zl{b:Buf}(a:i<(partsB b).length)(h:IP ((partsB b).getD i ϰ)=false):FM b=false:=by unfold FM;rw[CP a h];rfl
theorem Wc{b:Buf}(h:∀i,i<(partsB b).length->IP ((partsB b).getD i ϰ)=true):FM b=(J8 b&&Cw (Ab b)):=by unfold FM;rw[AF.2 h];rfl
theorem Dc(b:Buf)(x:BX)(w:World)(h:bufAt w b x)(hw:∀y∈Ab b,wfE y/\wfP (AK y)):
 Calls Tryz.prog 168 #[B5 b x] w λe w'=>e= .returned (.bool (FM b))/\ϣ w w':=by
 have HB:Ϣ (bufAt w b x):=h;have G:=hIz (λ(w1:World) (q:ϣ w w1)=>Lt b x w1 (Ar h q));have Z:=hIz (λ(w1:World) (q:ϣ w w1)=>Zk b x w1 (Ar h q) (λy hy=>(hw y hy).2));have KP:Ϣ (∀i w1,i<(x.m::x.rs).length->ϣ w w1->CT 234 #[hdV ((x.m::x.rs).getD i ϰ).1] w1 λe w'=>e= .returned (.bool (IP ((partsB b).getD i ϰ)))/\ϣ w1 w'):=λi w1 d q=>by
  have ak:(x.m::x.rs).getD i ϰ∈x.m::x.rs:=by rw[gDe,gEe d];exact getElem_mem d
  have al:(partsB b).length=(x.m::x.rs).length:=by simp[partsB,h.rlen]
  have hE:ERs w ((x.m::x.rs).getD i ϰ).2 ((partsB b).getD i ϰ):=by
   cases i with
   |zero=>exact h.mem
   |succ i=>
    have aq:i<b.runs.length:=by rw[length_cons,h.rlen]at d;omega
    simpa[partsB]using h.runs i aq
  have hl:=h.len _ ak;refine Pu _ _ _ w1 (by rw[hl.1,hE.1]) (by rw[<-hE.1];exact hl.2) (Cj (h.ems _ ak) q) (hE.below q) (λy hy=>(hw y ?_).1);unfold Ab;refine mem_flatten.2 ⟨_,?_,hy⟩;rw[gDe,gEe (by rw[al];exact d)];exact getElem_mem (by rw[al];exact d)
 have ae:Ϣ ((partsB b).length=(x.m::x.rs).length):=by show _=_;simp[partsB,h.rlen]
 obtain⟨R,hR⟩:=nM (FM b);have Y:Ϣ (∀i,i<(x.m::x.rs).length->IP ((partsB b).getD i ϰ)=false->false=R):=λi d hf=>by rw[<-hR,Zl (by rw[ae.o];exact d) hf]
 have N:Ϣ ((∀i,i<(x.m::x.rs).length->IP ((partsB b).getD i ϰ)=true)->(J8 b&&Cw (Ab b))=R):=λH=>by rw[<-hR,Wc (λi d=>H i (by rw[<-ae.o];exact d))]
 rw[hR];clear hR h hw ae;obtain⟨RB,aj⟩:∃z:Nat->Bool,(λi=>IP ((partsB b).getD i ϰ))=z:=⟨_,rfl⟩;have ag:∀i,IP ((partsB b).getD i ϰ)=RB i:=λi=>congrFun aj i;simp only[ag]at KP Y N;obtain⟨G1,ah⟩:=nM (J8 b);obtain⟨G2,ai⟩:=nM (Cw (Ab b));rw[ah]at G N;rw[ai]at Z N;clear aj ag ah ai;obtain⟨ra,rc,⟨⟨I,J,L⟩,ml⟩,rs⟩:=x;obtain⟨aa,av,aw⟩:=b;unfold B5 at G Z⊢;dsimp only at KP Y N G Z⊢;obtain⟨n,hn⟩:∃n,rs.length=n:=⟨_,rfl⟩;have HN:Ϣ (rs.length=n):=hn;rw[hn]at G Z⊢;clear hn;have e1:hdV (I,J,L)=vS I J L:=rfl;rw[e1]at G Z⊢;refine(callsIn_wide (n:=0)).1 ?_;refine callsIn_of_wp_marks func168 rfl trivial ?_ rfl;simp only[ntmps168,size_toArray,length_cons,length_nil,Nat.reduceAdd,Nat.reduceSub,Array.replicate_succ,Array.replicate_zero,push_toArray,append_toArray,nil_append,cons_append]
 gi_wp2_with (refine⟨trivial,rfl,?_⟩;gi_at_call 233;refine(callsIn_wide.2 (Jo _ _ _ rfl rfl rfl _)).mono ?_;rintro e w' ⟨rfl,rfl⟩)
 generalize A:(((w.alloc (.cells #[vI aa,vS I J L,vS ra n rc] 36)).alloc (.cells #[.bool false] 4)).alloc (.cells #[vI aa,vS I J L,vS ra n rc] 36))=V at *;have V0:V.cell? ⟨w,0,none⟩=some (vI aa):=by subst A;go_simp
 have V1:V.cell? ⟨w,1,none⟩=some (vS I J L):=by subst A;go_simp
 have V2:V.cell? ⟨w,2,none⟩=some (vS ra n rc):=by subst A;go_simp
 have V3:V.cell? ⟨w+1,0,none⟩=some (.bool false):=by subst A;go_simp
 have V4:V.frozen? ⟨w+1,0,none⟩=false:=by subst A;go_simp
 have V6:V.cell? ⟨w+1+1,1,none⟩=some (vS I J L):=by subst A;go_simp
 have V7:V.cell? ⟨w+1+1,2,none⟩=some (vS ra n rc):=by subst A;go_simp
 have V8:ϣ w V:=by
  subst A
  repeat (first|exact bR|(refine Below.alloc ?_ ϫ _))
 have V9:V.heap.size=w.heap.size+1+1+1:=by subst A;simp
 clear A;have af:=JU HB.o V8 (w.heap.size+1+1) Gu V6 (by rw[HN.o];exact V7) Ai (λ_ _ _=>Ai);obtain⟨P,hP⟩:∃z:List Part,(((I,J,L),ml)::rs)=z:=⟨_,rfl⟩;dsimp only at af;rw[hP]at af KP Y N;clear hP;refine DD (gf:=268) (lb:=#[.pointer (some ⟨w+1+1,0,none⟩)]) rfl (enters_of func268 ϧ rfl) af bR (λx U=>by obtain⟨p,_,rfl⟩:=mem_map.1 U;rfl) (λh k=>A0.trans h k) (λW l o o' _ h ho=>A0.put W l o o' h ho)
  (λi X=>(∀j,j<i->RB j=true)/\A0 Gu V X/\X.frozen? ⟨w+1,0,none⟩=false/\ϣ w X) (λc X=>c= .ret/\false=R/\X.cell? ⟨w+1,0,none⟩=some (.bool false)/\ϣ w X)
  (λi X X' am m H T=>⟨m.1,m.2.1.grown H (λr e=>(T r e).2),(frozen_kept (m.2.1.cell Ai V3) H (λr e=>(T r e).2)).trans m.2.2.1,D4 m.2.2.2 nR Ϥ H T⟩)
  (λc X X' am m H T=>⟨m.1,m.2.1,cell_kept m.2.2.1 H (λr e=>(T r e).2),D4 m.2.2.2 nR Ϥ H T⟩)
  ⟨λj hj=>absurd hj (Nat.not_lt_zero j),A0.refl _ _,V4,V8⟩
  (λi a' X=>a'={tmps:=#[.agg #[vI aa,vS I J L,vS ra n rc],.pointer (some ⟨w,0,none⟩),.pointer (some ⟨w+1,0,none⟩),hdV (P.getD i ϰ).1,.agg #[vI aa,vS I J L,vS ra n rc],.func (.func 268) #[] #[.pointer (some ⟨w+1+1,0,none⟩)],hdV (P.getD i ϰ).1,undef,undef,undef,undef,undef,undef,undef,undef,undef,undef,undef],defers:=[]})
  (λi a' u X X' am m H T=>m) ?assign ?body ?done ?stop
 case assign=>
  intro l' k x X K U d E;obtain⟨hk,ac⟩:=List.getElem?_eq_some_iff.1 U;rw[lMp]at hk;rw[getElem_map]at ac;subst ac;have hd:P.getD k ϰ=P[k]:=by rw[gDe,gEe hk];rfl
  have f:=λW' h1 h2 h3=>E _ W' h1 h2 h3 rfl;rw[hd]at f;clear E hd U;obtain⟨⟨⟨z1,z2,z3⟩,zl⟩,hz⟩:∃z,P[k]=z:=⟨_,rfl⟩;rw[hz]at f⊢;unfold hdV at f⊢;dsimp only at f⊢
  gi_wp2
  exact f X (KeepsFrom.refl _ _) (A0.refl _ _) d
 case body=>
  intro l' i x a' X U ar au ao ap;obtain⟨j1,Q,j3,F⟩:=ao;obtain⟨d,ac⟩:=List.getElem?_eq_some_iff.1 U;rw[lMp]at d;subst ap;have S:Ϣ (CT 234 #[hdV (P.getD i ϰ).1] X λe w'=>e= .returned (.bool (RB i))/\ϣ X w'):=KP.o i X d F;have O:=Q.cell Ai V3;have lX:w.heap.size+1<X.heap.size:=bLt _ _ O;have an:Ϣ (RB i=false->false=R):=Y.o i d;have HJ:Ϣ ((∀j,j<i->RB j=true)/\A0 Gu V X):=⟨j1,Q⟩;clear U ac KP Y N j1 Q;obtain⟨⟨⟨z1,z2,z3⟩,zl⟩,hz⟩:∃z,P.getD i ϰ=z:=⟨_,rfl⟩;rw[hz]at S⊢;unfold hdV at S⊢;dsimp only at S⊢;clear hz
  cases q:RB i with
  |true=>
   rw[q]at S
   gi_wp2_with (refine⟨trivial,rfl,?_⟩;gi_at_call 234;refine(CallsIn.inRound l' (callsIn_wide.2 S.o)).mono ?_;rintro e w2 ⟨rfl,a⟩)
   exact⟨Ca a,C2 a nR,λj hj=>by
    rcases Nat.lt_succ_iff_lt_or_eq.1 hj with h|h
    ·exact HJ.o.1 j h
    ·rw[h];exact q,HJ.o.2.trans (C2 a nR),by rw[a.frozen (p:=⟨w+1,0,none⟩) lX];exact j3,bT F a⟩
  |false=>
   rw[q]at S
   gi_wp2_with (refine⟨trivial,rfl,?_⟩;gi_at_call 234;refine(CallsIn.inRound l' (callsIn_wide.2 S.o)).mono ?_;rintro e w2 ⟨rfl,a⟩;have k3:=cLz a O;have kf:w2.frozen? ⟨w+1,0,none⟩=false:=(by rw[a.frozen (p:=⟨w+1,0,none⟩) lX];exact j3))
   exact⟨(Ca a).trans ((KeepsOthers.setCell _ _ _).from _),rfl,an.o q,World.cell?_setCell_same _ _ _ k3,(bT F a).setCell Ϫ _⟩
 case done=>
  rintro D X hD ⟨j1,Q,j3,F⟩ E;rw[lMp]at j1;have HE:Ϣ ((G1&&G2)=R):=N.o j1;have c0:=Q.cell Ai V0;have c1:=Q.cell Ai V1;have c2:=Q.cell Ai V2;have O:=Q.cell Ai V3;have lX:w.heap.size+1<X.heap.size:=bLt _ _ O;have lD:D<X.heap.size:=(Array.getElem?_eq_some_iff.1 E).1;clear j1 Y N KP
  cases hg1:G1 with
  |false=>
   have ad:Ϣ (false=R):=by show _=_;rw[<-HE.o,hg1];rfl
   rw[hg1]at G
   gi_wp2_with (first|(refine⟨trivial,rfl,?_⟩;gi_at_call 235;refine(callsIn_wide.2 (G.o _ F)).mono ?_;rintro e w2 ⟨rfl,a⟩;have k3:=cLz a O;have kf:w2.frozen? ⟨w+1,0,none⟩=false:=(by rw[a.frozen (p:=⟨w+1,0,none⟩) lX];exact j3))|refine⟨trivial,?_⟩)
   have f:(w2.setCell ⟨w+1,0,none⟩ (.bool false)).heap[D]? =some (.deferred (some [])):=(heap_setCell_other _ _ _ _ Ϫ).trans ((a.block _ lD).trans E);refine⟨Ϧ,.inl ⟨_,_,rfl,run_takeDeferred f,?_⟩⟩;have y3:=CZ (World.cell?_setCell_same _ _ (.bool false) k3) f rfl (.deferred none);exact⟨.bool false,(by simp[results,results168,go_sem,y3]),Aa ad.o,CY ((bT F a).setCell Ϫ _) Ϥ f _⟩
  |true=>
   have ad:Ϣ (G2=R):=by show _=_;rw[<-HE.o,hg1];rfl
   rw[hg1]at G
   gi_wp2_with (first
    |(refine⟨trivial,rfl,?_⟩;gi_at_call 235;refine(callsIn_wide.2 (G.o _ F)).mono ?_;rintro e w2 ⟨rfl,a⟩;have k0:=cLz a c0;have k1:=cLz a c1;have k2:=cLz a c2;have k3:=cLz a O;have kf:w2.frozen? ⟨w.heap.size+1,0,none⟩=false:=(by rw[a.frozen (p:=⟨w.heap.size+1,0,none⟩) lX];exact j3);have j5:=bT F a)
    |(refine⟨trivial,rfl,?_⟩;gi_at_call 236;refine(callsIn_wide.2 (Z.o _ j5)).mono ?_;rintro e w3 ⟨rfl,ab⟩;have u3:=cLz ab k3;have uf:w3.frozen? ⟨w.heap.size+1,0,none⟩=false:=(by rw[ab.frozen (p:=⟨w.heap.size+1,0,none⟩) (Nat.lt_of_lt_of_le lX a.size)];exact kf)))
   have f:∀v,(w3.setCell ⟨w+1,0,none⟩ v).heap[D]? =some (.deferred (some [])):=λv=>(heap_setCell_other _ _ _ _ Ϫ).trans ((ab.block _ (Nat.lt_of_lt_of_le lD a.size)).trans ((a.block _ lD).trans E));refine⟨Ϧ,.inl ⟨_,_,rfl,run_takeDeferred (f _),?_⟩⟩;have y3:=CZ (World.cell?_setCell_same _ _ (.bool G2) u3) (f _) rfl (.deferred none);exact⟨.bool G2,(by simp[results,results168,go_sem,y3]),Aa ad.o,CY ((bT j5 ab).setCell Ϫ _) Ϥ (f _) _⟩
 case stop=>
  rintro D c X hD ⟨rfl,hE,O,F⟩ E
  gi_wp2
  refine⟨Ϧ,.inl ⟨_,_,rfl,run_takeDeferred E,?_⟩⟩;have y3:=CZ O E rfl (.deferred none);exact⟨.bool false,(by simp[results,results168,go_sem,y3]),Aa hE,CY F Ϥ E _⟩
noncomputable def DK(b:Buf):Int:=if AA b.lim 1 64=false then 3 else if countB b=false then 2 else if FM b=false then 1 else 0
theorem Bi(b:Buf)(x:BX)(w:World)(h:bufAt w b x)(P:∀y∈Ab b,wfE y/\wfP (AK y))(O:(Ab b).length<=4611686018427387904):
 Calls Tryz.prog 100 #[B5 b x] w λe w'=>e= .returned (vI (DK b))/\ϣ w w':=by
 have j:=hIz (λ(w1:World) (z:ϣ w w1)=>FJ b x w1 (Ar h z) O);have q:=hIz (λ(w1:World) (z:ϣ w w1)=>Dc b x w1 (Ar h z) P);have m:Ϣ (∀w1,CT 166 #[vI b.lim] w1 λe w'=>e= .returned (.bool (AA b.lim 1 64))/\w'=w1):=λw1=>IJ _ w1;obtain⟨R,u⟩:=nM (DK b);have f:Ϣ ((if AA b.lim 1 64=false then 3 else if countB b=false then 2 else if FM b=false then 1 else 0)=R):=u;rw[u];clear u h P O;obtain⟨G1,J⟩:=nM (AA b.lim 1 64);obtain⟨Q,K⟩:=nM (countB b);obtain⟨S,L⟩:=nM (FM b);rw[J]at m f;rw[K]at j f;rw[L]at q f;clear J K L;obtain⟨H,I,⟨⟨E,F,G⟩,ml⟩,X⟩:=x;obtain⟨D,Z,aa⟩:=b;unfold B5 hdV at j q⊢;dsimp only at m j q⊢;obtain⟨n,N⟩:∃n,X.length=n:=⟨_,rfl⟩;rw[N]at j q⊢;clear N;have k:ϣ w (w.alloc (.cells #[vI D,vS E F G,vS H n I] 36)):=ϯ
 cases G1 with
 |false=>
  have d:Ϣ ((3:Int)=R):=f.o;go_enter func100,ntmps100;go_wp2_with (go_at_call 166;refine(m.o _).mono ?_;rintro e w2 ⟨rfl,rfl⟩);go_ret;exact⟨Ad d.o,k⟩
 |true=>
  cases Q with
  |false=>
   have d:Ϣ ((2:Int)=R):=f.o;go_enter func100,ntmps100;go_wp2_with (first
    |(go_at_call 166;refine(m.o _).mono ?_;rintro e w2 ⟨rfl,rfl⟩)
    |(go_at_call 167;refine(j.o _ k).mono ?_;rintro e c ⟨rfl,a⟩))
   go_ret;exact⟨Ad d.o,bT k a⟩
  |true=>
   cases S with
   |false=>
    have d:Ϣ ((1:Int)=R):=f.o;go_enter func100,ntmps100;go_wp2_with (first
     |(go_at_call 166;refine(m.o _).mono ?_;rintro e w2 ⟨rfl,rfl⟩)
     |(go_at_call 167;refine(j.o _ k).mono ?_;rintro e c ⟨rfl,a⟩;have r:=bT k a;have T:c.cell? ⟨w.heap.size,0,none⟩=some (vI D):=cLz a Ϩ;have U:c.cell? ⟨w.heap.size,1,none⟩=some (vS E F G):=cLz a Ϩ;have V:c.cell? ⟨w.heap.size,2,none⟩=some (vS H n I):=cLz a Ϩ)
     |(go_at_call 168;refine(q.o _ r).mono ?_;rintro e Y ⟨rfl,A⟩))
    go_ret;exact⟨Ad d.o,bT r A⟩
   |true=>
    have d:Ϣ ((0:Int)=R):=f.o;go_enter func100,ntmps100;go_wp2_with (first
     |(go_at_call 166;refine(m.o _).mono ?_;rintro e w2 ⟨rfl,rfl⟩)
     |(go_at_call 167;refine(j.o _ k).mono ?_;rintro e c ⟨rfl,a⟩;have r:=bT k a;have T:c.cell? ⟨w.heap.size,0,none⟩=some (vI D):=cLz a Ϩ;have U:c.cell? ⟨w.heap.size,1,none⟩=some (vS E F G):=cLz a Ϩ;have V:c.cell? ⟨w.heap.size,2,none⟩=some (vS H n I):=cLz a Ϩ)
     |(go_at_call 168;refine(q.o _ r).mono ?_;rintro e Y ⟨rfl,A⟩))
    go_ret;exact⟨Ad d.o,bT r A⟩
end bf
namespace bf
open vl
variable {W w w' w1 w2 : World} {C NB b base base' cap2 g n s size : Nat} {e t : TypeId} {v : Value} {xs : List Value} {x : Ent} {l : List Ent} {o : Obj} {p : Part}
theorem Ue:(Tryz.prog.info? 166).map (λi=>(i.zero,i.size,i.bytes))=some (some (.agg #[.string ⟨#[]⟩,vI 0,vI 0,vS none 0 0,.bool false]),5,64):=ϧ
theorem A1(h:w.ownsRow base e size v n xs)(m:∀g,v.ownBlock=some g->w'.heap[g]? =w.heap[g]?):w'.ownsRow base e size v n xs:=by
 refine⟨h.1,?_⟩;rcases h.2 with f|⟨g,c,d,a,j,q,k⟩
 ·exact .inl f
 ·exact .inr ⟨g,c,d,a,j,by rw[m g (by rw[a];rfl)];exact q,k⟩
theorem AL(h:w.ownsRow base e size v n xs)(a:v.ownBlock=some g):base<=g/\g<w.heap.size:=World.ownsRow.lt h g a
theorem own_below(h:w.ownsRow base e size v n xs)(a:ϣ w w'):w'.ownsRow base e size v n xs:=
 A1 h (λg c=>a.block g (AL h c).2)
theorem D7(h:w.ownsRow base e size v n xs)(k:base'<=base):w.ownsRow base' e size v n xs:=by
 refine⟨h.1,?_⟩;rcases h.2 with d|⟨g,a,c,q,f,m,j⟩
 ·exact .inl d
 ·exact .inr ⟨g,a,c,q,Nat.le_trans k f,m,j⟩
theorem Jr{a:TypeId}{s':Nat}{v':Value}{u:Nat}{y:List Value}(h:w.ownsRow base e s v n xs)(m:w.ownsRow base' a s' v' u y)(r:e≠a)(d:v.ownBlock=some g):v'.ownBlock≠some g:=λf=>by
 rcases h.2 with⟨rfl,_⟩|⟨b,A,E,rfl,_,q,_⟩
 ·cases d
 ·rcases m.2 with⟨rfl,_⟩|⟨z,D,F,rfl,_,c,_⟩
  ·cases f
  ·cases d
   cases f
   rw[q]at c;injection c with j
   injection j with _ k _
   exact r k
theorem Dk(b a j:Nat):(⟨b,a,none⟩:Addr).add j=⟨b,a+j,none⟩:=by unfold Addr.add;split<;>simp_all
theorem F5{d:Nat}{r:List Cel}(h:vl.rowAt w (some ⟨b,d,none⟩) r):∀j u,(celCells r)[j]? =some u->w.cell? ((⟨b,d,none⟩:Addr).add j)=some u:=by
 intro j u a;have k:j<(celCells r).length:=by
  rcases Nat.lt_or_ge j (celCells r).length with h|h
  ·exact h
  ·rw[getElem?_eq_none h]at a;cases a
 rw[Ed]at k;have c:j/3<r.length:=Ϥ;obtain⟨E,F,e,m,q,y⟩:=h (j/3) c
 cases e
 obtain⟨z,A,D⟩:=IA r (j/3) c;rw[Dk];have f:j=j/3 * 3\/j=j/3 * 3+1\/j=j/3 * 3+1+1:=Ϥ;rcases f with e|e|e
 ·rw[e]at a⊢;rw[z]at a;rw[<-a];exact m
 ·rw[e]at a⊢;rw[A]at a;rw[<-a];exact q
 ·rw[e]at a⊢;rw[D]at a;rw[<-a];exact y
theorem EK(r:List Cel):∀u∈celCells r,u.oneCell'=true:=by
 intro u d;unfold celCells at d;obtain⟨c,_,a⟩:=mem_flatMap.1 d;simp at a;rcases a with rfl|rfl|rfl<;>rfl
def EM.to(e:EM)(h:Hdr):EM:=⟨e.key,e.time,e.seq,h,e.met⟩
def Aw(l:List EM):List Value:=l.flatMap λe=>[.string e.key,vI e.time,vI e.seq,hdV e.row,.bool e.met]
theorem EY(l:List EM):(Aw l).length=l.length * 5:=by
 induction l with
 |nil=>rfl
 |cons c r ih=>show([_,_,_,_,_]++Aw r).length=_;rw[lAp,ih,length_cons];simp;omega
theorem Pv(l:List EM)(e:EM):Aw (l++[e])=Aw l++[.string e.key,vI e.time,vI e.seq,hdV e.row,.bool e.met]:=by
 unfold Aw;rw[flatMap_append];simp
theorem Mz(r:List EM)(i:Nat)(h:i<r.length):(Aw r)[i * 5]? =some (.string (r.getD i ϰ).key)/\(Aw r)[i * 5+1]? =some (vI (r.getD i ϰ).time)/\(Aw r)[i * 5+2]? =some (vI (r.getD i ϰ).seq)/\(Aw r)[i * 5+3]? =some (hdV (r.getD i ϰ).row)/\(Aw r)[i * 5+4]? =some (.bool (r.getD i ϰ).met):=by
 induction r generalizing i with
 |nil=>exact absurd h (Nat.not_lt_zero i)
 |cons c r ih=>
  have e:Aw (c::r)= .string c.key::vI c.time::vI c.seq::hdV c.row:: .bool c.met::Aw r:=rfl;rw[e]
  cases i with
  |zero=>exact⟨rfl,rfl,rfl,rfl,rfl⟩
  |succ i=>
   have:=ih i (by simpa using h);rw[show(i+1) * 5=i * 5+1+1+1+1+1 by omega];simpa using this
structure OR(w:World)(base:Nat)(e:EM)(x:Ent):Prop where
 key:e.key=x.key
 time:e.time=x.time
 seq:e.seq=x.seq
 met:e.met=x.met
 len:e.row.2.1=x.row.length
 row:AM w base (hdV e.row) x.row
theorem OR.er{e:EM}(h:OR w base e x):ER w e x:=⟨h.key,h.time,h.seq,h.met,h.len,by
 have a:=h.row;have c:=h.len;obtain⟨j,r,q,⟨d,m,f⟩,k⟩:=e;unfold hdV at a;dsimp only at a c⊢;rw[c]at a;exact FF a⟩
structure OE(w:World)(base:Nat)(v:Value)(es:List EM)(l:List Ent):Prop where
 low:base<=w.heap.size
 own:w.ownsRow base 166 5 v es.length (Aw es)
 len:es.length=l.length
 rows:∀i,i<l.length->OR w base (es.getD i ϰ) (l.getD i ϰ)
theorem E9(h:base<=w.heap.size):OE w base (vS none 0 0) [] []:=⟨h,World.ownsRow_nil _ _ _ _,rfl,λi a=>absurd a (Nat.not_lt_zero i)⟩
theorem OE.form{c:List EM}(h:OE w base v c l):∃d a,v=vS d c.length a:=by
 rcases h.own.2 with⟨rfl,f⟩|⟨g,a,j,rfl,_⟩
 ·exact⟨none,0,by rw[f]⟩
 ·exact⟨_,_,rfl⟩
theorem OE.ers{a:List EM}(h:OE w base v a l):ERs w a l:=⟨h.len,λi c=>(h.rows i c).er⟩
theorem OE.at{cap:Nat}{ad:Option Addr}{c:List EM}(h:OE w base (vS ad c.length cap) c l):BR w ad c:=by
 intro i f;rcases h.own.2 with⟨d,z⟩|⟨g,u,y,d,A,E,D⟩
 ·omega
 ·cases d
  have a:=World.ownsRow.cells h.own (g:=g) rfl;obtain⟨j,k,m,q,r⟩:=Mz c i f;refine⟨g,0,rfl,?_,?_,?_,?_,?_⟩
  ·have:=a _ _ j;rw[Dk]at this;exact this
  ·have:=a _ _ k;rw[Dk]at this;exact this
  ·have:=a _ _ m;rw[Dk]at this;exact this
  ·have:=a _ _ q;rw[Dk]at this;exact this
  ·have:=a _ _ r;rw[Dk]at this;exact this
theorem OE.below{c:List EM}(h:OE w base v c l)(a:ϣ w w'):OE w' base v c l:=
 ⟨Nat.le_trans h.low a.size,own_below h.own a,h.len,λi r=>by
  obtain⟨d,f,j,k,m,q⟩:=h.rows i r;exact⟨d,f,j,k,m,own_below q a⟩⟩
theorem OE.mono{c:List EM}(h:OE w base v c l)(a:base'<=base):OE w base' v c l:=
 ⟨Nat.le_trans a h.low,D7 h.own a,h.len,λi r=>by
  obtain⟨d,f,j,k,m,q⟩:=h.rows i r;exact⟨d,f,j,k,m,D7 q a⟩⟩
theorem OE.same{j:List EM}(h:OE w base v j l)(D:w.heap.size<=w'.heap.size)(k:∀g c t,w.heap[g]? =some (.cells c t (0,0))->(v.ownBlock=some g/\t=166)\/t=119->w'.heap[g]? =w.heap[g]?):OE w' base v j l:=
 ⟨Nat.le_trans h.low D,A1 h.own (λg a=>by
  rcases h.own.2 with⟨rfl,_⟩|⟨b,z,c,rfl,_,d,_⟩
  ·cases a
  ·cases a
   exact k _ _ _ d (.inl ⟨rfl,rfl⟩)),h.len,λi A=>by
  obtain⟨m,q,r,u,y,f⟩:=h.rows i A;refine⟨m,q,r,u,y,A1 f (λg a=>?_)⟩;rcases f.2 with⟨e,_⟩|⟨b,z,c,e,_,d,_⟩
  ·rw[e]at a;cases a
  ·rw[e]at a;cases a;exact k _ _ _ d (.inr rfl)⟩
theorem Lu{a:List EM}{e:EM}(h:OE w base v a l)(u:ϣ w w1)(N:OR w1 base e x)
 (J:w2.ownsRow base 166 5 (vS (some ⟨g,0,none⟩) (a.length+1) cap2) (a.length+1) (Aw a++[.string e.key,vI e.time,vI e.seq,hdV e.row,.bool e.met])) (m:(w1.alloc o).grownBy w2 v.ownBlock):
 OE w2 base (vS (some ⟨g,0,none⟩) (a.length+1) cap2) (a++[e]) (l++[x])/\Below base w w2:=by
 have c:=h.below u;have K:w1.heap.size<=w2.heap.size:=by have:=m.size;simp at this;omega
 have H:∀b,b<w1.heap.size->v.ownBlock≠some b->w2.heap[b]? =w1.heap[b]? :=λb d I=>by
  rw[m.block b ϩ (λe=>I e.symm)];exact Below.heap_alloc _ _ b d
 have z:∀{j:EM} {r:Ent},OR w1 base j r->OR w2 base j r:=λ{j r} k=>by
  obtain⟨A,D,E,F,G,f⟩:=k;refine⟨A,D,E,F,G,A1 f (λb d=>H b (AL f d).2 (λL=>?_))⟩;exact Jr c.own f ϥ L d
 refine⟨⟨Nat.le_trans c.low K,?_,by rw[lAp,lAp,h.len];rfl,λi y=>?_⟩,?_⟩
 ·rw[lAp,Pv];exact J
 ·rw[lAp]at y;by_cases q:i<l.length
  ·rw[AQ (by rw[h.len];exact q),AQ q];exact z (c.rows i q)
  ·have:i=l.length:=by simp at y;omega
   subst this;rw[AW (by rw[h.len];exact Nat.le_refl _),AW nR,h.len,Nat.sub_self];exact z N
 ·exact((u.mono h.low).alloc c.low o).grown m (by simp;have:=c.low;omega) (λb d=>(AL c.own d).1)
theorem M9(base:Nat)(t h e:TypeId)(i:TypeInfo)(size c:Nat)(ht:Tryz.prog.underlying t=some (.slice e))(a:Tryz.prog.info? e=some i)
 (v:Value) (n:Nat) (xs:List Value) (f:w.ownsRow base e size v n xs):(Builtin.append_ #[t,t] h #[v,vS none 0 c]).run Tryz.prog w= .ok v w:=by
 rcases f.2 with⟨rfl,rfl⟩|⟨g,j,k,rfl,_,_,d,_⟩
 ·simp[Builtin.append_,run_underlying ht,sizeOf,typeInfo,a,Builtin.lenOf,Builtin.firstCells]
 ·simp[Builtin.append_,run_underlying ht,sizeOf,typeInfo,a,Builtin.lenOf,Builtin.firstCells,d,storeCells]
theorem Gn{d:Array Oper}{rest:List Oper}{o:Oper}{a:Act}{Q:Exit->Act->World->Prop}(j:o.guard=none)(s x:Operand)(t:TypeId)
 (m:o.op= .call {callee:=.builtin .append,args:=#[s,x],argTypes:=#[t,t]}) (base:Nat) (e:TypeId) (i:TypeInfo) (size c:Nat) (ht:Tryz.prog.underlying t=some (.slice e)) (k:Tryz.prog.info? e=some i)
 (v:Value) (n:Nat) (xs:List Value) (u:a.eval s=v) (q:w.ownsRow base e size v n xs) (y:a.eval x=vS none 0 c)
 (h:wpList Tryz.prog d Q rest (a.put o.dst v) w):wpList Tryz.prog d Q (o::rest) a w:=by
 refine wpList_plain j λK f=>?_;have r:=M9 (w:=w) base t o.type e i size c ht k v n xs q;unfold Oper.wp;simp[execOp,m,resolve,invoke,builtin,u,y,r,Result.andThen];exact f _ _ h
theorem Wd(h:w.grownBy w' none):ϣ w w':=bR.grown h nR (λb a=>by cases a)
theorem Hc(e:EM)(x:Ent)(w:World)(h:ER w e x)(N:x.row.length<=1000000):
 Calls Tryz.prog 295 #[e.val] w λr w'=>(∃A c,r= .returned (e.to (A,x.row.length,c)).val/\AM w' w (vS A x.row.length c) x.row)/\ϣ w w':=by
 obtain⟨E,hi,ae,af,ag⟩:=info_parts Tryz.infoV;have F:Ϣ (Tryz.prog.info? 119=some E/\E.zero=some (.agg #[vI 0,vI 0,.string ⟨#[]⟩])/\E.size=3/\E.bytes=32):=⟨hi,ae,af,ag⟩;clear hi ae af ag;obtain⟨d,m,k,⟨q,n1,a⟩,f⟩:=e;have D:=h.row;have J:=h.len;dsimp only at D J;subst J;unfold EM.val EM.to hdV;dsimp only;obtain⟨r,hr⟩:=nM x.row;rw[hr]at D N⊢;clear h hr;obtain⟨n,H⟩:∃n,r.length=n:=⟨_,rfl⟩;have G:Ϣ (r.length=n):=H;have Q:((w.alloc (.cells #[.string d,vI m,vI k,vS q r.length a,.bool f] 166)).alloc (.cells #[.string ⟨#[]⟩,vI 0,vI 0,vS none 0 0,.bool false] 166)).cell? ⟨w,0,none⟩=some (.string d):=Ϩ;have R:((w.alloc (.cells #[.string d,vI m,vI k,vS q r.length a,.bool f] 166)).alloc (.cells #[.string ⟨#[]⟩,vI 0,vI 0,vS none 0 0,.bool false] 166)).cell? ⟨w,1,none⟩=some (vI m):=Ϩ;have S:((w.alloc (.cells #[.string d,vI m,vI k,vS q r.length a,.bool f] 166)).alloc (.cells #[.string ⟨#[]⟩,vI 0,vI 0,vS none 0 0,.bool false] 166)).cell? ⟨w,2,none⟩=some (vI k):=Ϩ;have L:((w.alloc (.cells #[.string d,vI m,vI k,vS q r.length a,.bool f] 166)).alloc (.cells #[.string ⟨#[]⟩,vI 0,vI 0,vS none 0 0,.bool false] 166)).cell? ⟨w,3,none⟩=some (vS q r.length a):=Ϩ;have T:((w.alloc (.cells #[.string d,vI m,vI k,vS q r.length a,.bool f] 166)).alloc (.cells #[.string ⟨#[]⟩,vI 0,vI 0,vS none 0 0,.bool false] 166)).cell? ⟨w,4,none⟩=some (.bool f):=Ϩ;have g0:((w.alloc (.cells #[.string d,vI m,vI k,vS q r.length a,.bool f] 166)).alloc (.cells #[.string ⟨#[]⟩,vI 0,vI 0,vS none 0 0,.bool false] 166)).cell? ⟨w+1,0,none⟩=some (.string ⟨#[]⟩):=Ϩ;have g1:((w.alloc (.cells #[.string d,vI m,vI k,vS q r.length a,.bool f] 166)).alloc (.cells #[.string ⟨#[]⟩,vI 0,vI 0,vS none 0 0,.bool false] 166)).cell? ⟨w+1,1,none⟩=some (vI 0):=Ϩ
 have g2:((w.alloc (.cells #[.string d,vI m,vI k,vS q r.length a,.bool f] 166)).alloc (.cells #[.string ⟨#[]⟩,vI 0,vI 0,vS none 0 0,.bool false] 166)).cell? ⟨w+1,2,none⟩=some (vI 0):=Ϩ;have g3:((w.alloc (.cells #[.string d,vI m,vI k,vS q r.length a,.bool f] 166)).alloc (.cells #[.string ⟨#[]⟩,vI 0,vI 0,vS none 0 0,.bool false] 166)).cell? ⟨w+1,3,none⟩=some (vS none 0 0):=Ϩ;have g4:((w.alloc (.cells #[.string d,vI m,vI k,vS q r.length a,.bool f] 166)).alloc (.cells #[.string ⟨#[]⟩,vI 0,vI 0,vS none 0 0,.bool false] 166)).cell? ⟨w+1,4,none⟩=some (.bool false):=Ϩ;have V:((w.alloc (.cells #[.string d,vI m,vI k,vS q r.length a,.bool f] 166)).alloc (.cells #[.string ⟨#[]⟩,vI 0,vI 0,vS none 0 0,.bool false] 166)).frozen? ⟨w,3,none⟩=false:=Ϩ;have X:((w.alloc (.cells #[.string d,vI m,vI k,vS q r.length a,.bool f] 166)).alloc (.cells #[.string ⟨#[]⟩,vI 0,vI 0,vS none 0 0,.bool false] 166)).frozen? ⟨w+1,0,none⟩=false:=Ϩ;have Y:((w.alloc (.cells #[.string d,vI m,vI k,vS q r.length a,.bool f] 166)).alloc (.cells #[.string ⟨#[]⟩,vI 0,vI 0,vS none 0 0,.bool false] 166)).frozen? ⟨w+1,1,none⟩=false:=Ϩ;have Z:((w.alloc (.cells #[.string d,vI m,vI k,vS q r.length a,.bool f] 166)).alloc (.cells #[.string ⟨#[]⟩,vI 0,vI 0,vS none 0 0,.bool false] 166)).frozen? ⟨w+1,2,none⟩=false:=Ϩ;have aa:((w.alloc (.cells #[.string d,vI m,vI k,vS q r.length a,.bool f] 166)).alloc (.cells #[.string ⟨#[]⟩,vI 0,vI 0,vS none 0 0,.bool false] 166)).frozen? ⟨w+1,3,none⟩=false:=Ϩ;have ab:((w.alloc (.cells #[.string d,vI m,vI k,vS q r.length a,.bool f] 166)).alloc (.cells #[.string ⟨#[]⟩,vI 0,vI 0,vS none 0 0,.bool false] 166)).frozen? ⟨w+1,4,none⟩=false:=Ϩ;have I:ϣ w ((w.alloc (.cells #[.string d,vI m,vI k,vS q r.length a,.bool f] 166)).alloc (.cells #[.string ⟨#[]⟩,vI 0,vI 0,vS none 0 0,.bool false] 166)):=by
  repeat (first|exact bR|(refine Below.alloc ?_ ϫ _))
 have ak:((w.alloc (.cells #[.string d,vI m,vI k,vS q r.length a,.bool f] 166)).alloc (.cells #[.string ⟨#[]⟩,vI 0,vI 0,vS none 0 0,.bool false] 166)).heap.size=w.heap.size+1+1:=Ϧ
 cases q with
 |none=>
  have h0:r=[]:=by
   cases r with
   |nil=>rfl
   |cons c r=>
    obtain⟨_,_,e,_⟩:=D 0 Ϧ
    cases e
  subst h0;simp only[length_nil]at L⊢;clear D N H G;go_enter func295,ntmps295;go_wp2_with (at_builtin;refine Gn rfl (.const (vS none 0 0)) (.tmp 4) 80 rfl w.heap.size 119 E 3 a underlying80 F.o.1 _ _ _ rfl (World.ownsRow_nil _ _ _ _) rfl ?_);exact bodyPost_ret (v:=.agg #[.string d,vI m,vI k,vS none 0 0,.bool f]) (by simp[results,results295,go_sem]) rfl ⟨⟨none,0,rfl,World.ownsRow_nil _ _ _ _⟩,by
   repeat (first|exact bR|(refine Below.alloc ?_ ϫ _))⟩
 |some A=>
  have ah:Ϣ (∀j u,(celCells r)[j]? =some u->((w.alloc (.cells #[.string d,vI m,vI k,vS (some A) n a,.bool f] 166)).alloc (.cells #[.string ⟨#[]⟩,vI 0,vI 0,vS none 0 0,.bool false] 166)).cell? (A.add j)=some u):=by
   intro j u O;rw[H]at I;have J:0<r.length:=by
    rcases Nat.eq_zero_or_pos r.length with h|h
    ·rw[length_eq_zero_iff.1 h]at O;cases O
    ·exact h
   obtain⟨b,o,e,_⟩:=D 0 J
   cases e
   exact cLz I (F5 D j u O)
  rw[H]at N Q R S L T g0 g1 g2 g3 g4 V X Y Z aa ab I ak⊢;clear D H;go_enter func295,ntmps295;go_wp2_with (at_builtin;refine wpList_append_own _ rfl (.const (vS none 0 0)) (.tmp 4) 80 rfl (w.heap.size+1+1) 119 E (.agg #[vI 0,vI 0,.string ⟨#[]⟩]) 3 32 underlying80 F.o.1 F.o.2.1 F.o.2.2.1 F.o.2.2.2 rfl ϥ _ _ _ rfl (World.ownsRow_nil _ _ _ _) A n a (celCells r) rfl (by rw[Ed,G.o]) ah.o (EK r) Ϯ Ϥ Ϧ ?_;intro v2 z K aj aq;have y:Below ((w.alloc (.cells #[.string d,vI m,vI k,vS (some A) n a,.bool f] 166)).alloc (.cells #[.string ⟨#[]⟩,vI 0,vI 0,vS none 0 0,.bool false] 166)).heap.size ((w.alloc (.cells #[.string d,vI m,vI k,vS (some A) n a,.bool f] 166)).alloc (.cells #[.string ⟨#[]⟩,vI 0,vI 0,vS none 0 0,.bool false] 166)) z:=Wd aj;have y0:=cLz y Q;have y1:=cLz y R;have y2:=cLz y S;have y3:=cLz y L;have y4:=cLz y T;have z0:=cLz y g0;have z1:=cLz y g1;have z2:=cLz y g2;have z3:=cLz y g3;have z4:=cLz y g4;rw[Nat.zero_add,nil_append]at K;obtain⟨P,U,ac⟩:=Jl (show AM z _ v2 r from(by unfold AM;rw[G.o];exact K));rw[G.o]at ac;subst ac;have h0:z.frozen? ⟨w,3,none⟩=false:=(by rw[y.frozen (p:=⟨w,3,none⟩) Ϫ];exact V);have h1:z.frozen? ⟨w+1,0,none⟩=false:=(by rw[y.frozen (p:=⟨w+1,0,none⟩) Ϫ];exact X);have al:z.frozen? ⟨w+1,1,none⟩=false:=(by rw[y.frozen (p:=⟨w+1,1,none⟩) Ϫ];exact Y);have am:z.frozen? ⟨w+1,2,none⟩=false:=(by rw[y.frozen (p:=⟨w+1,2,none⟩) Ϫ];exact Z);have an:z.frozen? ⟨w+1,3,none⟩=false:=(by rw[y.frozen (p:=⟨w+1,3,none⟩) Ϫ];exact aa);have ao:z.frozen? ⟨w+1,4,none⟩=false:=(by rw[y.frozen (p:=⟨w+1,4,none⟩) Ϫ];exact ab));have ai:ϣ w z:=bT I y;refine bodyPost_ret (v:=.agg #[.string d,vI m,vI k,vS P n U,.bool f]) (by simp[results,results295,go_sem,y0,y1,y2,y3,y4,z0,z1,z2,z3,z4]) rfl ⟨⟨P,U,rfl,?_⟩,by
   repeat (first|exact ai|(refine Below.setCell ?_ Ϫ _))⟩
  unfold AM;rw[G.o];refine D7 (A1 K (λg hg=>?_)) Ϥ;have ap:=(AL K hg).1
  repeat rw[heap_setCell_other _ _ _ _ Ϫ]
theorem Er(w:World)(a b c d e:Value)(t:TypeId):∀j u,[a,b,c,d,e][j]? =some u->(w.alloc (.cells #[a,b,c,d,e] t)).cell? ((⟨w,0,none⟩:Addr).add j)=some u:=by
 intro j u f;rw[Dk]
 match j,f with
 |0,f=>simp at f;subst f;simp[go_sem]
 |1,f=>simp at f;subst f;simp[go_sem]
 |2,f=>simp at f;subst f;simp[go_sem]
 |3,f=>simp at f;subst f;simp[go_sem]
 |4,f=>simp at f;subst f;simp[go_sem]
 |(n+5),f=>simp at f
theorem M0{P:Ent->Bool}{k:Nat}(h:k<l.length):(l.take (k+1)).filter P=(l.take k).filter P++(if P (l.getD k ϰ)=true then [l.getD k ϰ]else []):=by
 rw[take_succ_eq_append_getElem h,filter_append];have e:l.getD k ϰ=l[k]:=by rw[gDe,gEe h];rfl
 rw[e]
 congr 1
 simp only[filter_cons,filter_nil]
theorem We(m:FuncId)(eg:∀af w,(callFunc m af).run Tryz.prog w= .ok (.enter m af) w)(O:Array Value)(P:Ent->Bool)(a:Option Addr)(cap:Nat)(d:List EM)(l:List Ent)(w:World)(hl:l.length<=100000)(ha:BR w a d)(hr:ERs w d l)(aj:∀x∈l,x.row.length<=1000000)
 (H:∀i w1,i<l.length->ϣ w w1->Calls Tryz.prog m (#[(d.getD i ϰ).val]++O) w1 λe w'=>e= .returned (.bool (P (l.getD i ϰ)))/\ϣ w1 w'):
 Calls Tryz.prog 281 #[vS a l.length cap,.func (.func m) #[] O] w λe w'=>(∃v f,e= .returned v/\OE w' w v f (l.filter P))/\ϣ w w':=by
 obtain⟨K,ag,am,an,ao⟩:=info_parts Ue;have L:Ϣ (Tryz.prog.info? 166=some K/\K.zero=some (.agg #[.string ⟨#[]⟩,vI 0,vI 0,vS none 0 0,.bool false])/\K.size=5/\K.bytes=64):=⟨ag,am,an,ao⟩;clear ag am an ao;have HH:Ϣ (∀i w1,i<l.length->ϣ w w1->CT m (#[(d.getD i ϰ).val]++O) w1 λe w'=>e= .returned (.bool (P (l.getD i ϰ)))/\ϣ w1 w'):=H;have N:Ϣ (BR w a d/\ERs w d l/\∀x∈l,x.row.length<=1000000):=⟨ha,hr,aj⟩;clear H ha hr aj;obtain⟨n,hn⟩:∃n,l.length=n:=⟨_,rfl⟩;have HN:Ϣ (l.length=n):=hn;rw[hn]at hl⊢;clear hn;go_enter func281,ntmps281;go_wp2
 go_loopw [5,10] (λx i wr=> ∃(k:Nat) (f:List EM),k<=n/\i=vI k/\OE wr w x f ((l.take k).filter P)/\ϣ w wr) (λ_ i _=>n - (intOf i).toNat)
 case atStart=>exact⟨0,[],Nat.zero_le _,rfl,E9 nR,bR⟩
 case round=>
  obtain⟨k,f,hk,rfl,ah,y⟩:=hrel;have J:Ϣ (OE wr w u5 f ((l.take k).filter P)):=ah;clear ah;by_cases aw:k<n
  ·have F:k<l.length:=by rw[HN.o];exact aw
   obtain⟨b,o,e,x1,x2,x3,x4,x5⟩:=N.o.1 k (by rw[N.o.2.1.1];exact F);subst e;obtain⟨q1,q2,q3,q4,q5⟩:=lk5 y x1 x2 x3 x4 x5;clear x1 x2 x3 x4 x5;have i1:=nn0 k;have i2:(k:Int)<(n:Int):=Ϥ;have j:Ϣ (∀w1,ϣ wr w1->CT m (#[(d.getD k ϰ).val]++O) w1 λe w'=>e= .returned (.bool (P (l.getD k ϰ)))/\ϣ w1 w'):=λw1 Z=>HH.o k w1 F (bT y Z);have ac:ER w (d.getD k ϰ) (l.getD k ϰ):=N.o.2.1.2 k F;have G:(l.getD k ϰ).row.length<=1000000:=N.o.2.2 _ (by rw[gDe,gEe F];exact getElem_mem F);have D:Ϣ (∀w1,ϣ wr w1->CT 295 #[(d.getD k ϰ).val] w1 λr w'=>(∃ad c,r= .returned ((d.getD k ϰ).to (ad,(l.getD k ϰ).row.length,c)).val/\AM w' w1 (vS ad (l.getD k ϰ).row.length c) (l.getD k ϰ).row)/\ϣ w1 w'):=λw1 Z=>Hc _ _ w1 (ac.below (bT y Z)) G;have I:Ϣ ((l.take (k+1)).filter P=(l.take k).filter P++(if P (l.getD k ϰ)=true then [l.getD k ϰ]else [])):=M0 F;have A:Ϣ (ER w (d.getD k ϰ) (l.getD k ϰ)):=ac;have au:f.length<=100000:=by
    have h1:=J.o.len;have h2:=length_filter_le P (l.take k);rw[length_take]at h2;omega
   obtain⟨Q,al⟩:=nM (l.getD k ϰ);rw[al]at j D I A;obtain⟨⟨T,Y,X,⟨r1,r2,r3⟩,U⟩,hz⟩:∃z,d.getD k ϰ=z:=⟨_,rfl⟩;rw[hz]at q1 q2 q3 q4 q5 j D A;unfold EM.val EM.to hdV at D;unfold EM.val hdV at j;unfold hdV at q4;dsimp only at q1 q2 q3 q4 q5 j D;clear hz al ac G;have ak:=y.size;obtain⟨rl,G⟩:=nM Q.row.length;have aq:Ϣ (Q.row.length=rl):=G;rw[G]at D;clear G
   cases hp:P Q with
   |false=>
    rw[hp]at j I;go_wp2_with (go_at_fn m;refine(j.o _ ϯ).mono ?_;rintro e w1 ⟨rfl,q⟩;have E:ϣ wr w1:=ϯ.trans (q.mono Ϧ));go_roundw;exact⟨k+1,f,Ϥ,by go_num,by rw[I.o];simpa using J.o.below E,y.trans (E.mono ak)⟩;simp[intOf];omega
   |true=>
    rw[hp]at j I;obtain⟨V,ab⟩:=nM f.length;have R:Ϣ (f.length=V):=ab;rw[ab]at au;clear ab;go_wp2_with (first
     |(go_at_fn m;refine(j.o _ ϯ).mono ?_;rintro e w1 ⟨rfl,q⟩;have E:ϣ wr w1:=ϯ.trans (q.mono Ϧ);have y1:w1.cell? ⟨wr.heap.size,0,none⟩=some (.string T):=cLz q Ϩ;have y2:w1.cell? ⟨wr.heap.size,1,none⟩=some (vI Y):=cLz q Ϩ;have y3:w1.cell? ⟨wr.heap.size,2,none⟩=some (vI X):=cLz q Ϩ;have y4:w1.cell? ⟨wr.heap.size,3,none⟩=some (vS r1 r2 r3):=cLz q Ϩ;have y5:w1.cell? ⟨wr.heap.size,4,none⟩=some (.bool U):=cLz q Ϩ)
     |(go_at_call 295;refine(D.o _ E).mono ?_;rintro e w2 ⟨⟨ae,c2,rfl,ax⟩,ar⟩;have aa:ϣ wr w2:=bT E ar;have ap:Ϣ (w2.ownsRow w.heap.size 166 5 u5 V (Aw f)):=(by have h:=own_below J.o.own aa;rw[R.o]at h;exact h);have a1:w.heap.size<=w2.heap.size:=Nat.le_trans ak aa.size)
     |(at_builtin;refine wpList_append_own _ rfl (.tmp 17) (.tmp 20) 33 rfl w.heap.size 166 K (.agg #[.string ⟨#[]⟩,vI 0,vI 0,vS none 0 0,.bool false]) 5 64 underlying33 L.o.1 L.o.2.1 L.o.2.2.1 L.o.2.2.2 rfl ϥ _ _ _ rfl (World.ownsRow.alloc ap.o _) ⟨w2.heap.size,0,none⟩ 1 1 [.string T,vI Y,vI X,vS ae rl c2,.bool U] rfl rfl (Er _ _ _ _ _ _ _) (by intro u hu;simp at hu;rcases hu with rfl|rfl|rfl|rfl|rfl<;>rfl) Ϯ Ϥ ϩ ?_;intro v3 w3 ai av a0))
    obtain⟨g3,c3,ay⟩:∃g c,v3=vS (some ⟨g,0,none⟩) (V+1) c:=by
     rcases ai.2 with⟨_,h0⟩|⟨g,cap,az,rfl,_⟩
     ·exact absurd h0 Ϥ
     ·exact⟨_,_,rfl⟩
    subst ay;have S:=Lu (e:=⟨T,Y,X,(ae,rl,c2),U⟩) (x:=Q) (g:=g3) (cap2:=c3) J.o aa ⟨A.o.key,A.o.time,A.o.seq,A.o.met,aq.o.symm,by unfold hdV;dsimp only;exact D7 ax (by have:=E.size;omega)⟩ (by rw[R.o];exact ai) av;rw[R.o]at S;go_roundw;exact⟨k+1,_,Ϥ,by go_num,by rw[I.o];simpa using S.1,y.trans S.2⟩;simp[intOf];omega
  ·have HT:Ϣ (l.take k=l):=take_of_length_le (by rw[HN.o];omega);go_wp2;go_ret;exact⟨⟨_,f,rfl,by have:=J.o;rw[HT.o]at this;exact this⟩,y⟩
def Ah(w:World)(b:Nat)(t:TypeId):Prop:=∃cur f,w.heap[b]? =some (.cells cur t f)
theorem Aq(h:Ah w b t)(a:w'.heap[b]? =w.heap[b]?):Ah w' b t:=by
 obtain⟨c,f,h⟩:=h;exact⟨c,f,a.trans h⟩
theorem AH(h:Ah w b t):b<w.heap.size:=by
 obtain⟨c,f,h⟩:=h;exact(Array.getElem?_eq_some_iff.1 h).1
theorem Ak(h:Ah w b t)(a:ϣ w w'):Ah w' b t:=Aq h (a.block b (AH h))
theorem tyAt_apart{d:Nat}{j:TypeId}(h:Ah w b t)(a:Ah w d j)(ht:t≠j):b≠d:=by
 rintro rfl;obtain⟨c,f,h⟩:=h;obtain⟨m,q,a⟩:=a;rw[h]at a;injection a with e
 injection e with _ k _
 exact ht k
theorem Ao(h:Ah w b t)(p:Addr)(v:Value):Ah (w.setCell p v) b t:=by
 obtain⟨c,f,h⟩:=h;by_cases e:p.block=b
 ·subst e;exact⟨if p.spot.isSome=true then c else c.setIfInBounds p.off v,f,by simp[World.setCell,Array.getElem?_modify,h]⟩
 ·exact⟨c,f,(heap_setCell_other w p b v (λh=>e h.symm)).trans h⟩
theorem A9(h:w.ownsRow base e s v n xs)(a:v.ownBlock=some g):Ah w g e:=by
 rcases h.2 with⟨rfl,_⟩|⟨b,d,f,rfl,_,c,_⟩
 ·cases a
 ·cases a;exact⟨_,_,c⟩
theorem OE.other{a:List EM}(h:OE w base v a l)(f:w.heap.size<=w'.heap.size)(c:∀g,Ah w g 166\/Ah w g 119->w'.heap[g]? =w.heap[g]?):OE w' base v a l:=
 h.same f (λg k t d j=>by
  rcases j with⟨_,rfl⟩|rfl
  ·exact c g (.inl ⟨_,_,d⟩)
  ·exact c g (.inr ⟨_,_,d⟩))
def apB(a b:Value):Prop:=∀g,a.ownBlock=some g->b.ownBlock≠some g
structure OB(w:World)(base:Nat)(x:BX)(b:Buf):Prop where
 low:base<=w.heap.size
 mem:OE w base (hdV x.m.1) x.m.2 b.mem
 hds:w.ownsRow base 33 1 (vS x.ra x.rs.length x.rc) x.rs.length (x.rs.map λp=>hdV p.1)
 rlen:x.rs.length=b.runs.length
 runs:∀i,i<b.runs.length->OE w base (hdV (x.rs.getD i ϰ).1) (x.rs.getD i ϰ).2 (b.runs.getD i ϰ)
 two:((x.m::x.rs).map λp=>hdV p.1).Pairwise apB
theorem OB.below{x:BX}{b:Buf}(h:OB w base x b)(a:ϣ w w'):OB w' base x b:=
 ⟨Nat.le_trans h.low a.size,h.mem.below a,own_below h.hds a,h.rlen,λi c=>(h.runs i c).below a,h.two⟩
def BX.more(x:BX)(g cap:Nat)(p:Part):BX:=⟨some ⟨g,0,none⟩,cap,x.m,x.rs++[p]⟩
def Buf.more(b:Buf)(l:List Ent):Buf:=⟨b.lim,b.mem,b.runs++[l]⟩
theorem Aeo{x:BX}{b:Buf}(h:OB w base x b)(A:ϣ w w1)(y:OE w1 w (hdV p.1) p.2 l)
 (G:w2.ownsRow base 33 1 (vS (some ⟨g,0,none⟩) (x.rs.length+1) cap2) (x.rs.length+1) ((x.rs.map λp=>hdV p.1)++[hdV p.1])) (f:w1.heap.size<=w2.heap.size)
 (k:∀b,Ah w1 b 166\/Ah w1 b 119->w2.heap[b]? =w1.heap[b]?):OB w2 base (x.more g cap2 p) (b.more l):=by
 have j:=h.below A;refine⟨Nat.le_trans j.low f,j.mem.other f k,?_,?_,λi d=>?_,?_⟩
 ·unfold BX.more;dsimp only;rw[lAp,map_append];exact G
 ·unfold BX.more Buf.more;dsimp only;rw[lAp,lAp,h.rlen];rfl
 ·unfold BX.more Buf.more at *;dsimp only at *;rw[lAp]at d;by_cases m:i<b.runs.length
  ·rw[AQ (by rw[h.rlen];exact m),AQ m];exact(j.runs i m).other f k
  ·have:i=b.runs.length:=by simp at d;omega
   subst this;rw[AW (by rw[h.rlen];exact Nat.le_refl _),AW nR,h.rlen,Nat.sub_self];exact(y.other f k).mono h.low
 ·unfold BX.more;dsimp only;rw[show(x.m::(x.rs++[p]))=(x.m::x.rs)++[p]from rfl,map_append];refine pairwise_append.2 ⟨h.two,Ϧ,λa ha c D g u=>?_⟩;have E:c=hdV p.1:=by simpa using D
  subst E;intro F;have H:=(AL y.own F).1;obtain⟨q,r,rfl⟩:=mem_map.1 ha;rcases mem_cons.1 r with rfl|r
  ·have:=(AL h.mem.own u).2;omega
  ·obtain⟨i,d,rfl⟩:=getElem_of_mem r;have z:=h.runs i (by rw[<-h.rlen];exact d);have e:x.rs.getD i ϰ=x.rs[i]:=by rw[gDe,gEe d];rfl
   rw[e]at z;have:=(AL z.own u).2;omega
structure KSt(W:World)(C NB base:Nat)(x:BX)(b:Buf):Prop where
 ob:OB W base x b
 c0:W.cell? ⟨NB,0,none⟩=some (vI b.lim)
 c1:W.cell? ⟨NB,1,none⟩=some (hdV x.m.1)
 c2:W.cell? ⟨NB,2,none⟩=some (vS x.ra x.rs.length x.rc)
 f2:W.frozen? ⟨NB,2,none⟩=false
 ty:Ah W NB 36
 r0:W.cell? ⟨C,0,none⟩=some (vI 0)
 r1:W.cell? ⟨C,1,none⟩=some (vS none 0 0)
 r2:W.cell? ⟨C,2,none⟩=some (vS none 0 0)
 g0:W.frozen? ⟨C,0,none⟩=false
 g1:W.frozen? ⟨C,1,none⟩=false
 g2:W.frozen? ⟨C,2,none⟩=false
 rt:Ah W C 36
 ne:C<NB
 up:base<=C
theorem KSt.below{W':World}{x:BX}{b:Buf}(h:KSt W C NB base x b)(a:ϣ W W'):KSt W' C NB base x b:=by
 have d:=AH h.ty;have c:=AH h.rt;exact⟨h.ob.below a,cLz a h.c0,cLz a h.c1,cLz a h.c2,(a.frozen (p:=⟨NB,2,none⟩) d).trans h.f2,Ak h.ty a,cLz a h.r0,cLz a h.r1,cLz a h.r2,(a.frozen (p:=⟨C,0,none⟩) c).trans h.g0,(a.frozen (p:=⟨C,1,none⟩) c).trans h.g1,(a.frozen (p:=⟨C,2,none⟩) c).trans h.g2,Ak h.rt a,h.ne,h.up⟩
theorem Bc{p:Addr}(h:w'.heap[p.block]? =w.heap[p.block]?):w'.frozen? p=w.frozen? p:=by
 unfold World.frozen?;rw[h]
theorem AbY{r m:World}{x:BX}{b:Buf}(h:KSt W C NB base x b)(z:ϣ W r)(J:OE r W (hdV p.1) p.2 l)
 (D:m.ownsRow base 33 1 (vS (some ⟨g,0,none⟩) (x.rs.length+1) cap2) (x.rs.length+1) ((x.rs.map λp=>hdV p.1)++[hdV p.1])) (A:(r.alloc o).grownBy m (Value.slice x.ra x.rs.length x.rc).ownBlock):
 KSt (m.setCell ⟨NB,2,none⟩ (vS (some ⟨g,0,none⟩) (x.rs.length+1) cap2)) C NB base (x.more g cap2 p) (b.more l)/\Below base W (m.setCell ⟨NB,2,none⟩ (vS (some ⟨g,0,none⟩) (x.rs.length+1) cap2)):=by
 have d:=h.below z;have S:r.heap.size<=m.heap.size:=by have:=A.size;simp at this;omega
 have y:∀c t,Ah r c t->t≠33->m.heap[c]? =r.heap[c]? :=λc t f K=>by
  have I:=AH f;rw[A.block c ϩ (λe=>?_)]
  ·exact Below.heap_alloc _ _ c I
  ·exact tyAt_apart f (A9 d.ob.hds e.symm) K rfl
 have u:=y NB _ d.ty ϥ;have q:=y C _ d.rt ϥ;have P:=(cOb (a:=⟨NB,0,none⟩) u).trans d.c0;have Q:=(cOb (a:=⟨NB,1,none⟩) u).trans d.c1;have E:=(cOb (a:=⟨NB,2,none⟩) u).trans d.c2;have L:=(cOb (a:=⟨C,0,none⟩) q).trans d.r0;have N:=(cOb (a:=⟨C,1,none⟩) q).trans d.r1;have O:=(cOb (a:=⟨C,2,none⟩) q).trans d.r2;have R:=h.ne;have j:∀c v,c≠NB->(m.setCell ⟨NB,2,none⟩ v).heap[c]? =m.heap[c]? :=λc v f=>heap_setCell_other _ _ _ _ f;refine⟨⟨Aeo h.ob z J (A1 D (λk G=>j k _ ?_)) (by simp[World.setCell];omega) (λc f=>?_),?_,?_,?_,?_,?_,?_,?_,?_,?_,?_,?_,?_,h.ne,h.up⟩,?_⟩
 ·exact λe=>tyAt_apart (A9 D G) (Aq d.ty u) ϥ e
 ·rcases f with f|f
  ·exact(j c _ (λe=>tyAt_apart f d.ty ϥ e)).trans (y c _ f ϥ)
  ·exact(j c _ (λe=>tyAt_apart f d.ty ϥ e)).trans (y c _ f ϥ)
 ·show _=some (Value.int .i64 b.lim);go_simp
 ·show _=some (hdV x.m.1);go_simp
 ·unfold BX.more;dsimp only;rw[lAp];exact World.cell?_setCell_same _ _ _ E
 ·have:=(Bc (p:=⟨NB,2,none⟩) u).trans d.f2;go_simp
 ·exact Ao (Aq d.ty u) _ _
 ·rw[cOb (a:=⟨C,0,none⟩) (j C _ Ϥ)];exact L
 ·rw[cOb (a:=⟨C,1,none⟩) (j C _ Ϥ)];exact N
 ·rw[cOb (a:=⟨C,2,none⟩) (j C _ Ϥ)];exact O
 ·rw[Bc (p:=⟨C,0,none⟩) (j C _ Ϥ),Bc (p:=⟨C,0,none⟩) q];exact d.g0
 ·rw[Bc (p:=⟨C,1,none⟩) (j C _ Ϥ),Bc (p:=⟨C,1,none⟩) q];exact d.g1
 ·rw[Bc (p:=⟨C,2,none⟩) (j C _ Ϥ),Bc (p:=⟨C,2,none⟩) q];exact d.g2
 ·exact Aq (Aq d.rt q) (j C _ Ϥ)
 ·have H:=h.ob.low;have T:=h.up;have F:Below base W m:=((z.mono H).alloc d.ob.low o).grown A (by simp;have:=d.ob.low;omega) (λc f=>(AL d.ob.hds f).1);exact F.setCell Ϫ _
end bf
end Go.Proofs.YtfkihidbnfkbaaaGreatDoor
