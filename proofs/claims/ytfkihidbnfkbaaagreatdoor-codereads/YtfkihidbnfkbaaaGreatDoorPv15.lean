import Derived.Test.YtfkihidbnfkbaaaGreatDoorPv8
set_option linter.all false
set_option maxHeartbeats 8000000
open Inhabited renaming default->ϰ
open List renaming length->ϲ
namespace Go.Proofs.YtfkihidbnfkbaaaGreatDoor
open ChangeShapes WideShapes ChangeAt RowKit Shelf List Proofs.Tryz
namespace bf
open vl
attribute [local go_sem] Oper.semAt_some
variable {B M b i n o : Nat} {W W' : World} {v : Value} {l : List Ent} {ps : List Plc}
def AJ(x:Ent):Plc:=(x.key,x.time,x.seq)
def M3{a b:Ent}:AJ a=AJ b↔Er a b:=by
 unfold AJ Er;simp[bG]
def hasB(l:List Ent)(p:Plc):Bool:=l.any λx=>decide (AJ x=p)
def GK:Nat->Obj->Prop:=λ_ _=>True
def Aj:names GK W b:=λ_ _=>trivial
def C8(h:Below n W W')(c:W.heap.size<=n):Aw GK W W':=λb o a _ _=>(h.block b (by have:=(GS.1 a).1;omega)).trans a
theorem Ia{w V:World}{b:Buf}{x:BX}(h:bufAt w b x)(u:Ϣ w V)(B:Nat)(d:Nat->Obj->Prop)(h0:V.cell? ⟨B,0,none⟩=some (vI b.lim))(h1:V.cell? ⟨B,1,none⟩=some (hdV x.m.1))(k:V.cell? ⟨B,2,none⟩=some (vS x.ra (ϲ x.rs) x.rc))
 (r:names d V B) (j:∀b,b<w.heap.size->names d V b)
 (m:∀b c f,V.heap.size<=b->d b (.cells c 36 f)) (q:∀b c f,V.heap.size<=b->d b (.cells c 247 f)):
 Acy prog 276 #[.pointer (some ⟨B,0,none⟩)] ((ems (x.m::x.rs)).map λe=>#[e.val]) (Aw d) V:=
 Abd B b.lim x.ra x.rc x.m x.rs d V (AfV (Ao h u) h0 h1 k) r (λa ha A=>j _ (Af9 h ha A)) (λp z a h0 ha=>by
  obtain⟨D,o,e,y,_⟩:=h.ems p z 0 h0;rw[ha]at e;cases e;exact j _ (bLt _ _ y)) m q
def BW(h:Ϣ W W'):KeepsFrom B W W':=⟨h.size,λk o _ a _=>(h.block k (GS.1 a).1).trans a⟩
def CQ{D:Nat}{x:Obj}(h:W.cell? ⟨b,o,none⟩=some v)(c:W.heap[D]? =some x)(d:x.isCells=false)(a:Obj):(W.putObj D a).cell? ⟨b,o,none⟩=some v:=
 Do h (grownBy_putObj' W D a) (λr e=>by cases e;exact⟨x,c,d⟩)
theorem AeU(b:Buf)(x:BX)(p:Plc)(w:World)(h:bufAt w b x):
 Calls prog 350 #[Bh b x,BM p] w λe w'=>e= .returned (.bool (hasB (Ab b) p))/\Ϣ w w':=by
 have HB:ϡ (bufAt w b x):=h;have HE:=EC h;have aa:ϡ (ERs w (ems (x.m::x.rs)) (Ab b)):=HE;obtain⟨L,hL⟩:=nM (Ab b);rw[hL]at aa⊢;clear hL h HE;obtain⟨R,hR⟩:=nM (hasB L p);have ai:ϡ (hasB L p=R):=hR;rw[hR];clear hR;obtain⟨ra,rc,⟨⟨m1,m2,m3⟩,ml⟩,rs⟩:=x;obtain⟨ab,av,aw⟩:=b;obtain⟨G,J,ps⟩:=p;unfold Bh hdV BM;dsimp only at aa⊢;obtain⟨n,hn⟩:∃n,ϲ rs=n:=⟨_,rfl⟩;have HN:ϡ (ϲ rs=n):=hn;rw[hn];clear hn;refine(DM (n:=0)).1 ?_;refine bH func350 rfl trivial ?_ rfl;simp only[ntmps350,St,DP,NS,Nat.reduceAdd,Nat.reduceSub,aU,aV,aW,aX,JV,KY]
 gi_wp2_with (refine⟨trivial,rfl,?_⟩;gi_at_call 237;refine(DM.2 (Jw _ _ _ rfl rfl rfl _)).mono ?_;rintro e w' ⟨rfl,rfl⟩)
 generalize A:((((w.alloc (.cells #[vI ab,vS m1 m2 m3,vS ra n rc] 36)).alloc (.cells #[.string G,vI J,vI ps] 340)).alloc (.cells #[.bool false] 4)).alloc (.cells #[vI ab,vS m1 m2 m3,vS ra n rc] 36))=V at *;have V0:V.cell? ⟨w+1,0,none⟩=some (.string G):=by subst A;go_simp
 have V1:V.cell? ⟨w+1,1,none⟩=some (vI J):=by subst A;go_simp
 have V2:V.cell? ⟨w+1,2,none⟩=some (vI ps):=by subst A;go_simp
 have V3:V.cell? ⟨w+1+1,0,none⟩=some (.bool false):=by subst A;go_simp
 have V4:V.frozen? ⟨w+1+1,0,none⟩=false:=by subst A;go_simp
 have V5:V.cell? ⟨w+1+1+1,0,none⟩=some (vI ab):=by subst A;go_simp
 have V6:V.cell? ⟨w+1+1+1,1,none⟩=some (vS m1 m2 m3):=by subst A;go_simp
 have V7:V.cell? ⟨w+1+1+1,2,none⟩=some (vS ra n rc):=by subst A;go_simp
 have V8:Ϣ w V:=by
  subst A
  repeat (first|exact bR|(refine DH ?_ Ϫ _))
 have V9:V.heap.size=w.heap.size+1+1+1+1:=by subst A;simp
 clear A;have ag:=Ia HB.o V8 (w.heap.size+1+1+1) GK V5 V6 (by rw[HN.o];exact V7) Aj (λ_ _=>Aj) (λ_ _ _ _=>trivial) (λ_ _ _ _=>trivial);dsimp only at ag;obtain⟨E,H⟩:=nM (ems ((((m1,m2,m3):Hdr),ml)::rs));rw[H]at ag aa;clear H;refine DF (gf:=276) (lb:=#[.pointer (some ⟨w+1+1+1,0,none⟩)]) rfl (IB func276 Ϧ rfl) ag bR (λx O=>by obtain⟨p,_,rfl⟩:=DS.1 O;rfl) (λh k=>Aw.trans h k) (λW l o o' _ h ho=>Aw.put W l o o' h ho)
  (λi X=>(∀j,j<i->AJ (L.getD j ϰ)≠(G,J,ps))/\Aw GK V X/\X.frozen? ⟨w+1+1,0,none⟩=false/\Ϣ w X) (λc X=>c= .ret/\true=R/\X.cell? ⟨w+1+1,0,none⟩=some (.bool true)/\Ϣ w X)
  (λi X X' ak q f m=>⟨q.1,q.2.1.grown f (λr e=>(m r e).2),(aY (q.2.1.cell Aj V3) f (λr e=>(m r e).2)).trans q.2.2.1,Dy q.2.2.2 nR ϣ f m⟩)
  (λc X X' ak q f m=>⟨q.1,q.2.1,Do q.2.2.1 f (λr e=>(m r e).2),Dy q.2.2.2 nR ϣ f m⟩)
  ⟨λj I=>absurd I (CA j),Aw.refl _ _,V4,V8⟩
  (λi a' X=> ∃B,a'={tmps:=#[.agg #[vI ab,vS m1 m2 m3,vS ra n rc],.agg #[.string G,vI J,vI ps],.pointer (some ⟨w,0,none⟩),.pointer (some ⟨w+1,0,none⟩),.pointer (some ⟨w+1+1,0,none⟩),.pointer (some ⟨B,0,none⟩),.agg #[vI ab,vS m1 m2 m3,vS ra n rc],.func (.func 276) #[] #[.pointer (some ⟨w+1+1+1,0,none⟩)],(E.getD i ϰ).val,undef,undef,undef,undef],defers:=[]}/\X.cell? ⟨B,0,none⟩=some (.string (E.getD i ϰ).key)/\X.cell? ⟨B,1,none⟩=some (vI (E.getD i ϰ).time)/\X.cell? ⟨B,2,none⟩=some (vI (E.getD i ϰ).seq)/\X.cell? ⟨B,3,none⟩=some (hdV (E.getD i ϰ).row)/\X.cell? ⟨B,4,none⟩=some (.bool (E.getD i ϰ).met))
  (λi a' u X X' ak q f m=>by
   obtain⟨B,h1,h2,h3,h4,h5,h6⟩:=q;exact⟨B,h1,Do h2 f (λr e=>(m r e).2),Do h3 f (λr e=>(m r e).2),Do h4 f (λr e=>(m r e).2),Do h5 f (λr e=>(m r e).2),Do h6 f (λr e=>(m r e).2)⟩) ?assign ?body ?done ?stop
 case assign=>
  intro l' k x X K O hi S;obtain⟨hk,aj⟩:=JT.1 O;rw[lMp]at hk;rw[aP]at aj;subst aj;have hd:E.getD k ϰ=E[k]:=by rw[gDe,gEe hk];rfl
  have N:=S;rw[hd]at N;clear S hd O;obtain⟨⟨Q,Z,es,⟨r1,r2,r3⟩,em⟩,hz⟩:∃z,E[k]=z:=⟨_,rfl⟩;rw[hz]at N⊢;unfold EM.val hdV at N⊢;dsimp only at N⊢;obtain⟨T,y,j3,F⟩:=hi
  gi_wp2
  have lX:w.heap.size+1+1<X.heap.size:=bLt _ _ (y.cell Aj V3);exact N _ _ ((bQ _ _).from _) (Aw.alloc _ _) ⟨T,y.trans (Aw.alloc _ _),ϧ,F.alloc F.size _⟩ ⟨X.heap.size,rfl,ϧ,ϧ,ϧ,ϧ,ϧ⟩
 case body=>
  intro l' i x a' X O ap au ao af;obtain⟨T,y,j3,F⟩:=ao;obtain⟨B,af,b0,b1,b2,b3,b4⟩:=af;subst af;obtain⟨hi,_⟩:=JT.1 O;rw[lMp]at hi;have an:=aa.o.1;have ac:=aa.o.2 i ϣ;have U:ϡ (∀w1,CT 275 #[(E.getD i ϰ).val] w1 λr w'=>r= .returned (.agg #[.string (E.getD i ϰ).key,vI (E.getD i ϰ).time,vI (E.getD i ϰ).seq])/\Ϣ w1 w'):=λw1=>IK _ w1;have ad:AJ (L.getD i ϰ)=((E.getD i ϰ).key,(E.getD i ϰ).time,(E.getD i ϰ).seq):=by unfold AJ;rw[ac.key,ac.time,ac.seq]
  have al:ϡ (L.getD i ϰ∈L):=by show _∈_;rw[gDe,gEe ϣ];simp
  obtain⟨⟨Q,Z,es,⟨r1,r2,r3⟩,em⟩,hz⟩:∃z,E.getD i ϰ=z:=⟨_,rfl⟩;rw[hz]at U b0 b1 b2 b3 b4 ad⊢;unfold EM.val hdV at U;unfold hdV at b3;dsimp only at U b0 b1 b2 b3 b4 ad;have ah:ϡ (AJ (L.getD i ϰ)=(Q,Z,es)):=ad;have c0:=y.cell Aj V0;have c1:=y.cell Aj V1;have c2:=y.cell Aj V2;have c3:=y.cell Aj V3;have lX:w.heap.size+1+1<X.heap.size:=bLt _ _ c3;have aq:prog.follows .mixedOrders=true:=Ϧ;clear hz ad ac an O;by_cases H:(Q,Z,es)=(G,J,ps)
  ·have HE:ϡ (true=R):=by
    show _=_;rw[<-ai.o];exact(bP.2 ⟨_,al.o,by rw[ah.o];simpa using H⟩).symm
   injection H with P am
   injection am with e2 Y
   subst P e2 Y
   gi_wp2
   gi_region_with_o (refine⟨trivial,rfl,?_⟩;gi_at_call 275;refine(Pl l' (DM.2 (U.o _))).mono ?_;rintro e w2 ⟨rfl,a⟩;have k0:=cLz a c0;have k1:=cLz a c1;have k2:=cLz a c2;have k3:=cLz a c3;have kf:w2.frozen? ⟨w+1+1,0,none⟩=false:=(by rw[a.frozen (p:=⟨w+1+1,0,none⟩) lX];exact j3);have d:Ϣ X w2:=bR.drew.trans a)
   all_goals
    gi_wp2
    exact⟨(BW d).trans ((Rg _ _ _).from _),rfl,HE.o,JR _ _ _ k3,(bT F d).setCell ϩ _⟩
  ·have ar:((Q.toList==G.toList)&&((Z==J)&&(es==ps)))=false:=by
    rw[bytes_beq];by_cases P:Q=G
    ·by_cases e2:Z=J
     ·have Y:es≠ps:=λY=>H (by rw[P,e2,Y]);simp[P,e2,Y]
     ·simp[P,e2]
    ·simp[P]
   have ae:ϡ (AJ (L.getD i ϰ)≠(G,J,ps)):=by show _≠_;rw[ah.o];exact H
   by_cases t1:Q.toList=G.toList
   ·by_cases t2:Z=J
    ·have t3:(es==ps)=false:=by
      rw[K5];intro Y;have P:Q=G:=by have:=bytes_beq Q G;rw[t1]at this;simpa using this.symm
      exact H (by rw[P,t2,Y])
     subst t2
     gi_wp2
     gi_region_with_o (refine⟨trivial,rfl,?_⟩;gi_at_call 275;refine(Pl l' (DM.2 (U.o _))).mono ?_;rintro e w2 ⟨rfl,a⟩;have k0:=cLz a c0;have k1:=cLz a c1;have k2:=cLz a c2;have d:Ϣ X w2:=bR.drew.trans a)
     all_goals
      gi_wp2
      exact⟨BW d,C8 d nR,λj I=>by
       rcases Fm.1 I with h|h
       ·exact T j h
       ·rw[h];exact ae.o,y.trans (C8 d nR),by rw[d.frozen (p:=⟨w+1+1,0,none⟩) lX];exact j3,bT F d⟩
    ·have ax:(Z==J)=false:=by simpa using t2
     gi_wp2
     gi_region_with_o (refine⟨trivial,rfl,?_⟩;gi_at_call 275;refine(Pl l' (DM.2 (U.o _))).mono ?_;rintro e w2 ⟨rfl,a⟩;have k0:=cLz a c0;have k1:=cLz a c1;have k2:=cLz a c2;have d:Ϣ X w2:=bR.drew.trans a)
     all_goals
      gi_wp2
      exact⟨BW d,C8 d nR,λj I=>by
       rcases Fm.1 I with h|h
       ·exact T j h
       ·rw[h];exact ae.o,y.trans (C8 d nR),by rw[d.frozen (p:=⟨w+1+1,0,none⟩) lX];exact j3,bT F d⟩
   ·skip
    gi_wp2
    gi_region_with_o (refine⟨trivial,rfl,?_⟩;gi_at_call 275;refine(Pl l' (DM.2 (U.o _))).mono ?_;rintro e w2 ⟨rfl,a⟩;have k0:=cLz a c0;have k1:=cLz a c1;have k2:=cLz a c2;have d:Ϣ X w2:=bR.drew.trans a)
    all_goals
     gi_wp2
     exact⟨BW d,C8 d nR,λj I=>by
      rcases Fm.1 I with h|h
      ·exact T j h
      ·rw[h];exact ae.o,y.trans (C8 d nR),by rw[d.frozen (p:=⟨w+1+1,0,none⟩) lX];exact j3,bT F d⟩
 case done=>
  rintro D X hD ⟨T,y,j3,F⟩ S;have c3:=y.cell Aj V3;have HE:ϡ (false=R):=by
   show _=_;rw[<-ai.o]
   symm
   rw[lMp]at T;refine cS.2 (λx O=>?_);obtain⟨j,I,rfl⟩:=LT O;have:=T j (by rw[aa.o.1];exact I);rw[gDe,gEe I]at this;simpa using this
  gi_wp2
  have N:(X.setCell ⟨w+1+1,0,none⟩ (.bool false)).heap[D]? =some (.deferred (some [])):=(CB _ _ _ _ ϩ).trans S;refine⟨ϥ,.inl ⟨_,_,rfl,RM N,?_⟩⟩;have y3:=CQ (JR _ _ (.bool false) c3) N rfl (.deferred none);exact⟨.bool false,(by simp[results,results350,go_sem,y3]),Aa HE.o,CI (F.setCell ϩ _) ϣ N _⟩
 case stop=>
  rintro D c X hD ⟨rfl,H,c3,F⟩ S
  gi_wp2
  refine⟨ϥ,.inl ⟨_,_,rfl,RM S,?_⟩⟩;have y3:=CQ c3 S rfl (.deferred none);exact⟨.bool true,(by simp[results,results350,go_sem,y3]),Aa H,CI F ϣ S _⟩
def Cu(l:List Ent):Bool:=decide ((l.map AJ).Nodup)
def EI(l:List Ent)(i:Nat):List Plc:=(l.take i).map AJ
def M4(h:i<ϲ l):EI l (i+1)=EI l i++[AJ (l.getD i ϰ)]:=by
 unfold EI;rw[M1 h,DQ,gDe,gEe h];rfl
def WG(h:(EI l (ϲ l)).Nodup):Cu l=true:=by
 unfold EI at h;rw[Ok]at h;exact DB h
def Agz(h:i<ϲ l)(c:AJ (l.getD i ϰ)∈EI l i):Cu l=false:=by
 refine BP (λa=>?_);have e:l.map AJ=EI l (i+1)++(l.drop (i+1)).map AJ:=by
  unfold EI;rw[<-DQ,PP]
 rw[e,M4 h]at a;have:=(aK.1 (aK.1 a).1).2.2 _ c _ (M2.2 rfl);exact this rfl
def WH(h:i<ϲ l)(f:(EI l i).Nodup)(d:AJ (l.getD i ϰ) ∉ EI l i):(EI l (i+1)).Nodup:=by
 rw[M4 h];refine aK.2 ⟨f,ϥ,λa ha b c=>?_⟩;rw[M2.1 c];exact λe=>d (by rw[<-e];exact ha)
def GZ(h:DN W M ps)(c:Below n W W')(a:M<n):DN W' M ps:=(c.block M a).trans h
def Uk(a:W.grownBy W' (some M))(c:M<B):KeepsFrom B W W':=⟨a.size,λk o d h _=>(a.block k (GS.1 h).1 (λe=>by cases e;omega)).trans h⟩
def AcA{a:Nat->Obj->Prop}(d:DN W M ps)(c:W.grownBy W' (some M)):Aw a W W':=(Aw.refl a W).grown c (λr e=>by cases e;exact⟨_,d,rfl⟩)
def cell_grown(c:DN W M ps)(a:W.grownBy W' (some M))(h:W.cell? ⟨b,o,none⟩=some v):W'.cell? ⟨b,o,none⟩=some v:=Do h a (λr e=>by cases e;exact⟨_,c,rfl⟩)
def OW(d:DN W M ps)(c:W.grownBy W' (some M))(h:W.cell? ⟨b,o,none⟩=some v)(a:W.frozen? ⟨b,o,none⟩=false):W'.frozen? ⟨b,o,none⟩=false:=(aY h c (λr e=>by cases e;exact⟨_,d,rfl⟩)).trans a
theorem ZW(b:Buf)(x:BX)(w:World)(h:bufAt w b x)(hw:∀y∈Ab b,wfP (AJ y)):
 Calls prog 236 #[Bh b x] w λe w'=>e= .returned (.bool (!Cu (Ab b)))/\Ϣ w w':=by
 have HB:ϡ (bufAt w b x):=h;have ab:ϡ (ERs w (ems (x.m::x.rs)) (Ab b)):=EC h;obtain⟨L,hL⟩:=nM (Ab b);rw[hL]at ab hw⊢;have HW:ϡ (∀y∈L,wfP (AJ y)):=hw;clear hL h hw;obtain⟨R,hR⟩:=nM (!Cu L);have am:ϡ ((!Cu L)=R):=hR;rw[hR];clear hR;obtain⟨S,T,⟨⟨J,N,O⟩,ml⟩,rs⟩:=x;obtain⟨P,a1,a2⟩:=b;unfold Bh hdV;dsimp only at ab⊢;obtain⟨n,hn⟩:∃n,ϲ rs=n:=⟨_,rfl⟩;have HN:ϡ (ϲ rs=n):=hn;rw[hn];clear hn;have av:=@run_makeMap prog;refine(DM (n:=0)).1 ?_;refine bH func236 rfl trivial ?_ rfl;simp only[ntmps236,St,DP,NS,Nat.reduceAdd,Nat.reduceSub,aU,aV,aW,aX,JV,KY]
 gi_wp2_with (refine⟨trivial,rfl,?_⟩;gi_at_call 237;refine(DM.2 (Jw _ _ _ rfl rfl rfl _)).mono ?_;rintro e w' ⟨rfl,rfl⟩)
 generalize Z:(((((w.alloc (.cells #[vI P,vS J N O,vS S n T] 36)).alloc (.cells #[.bool false] 4)).alloc (.map #[] 0)).alloc (.cells #[.map (some (w.heap.size+1+1))] 338)).alloc (.cells #[vI P,vS J N O,vS S n T] 36))=V at *;have V0:V.cell? ⟨w+1+1+1,0,none⟩=some (.map (some (w.heap.size+1+1))):=by subst Z;go_simp
 have V2:DN V (w.heap.size+1+1) []:=by
  subst Z;show(((((w.alloc (.cells #[vI P,vS J N O,vS S n T] 36)).alloc (.cells #[.bool false] 4)).alloc (.map #[] 0)).alloc (.cells #[.map (some (w.heap.size+1+1))] 338)).alloc (.cells #[vI P,vS J N O,vS S n T] 36)).heap[w.heap.size+1+1]? =some (.map #[] 0);have h:=DE ((w.alloc (.cells #[vI P,vS J N O,vS S n T] 36)).alloc (.cells #[.bool false] 4)) (.map #[] 0);rw[D0,D0]at h;rw[LE _ _ _ ϥ,LE _ _ _ ϥ];exact h
 have V3:V.cell? ⟨w+1,0,none⟩=some (.bool false):=by subst Z;go_simp
 have V4:V.frozen? ⟨w+1,0,none⟩=false:=by subst Z;go_simp
 have V5:V.cell? ⟨w+1+1+1+1,0,none⟩=some (vI P):=by subst Z;go_simp
 have V6:V.cell? ⟨w+1+1+1+1,1,none⟩=some (vS J N O):=by subst Z;go_simp
 have V7:V.cell? ⟨w+1+1+1+1,2,none⟩=some (vS S n T):=by subst Z;go_simp
 have V8:Ϣ w V:=by
  subst Z
  repeat (first|exact bR|(refine DH ?_ Ϫ _))
 have V9:V.heap.size=w.heap.size+1+1+1+1+1:=by subst Z;simp
 clear Z;have al:=Ia HB.o V8 (w.heap.size+1+1+1+1) GK V5 V6 (by rw[HN.o];exact V7) Aj (λ_ _=>Aj) (λ_ _ _ _=>trivial) (λ_ _ _ _=>trivial);dsimp only at al;obtain⟨E,hE⟩:=nM (ems ((((J,N,O):Hdr),ml)::rs));rw[hE]at al ab;clear hE av;refine DF (gf:=276) (lb:=#[.pointer (some ⟨w+1+1+1+1,0,none⟩)]) rfl (IB func276 Ϧ rfl) al bR (λx hx=>by obtain⟨p,_,rfl⟩:=DS.1 hx;rfl) (λh k=>Aw.trans h k) (λW l o o' _ h ho=>Aw.put W l o o' h ho)
  (λi X=>(EI L i).Nodup/\DN X (w.heap.size+1+1) (EI L i)/\Aw GK V X/\X.frozen? ⟨w+1,0,none⟩=false/\Ϣ w X) (λc X=>c= .ret/\true=R/\X.cell? ⟨w+1,0,none⟩=some (.bool true)/\Ϣ w X)
  (λi X X' ap G H I=>⟨G.1,(H.block _ (Hq G.2.1) (λe=>by have:=(I _ e.symm).1;omega)).trans G.2.1,G.2.2.1.grown H (λr e=>(I r e).2),(aY (G.2.2.1.cell Aj V3) H (λr e=>(I r e).2)).trans G.2.2.2.1,Dy G.2.2.2.2 nR ϣ H I⟩)
  (λc X X' ap G H I=>⟨G.1,G.2.1,Do G.2.2.1 H (λr e=>(I r e).2),Dy G.2.2.2 nR ϣ H I⟩)
  ⟨eJ,V2,Aw.refl _ _,V4,V8⟩
  (λi a' X=> ∃B,a'={tmps:=#[.agg #[vI P,vS J N O,vS S n T],.pointer (some ⟨w,0,none⟩),.pointer (some ⟨w+1,0,none⟩),.pointer (some ⟨w+1+1+1,0,none⟩),.pointer (some ⟨B,0,none⟩),.map (some (w.heap.size+1+1)),.agg #[vI P,vS J N O,vS S n T],.func (.func 276) #[] #[.pointer (some ⟨w+1+1+1+1,0,none⟩)],(E.getD i ϰ).val,undef,undef,undef,undef,undef,undef,undef,undef,undef,undef,undef,undef],defers:=[]}/\X.cell? ⟨B,0,none⟩=some (.string (E.getD i ϰ).key)/\X.cell? ⟨B,1,none⟩=some (vI (E.getD i ϰ).time)/\X.cell? ⟨B,2,none⟩=some (vI (E.getD i ϰ).seq)/\X.cell? ⟨B,3,none⟩=some (hdV (E.getD i ϰ).row)/\X.cell? ⟨B,4,none⟩=some (.bool (E.getD i ϰ).met))
  (λi a' u X X' ap G H I=>by
   obtain⟨B,h1,h2,h3,h4,h5,h6⟩:=G;exact⟨B,h1,Do h2 H (λr e=>(I r e).2),Do h3 H (λr e=>(I r e).2),Do h4 H (λr e=>(I r e).2),Do h5 H (λr e=>(I r e).2),Do h6 H (λr e=>(I r e).2)⟩) ?assign ?body ?done ?stop
 case assign=>
  intro l' k x X K hx hi hK;obtain⟨hk,ao⟩:=JT.1 hx;rw[lMp]at hk;rw[aP]at ao;subst ao;have hd:E.getD k ϰ=E[k]:=by rw[gDe,gEe hk];rfl
  have aa:=hK;rw[hd]at aa;clear hK hd hx;obtain⟨⟨j,q,m,⟨r1,r2,r3⟩,em⟩,hz⟩:∃z,E[k]=z:=⟨_,rfl⟩;rw[hz]at aa⊢;unfold EM.val hdV at aa⊢;dsimp only at aa⊢;obtain⟨j1,j0,j2,j3,j4⟩:=hi
  gi_wp2
  have lX:w.heap.size+1<X.heap.size:=bLt _ _ (j2.cell Aj V3);have lM:=Hq j0;exact aa _ _ ((bQ _ _).from _) (Aw.alloc _ _) ⟨j1,GZ j0 Ϯ lM,j2.trans (Aw.alloc _ _),ϧ,j4.alloc j4.size _⟩ ⟨X.heap.size,rfl,ϧ,ϧ,ϧ,ϧ,ϧ⟩
 case body=>
  intro l' i x a' X hx aw ay au ag;obtain⟨j1,j0,j2,j3,j4⟩:=au;obtain⟨B,ag,b0,b1,b2,b3,b4⟩:=ag;subst ag;obtain⟨hi,_⟩:=JT.1 hx;rw[lMp]at hi;have ar:=ab.o.1;have ak:i<ϲ L:=ϣ;have ad:=ab.o.2 i ak;have KP:ϡ (∀w1,CT 275 #[(E.getD i ϰ).val] w1 λr w'=>r= .returned (.agg #[.string (E.getD i ϰ).key,vI (E.getD i ϰ).time,vI (E.getD i ϰ).seq])/\Ϣ w1 w'):=λw1=>IK _ w1;have ac:AJ (L.getD i ϰ)=((E.getD i ϰ).key,(E.getD i ϰ).time,(E.getD i ϰ).seq):=by unfold AJ;rw[ad.key,ad.time,ad.seq]
  have ae:wfP (AJ (L.getD i ϰ)):=HW.o _ (by rw[gDe,gEe ak];simp);obtain⟨⟨j,q,m,⟨r1,r2,r3⟩,em⟩,hz⟩:∃z,E.getD i ϰ=z:=⟨_,rfl⟩;rw[hz]at KP b0 b1 b2 b3 b4 ac⊢;unfold EM.val hdV at KP;unfold hdV at b3;dsimp only at KP b0 b1 b2 b3 b4 ac;rw[ac]at ae;have c0:=j2.cell Aj V0;have Y:=j2.cell Aj V3;have lX:w.heap.size+1<X.heap.size:=bLt _ _ Y;have lM:=Hq j0;have ax:prog.follows .mixedOrders=true:=Ϧ;have az:IntKind.i64.wrap 1=1:=by rw[RW];omega
  have a0:IntKind.i64.wrap 2=2:=by rw[RW];omega
  have af:ϡ (AJ (L.getD i ϰ)=(j,q,m)):=ac;have HJ:ϡ ((EI L i).Nodup/\Aw GK V X/\i<ϲ L):=⟨j1,j2,ak⟩;clear hz ad ar hx ac;by_cases hm:(j,q,m)∈EI L i
  ·have HO:ϡ (∀W,DN W (w.heap.size+1+1) (EI L i)->∃(b:Nat) (U A:World),
    (Instr.lookup 338 (.map (some (w.heap.size+1+1))) (.agg #[.string j,vI q,vI m]) false).run prog W= .ok (vI 1) W/\
    (Instr.mapEntry 338 (.map (some (w.heap.size+1+1))) (.agg #[.string j,vI q,vI m])).run prog W= .ok (.tuple #[vI 1,vI b]) U/\
    (Instr.lookup 338 (.map (some (w.heap.size+1+1))) (.agg #[.string j,vI q,vI m]) false).run prog U= .ok (vI 1) U/\
    (Instr.entryStore 338 (.map (some (w.heap.size+1+1))) (vI b) (vI 2)).run prog U= .ok () A/\
    (∀W5:World,W5.heap[w.heap.size+1+1]? =A.heap[w.heap.size+1+1]? ->(Instr.lookup 338 (.map (some (w.heap.size+1+1))) (.agg #[.string j,vI q,vI m]) false).run prog W5= .ok (vI 2) W5)/\W.grownBy A (some (w.heap.size+1+1))):=λW hW=>by
    have h:=AdQ hW ae hm;unfold BM at h;exact h
   have HE:ϡ (true=R):=by
    show _=_;rw[<-am.o,Agz HJ.o.2.2 (by rw[af.o];exact hm)];rfl
   gi_wp2
   refine wpIn_mono (Q:=λe a' W'=> ∃(bo:Nat) (w2:World),e= .normal/\a'={tmps:=#[.agg #[vI P,vS J N O,vS S n T],.pointer (some ⟨w,0,none⟩),.pointer (some ⟨w+1,0,none⟩),.pointer (some ⟨w+1+1+1,0,none⟩),.pointer (some ⟨B,0,none⟩),.map (some (w.heap.size+1+1)),.agg #[vI P,vS J N O,vS S n T],.func (.func 276) #[] #[.pointer (some ⟨w+1+1+1+1,0,none⟩)],EM.val ⟨j,q,m,(r1,r2,r3),em⟩,.map (some (w.heap.size+1+1)),.agg #[.string j,vI q,vI m,vS r1 r2 r3,.bool em],.agg #[.string j,vI q,vI m],vI 1,vI 2,.tuple #[vI 1,vI (bo:Nat)],vI (bo:Nat),undef,undef,undef,undef,undef],defers:=[]}/\Ϣ X w2/\DN w2 (w.heap.size+1+1) (EI L i)/\(∀W5:World,W5.heap[w.heap.size+1+1]? =W'.heap[w.heap.size+1+1]? ->(Instr.lookup 338 (.map (some (w.heap.size+1+1))) (.agg #[.string j,vI q,vI m]) false).run prog W5= .ok (vI 2) W5)/\w2.grownBy W' (some (w.heap.size+1+1))) ?_ ?_
   ·gi_region_with_o (refine⟨trivial,rfl,?_⟩;gi_at_call 275;refine(Pl l' (DM.2 (KP.o _))).mono ?_;rintro e w2 ⟨rfl,ah⟩;have a:Ϣ X w2:=bR.drew.trans ah;have k0:=cLz a c0;have f:DN w2 (w.heap.size+1+1) (EI L i):=GZ j0 a lM;obtain⟨bo,U,A,o1,o2,o3,o4,o5,d⟩:=HO.o w2 f)
    all_goals exact⟨bo,w2,rfl,rfl,a,f,o5,d⟩
   ·rintro e a' A ⟨bo,w2,rfl,rfl,a,f,o5,d⟩;have d0:=cell_grown f d (cLz a c0);have d3:=cell_grown f d (cLz a Y);have df:=OW f d (cLz a Y) (by rw[a.frozen (p:=⟨w+1,0,none⟩) lX];exact j3);have e0:=cell_grown f d (cLz a b0);have e1:=cell_grown f d (cLz a b1);have e2:=cell_grown f d (cLz a b2);have e3:=cell_grown f d (cLz a b3);have e4:=cell_grown f d (cLz a b4);have kx:KeepsFrom V.heap.size X A:=(BW a).trans (Uk d ϣ);have aj:Ϣ w A:=(bT j4 a).grown d (by have:=a.size;omega) (λr e=>by cases e;omega);have l4:w.heap.size+1+1<A.heap.size:=by have:=a.size;have:=d.size;omega
    clear j0 f d a HO c0 Y b0 b1 b2 b3 b4
    gi_wp2
    gi_region_with_o (refine⟨trivial,rfl,?_⟩;gi_at_call 275;refine(Pl l' (DM.2 (KP.o _))).mono ?_;rintro e w5 ⟨rfl,ai⟩;have F:Ϣ A w5:=bR.drew.trans ai;have k0:=cLz F d0;have k3:=cLz F d3;have kf:w5.frozen? ⟨w+1,0,none⟩=false:=(by rw[F.frozen (p:=⟨w+1,0,none⟩) ϩ];exact df);have lk:=o5 w5 (F.block _ l4))
    all_goals
     gi_wp2
     exact⟨(kx.trans (BW F)).trans ((Rg _ _ _).from _),rfl,HE.o,JR _ _ _ k3,(bT aj F).setCell ϩ _⟩
  ·have HO:ϡ (∀W,DN W (w.heap.size+1+1) (EI L i)->∃U A,
    (Instr.lookup 338 (.map (some (w.heap.size+1+1))) (.agg #[.string j,vI q,vI m]) false).run prog W= .ok (vI 0) W/\
    (Instr.mapEntry 338 (.map (some (w.heap.size+1+1))) (.agg #[.string j,vI q,vI m])).run prog W= .ok (.tuple #[vI 0,vI (ϲ (EI L i))]) U/\
    (Instr.lookup 338 (.map (some (w.heap.size+1+1))) (.agg #[.string j,vI q,vI m]) false).run prog U= .ok (vI 0) U/\
    (Instr.entryStore 338 (.map (some (w.heap.size+1+1))) (vI (ϲ (EI L i))) (vI 1)).run prog U= .ok () A/\
    DN A (w.heap.size+1+1) (EI L i++[(j,q,m)])/\W.grownBy A (some (w.heap.size+1+1))):=λW hW=>by
    have h:=AdP hW ae hm;unfold BM at h;exact h
   have aq:ϡ (∀W,DN W (w.heap.size+1+1) (EI L i++[(j,q,m)])->(Instr.lookup 338 (.map (some (w.heap.size+1+1))) (.agg #[.string j,vI q,vI m]) false).run prog W= .ok (vI 1) W):=λW hW=>by
    have h:=Abh hW ae hm;unfold BM at h;exact h
   have HS:ϡ (EI L (i+1)=EI L i++[(j,q,m)]/\(EI L (i+1)).Nodup):=⟨by rw[M4 HJ.o.2.2,af.o],WH HJ.o.2.2 HJ.o.1 (by rw[af.o];exact hm)⟩;obtain⟨pn,an⟩:=nM (ϲ (EI L i));rw[an]at HO;clear an
   gi_wp2
   refine wpIn_mono (Q:=λe a' W'=> ∃(w2:World),e= .normal/\a'={tmps:=#[.agg #[vI P,vS J N O,vS S n T],.pointer (some ⟨w,0,none⟩),.pointer (some ⟨w+1,0,none⟩),.pointer (some ⟨w+1+1+1,0,none⟩),.pointer (some ⟨B,0,none⟩),.map (some (w.heap.size+1+1)),.agg #[vI P,vS J N O,vS S n T],.func (.func 276) #[] #[.pointer (some ⟨w+1+1+1+1,0,none⟩)],EM.val ⟨j,q,m,(r1,r2,r3),em⟩,.map (some (w.heap.size+1+1)),.agg #[.string j,vI q,vI m,vS r1 r2 r3,.bool em],.agg #[.string j,vI q,vI m],vI 0,vI 1,.tuple #[vI 0,vI (pn:Nat)],vI (pn:Nat),undef,undef,undef,undef,undef],defers:=[]}/\Ϣ X w2/\DN w2 (w.heap.size+1+1) (EI L i)/\DN W' (w.heap.size+1+1) (EI L i++[(j,q,m)])/\w2.grownBy W' (some (w.heap.size+1+1))) ?_ ?_
   ·gi_region_with_o (refine⟨trivial,rfl,?_⟩;gi_at_call 275;refine(Pl l' (DM.2 (KP.o _))).mono ?_;rintro e w2 ⟨rfl,ah⟩;have a:Ϣ X w2:=bR.drew.trans ah;have k0:=cLz a c0;have f:DN w2 (w.heap.size+1+1) (EI L i):=GZ j0 a lM;obtain⟨U,A,o1,o2,o3,o4,o5,d⟩:=HO.o w2 f)
    all_goals exact⟨w2,rfl,rfl,a,f,o5,d⟩
   ·rintro e a' A ⟨w2,rfl,rfl,a,f,o5,d⟩;have d0:=cell_grown f d (cLz a c0);have d3:=cell_grown f d (cLz a Y);have df:=OW f d (cLz a Y) (by rw[a.frozen (p:=⟨w+1,0,none⟩) lX];exact j3);have e0:=cell_grown f d (cLz a b0);have e1:=cell_grown f d (cLz a b1);have e2:=cell_grown f d (cLz a b2);have e3:=cell_grown f d (cLz a b3);have e4:=cell_grown f d (cLz a b4);have kx:KeepsFrom V.heap.size X A:=(BW a).trans (Uk d ϣ);have ko:Aw GK X A:=(C8 a nR).trans (AcA f d);have aj:Ϣ w A:=(bT j4 a).grown d (by have:=a.size;omega) (λr e=>by cases e;omega);have l4:w.heap.size+1+1<A.heap.size:=Hq o5;clear j0 f d a HO c0 Y b0 b1 b2 b3 b4
    gi_wp2
    gi_region_with_o (refine⟨trivial,rfl,?_⟩;gi_at_call 275;refine(Pl l' (DM.2 (KP.o _))).mono ?_;rintro e w5 ⟨rfl,ai⟩;have F:Ϣ A w5:=bR.drew.trans ai;have k0:=cLz F d0;have mm:DN w5 (w.heap.size+1+1) (EI L i++[(j,q,m)]):=GZ o5 F l4;have lk:=aq.o w5 mm)
    all_goals
     gi_wp2
     exact⟨kx.trans (BW F),ko.trans (C8 F nR),HS.o.2,by rw[HS.o.1];exact mm,HJ.o.2.1.trans (ko.trans (C8 F nR)),by rw[F.frozen (p:=⟨w+1,0,none⟩) ϩ];exact df,bT aj F⟩
 case done=>
  rintro D X hD ⟨j1,j0,j2,j3,j4⟩ hK;have Y:=j2.cell Aj V3;have HE:ϡ (false=R):=by
   show _=_;rw[lMp,ab.o.1]at j1;rw[<-am.o,WG j1];rfl
  clear j0
  gi_wp2
  have aa:(X.setCell ⟨w+1,0,none⟩ (.bool false)).heap[D]? =some (.deferred (some [])):=(CB _ _ _ _ ϩ).trans hK;refine⟨ϥ,.inl ⟨_,_,rfl,RM aa,?_⟩⟩;have y3:=CQ (JR _ _ (.bool false) Y) aa rfl (.deferred none);exact⟨.bool false,(by simp[results,results236,go_sem,y3]),Aa HE.o,CI (j4.setCell ϩ _) ϣ aa _⟩
 case stop=>
  rintro D c X hD ⟨rfl,hE,Y,j4⟩ hK
  gi_wp2
  refine⟨ϥ,.inl ⟨_,_,rfl,RM hK,?_⟩⟩;have y3:=CQ Y hK rfl (.deferred none);exact⟨.bool true,(by simp[results,results236,go_sem,y3]),Aa hE,CI j4 ϣ hK _⟩
noncomputable def Jl(l:List Ent):Bool:=allB (ϲ l) (Gk l)
theorem PW(h:Hdr)(j:List EM)(l:List Ent)(w:World)(z:h.2.1=ϲ l)(q:ϲ l<=9223372036854775807)(ha:Cn w h.1 j)(f:ERs w j l)(D:∀x∈l,wfE x):
 Calls prog 234 #[hdV h] w λe w'=>e= .returned (.bool (Jl l))/\Ϣ w w':=by
 obtain⟨a,n,c⟩:=h;unfold hdV;dsimp only at z ha⊢;subst z;have k:ϡ (∀w1,Ϣ w w1->w1.cell? ⟨w,0,none⟩=some (vS a (ϲ l) c)->CT 269 #[vS a (ϲ l) c,.func (.func 270) #[] #[.pointer (some ⟨w,0,none⟩)]] w1 λe w'=>e= .returned (.bool (Jl l))/\Ϣ w1 w'):=λw1 m E=>by
  have h:=Rl 270 (IB func270 Ϧ rfl) #[.pointer (some ⟨w,0,none⟩)] (Gk l) a c j w1 (by rw[f.1];exact q) (Ch ha m) (λi w2 y d=>YR a c j l i w.heap.size w2 (by rw[f.1]at y;exact y) q (cLz d E) (Ch (Ch ha m) d) ((f.below m).below d) D);rw[f.1]at h;exact h
 obtain⟨n,A⟩:=nM (ϲ l);rw[A]at k⊢;clear ha f D A q;obtain⟨R,r⟩:=nM (Jl l);rw[r]at k⊢;clear r;have u:Ϣ w (w.alloc (.cells #[vS a n c] 33)):=Ϯ;go_enter func234,ntmps234;go_wp2_with (go_at_call 269;refine(k.o _ u ϧ).mono ?_;rintro e w2 ⟨rfl,d⟩);go_ret;exact⟨rfl,bT u d⟩
def Ke(b:Buf):Bool:=allB (ϲ b.runs) λi=>decide (0<ϲ (b.runs.getD i ϰ))
def WI{P Q:Nat->Bool}(h:∀i,i<n->P i=Q i):allB n P=allB n Q:=by
 rcases eK (allB n Q)with a|a
 ·rw[a];exact AA.2 (λi c=>by rw[h i c];exact AA.1 a i c)
 ·rw[a];rcases eK (allB n P)with d|d
  ·have:allB n Q=true:=AA.2 (λi c=>by rw[<-h i c];exact AA.1 d i c);rw[a]at this;cases this
  ·exact d
theorem LD(b:Buf)(x:BX)(w:World)(h:bufAt w b x):
 Calls prog 235 #[Bh b x] w λe w'=>e= .returned (.bool (!Ke b))/\Ϣ w w':=by
 have a:ϡ (∀w1,Ϣ w w1->CT 273 #[vS x.ra (ϲ x.rs) x.rc,.func (.func 274) #[] #[]] w1 λe w'=>e= .returned (.bool (Ke b))/\Ϣ w1 w'):=λw1 D=>by
  have f:ϲ (x.rs.map (·.1))=ϲ x.rs:=lMp ..;have k:=Rn 274 (IB func274 Ϧ rfl) #[] (λi=>decide (0<((x.rs.map (·.1)).getD i (none,0,0)).2.1)) x.ra x.rc (x.rs.map (·.1)) w1 (by rw[f];exact h.few) (IM h.hds D) (λi w2 c r=>by rw[eL];exact Vs _ _ w2);have e:allB (ϲ (x.rs.map (·.1))) (λi=>decide (0<((x.rs.map (·.1)).getD i (none,0,0)).2.1))=Ke b:=by
   unfold Ke;rw[f,h.rlen];refine WI (λi c=>?_);have d:i<ϲ x.rs:=by rw[h.rlen];exact c
   have j:=(h.runs i c).1;have A:=(h.len (x.rs[i]) (EQ _ (GE d))).1;have y:(x.rs.map (·.1)).getD i (none,0,0)=(x.rs[i]).1:=by rw[gDe,L7,gEe d];rfl
   have z:x.rs.getD i ϰ=x.rs[i]:=by rw[gDe,gEe d];rfl
   rw[z]at j;rw[y,A,j]
  rw[e,f]at k;exact k
 obtain⟨R,m⟩:=nM (Ke b);rw[m]at a⊢;clear m h;obtain⟨I,J,⟨⟨F,G,H⟩,N⟩,K⟩:=x;obtain⟨E,L,O⟩:=b;unfold Bh hdV;dsimp only at a⊢;obtain⟨n,u⟩:∃n,ϲ K=n:=⟨_,rfl⟩;rw[u]at a⊢;clear u;have q:Ϣ w (w.alloc (.cells #[vI E,vS F G H,vS I n J] 36)):=Ϯ;go_enter func235,ntmps235;go_wp2_with (go_at_call 273;refine(a.o _ q).mono ?_;rintro e w2 ⟨rfl,r⟩);go_ret;exact⟨rfl,bT q r⟩
def countB(b:Buf):Bool:=decide ((ϲ b.mem:Int)<=b.lim)&&decide (ϲ (Ab b)<=4096)
theorem FR(b:Buf)(x:BX)(w:World)(h:bufAt w b x)(F:ϲ (Ab b)<=4611686018427387904):
 Calls prog 167 #[Bh b x] w λe w'=>e= .returned (.bool (countB b))/\Ϣ w w':=by
 have a:=hIz (λ(w1:World) (H:Ϣ w w1)=>NP b x w1 (Ao h H) F);have u:x.m.1.2.1=ϲ b.mem:=(h.len x.m (E0 ..)).1.trans h.mem.1;obtain⟨R,q⟩:=nM (countB b);have k:ϡ (countB b=R):=q;rw[q];clear q h;obtain⟨L,O,⟨⟨I,y,J⟩,S⟩,P⟩:=x;obtain⟨f,K,Q⟩:=b;unfold Bh hdV at a⊢;dsimp only at a k u⊢;obtain⟨n,E⟩:∃n,ϲ P=n:=⟨_,rfl⟩;rw[E]at a⊢;clear E;obtain⟨N,m⟩:=nM (ϲ (Ab ⟨f,K,Q⟩));rw[m]at a;have j:ϡ ((decide ((y:Int)<=f)&&decide (N<=4096))=R):=by
  show _=_;rw[<-k.o];unfold countB;rw[m,u]
 clear m k u F;have d:Ϣ w (w.alloc (.cells #[vI f,vS I y J,vS L n O] 36)):=Ϯ;by_cases z:(y:Int)<=f
 ·by_cases A:N<=4096
  ·have c:ϡ (true=R):=by show _=_;rw[<-j.o];simp[z,A]
   have D:(N:Int)<=4096:=ϣ;go_enter func167,ntmps167;go_wp2_with (go_at_call 232;refine(a.o _ d).mono ?_;rintro e w2 ⟨rfl,r⟩);go_ret;exact⟨Aa c.o,bT d r⟩
  ·have c:ϡ (false=R):=by show _=_;rw[<-j.o];simp[A]
   have D:¬(N:Int)<=4096:=ϣ;have G:ϡ (¬(N:Int)<=4096):=D;go_enter func167,ntmps167;go_wp2_with (go_at_call 232;refine(a.o _ d).mono ?_;rintro e w2 ⟨rfl,r⟩);go_ret;exact⟨Aa ((BP (by have:=G.o;omega)).trans c.o),bT d r⟩
 ·have c:ϡ (false=R):=by show _=_;rw[<-j.o];simp[z]
  go_enter func167,ntmps167;go_wp2;go_ret;exact⟨Aa c.o,d⟩
noncomputable def FV(b:Buf):Bool:=allB (ϲ (partsB b)) (λi=>Jl ((partsB b).getD i ϰ))&&(Ke b&&Cu (Ab b))
def ZX{b:Buf}(a:i<ϲ (partsB b))(h:Jl ((partsB b).getD i ϰ)=false):FV b=false:=by unfold FV;rw[CK a h];rfl
def WJ{b:Buf}(h:∀i,i<ϲ (partsB b)->Jl ((partsB b).getD i ϰ)=true):FV b=(Ke b&&Cu (Ab b)):=by unfold FV;rw[AA.2 h];rfl
theorem CX(b:Buf)(x:BX)(w:World)(h:bufAt w b x)(hw:∀y∈Ab b,wfE y/\wfP (AJ y)):
 Calls prog 168 #[Bh b x] w λe w'=>e= .returned (.bool (FV b))/\Ϣ w w':=by
 have HB:ϡ (bufAt w b x):=h;have G:=hIz (λ(w1:World) (q:Ϣ w w1)=>LD b x w1 (Ao h q));have Z:=hIz (λ(w1:World) (q:Ϣ w w1)=>ZW b x w1 (Ao h q) (λy hy=>(hw y hy).2));have KP:ϡ (∀i w1,i<ϲ (x.m::x.rs)->Ϣ w w1->CT 234 #[hdV ((x.m::x.rs).getD i ϰ).1] w1 λe w'=>e= .returned (.bool (Jl ((partsB b).getD i ϰ)))/\Ϣ w1 w'):=λi w1 d q=>by
  have ak:(x.m::x.rs).getD i ϰ∈x.m::x.rs:=by rw[gDe,gEe d];exact GE d
  have al:ϲ (partsB b)=ϲ (x.m::x.rs):=by simp[partsB,h.rlen]
  have hE:ERs w ((x.m::x.rs).getD i ϰ).2 ((partsB b).getD i ϰ):=by
   cases i with
   |zero=>exact h.mem
   |succ i=>
    have aq:i<ϲ b.runs:=by rw[DP,h.rlen]at d;omega
    simpa[partsB]using h.runs i aq
  have hl:=h.len _ ak;refine PW _ _ _ w1 (by rw[hl.1,hE.1]) (by rw[<-hE.1];exact hl.2) (Ch (h.ems _ ak) q) (hE.below q) (λy hy=>(hw y ?_).1);unfold Ab;refine Th.2 ⟨_,?_,hy⟩;rw[gDe,gEe (by rw[al];exact d)];exact GE (by rw[al];exact d)
 have ae:ϡ (ϲ (partsB b)=ϲ (x.m::x.rs)):=by show _=_;simp[partsB,h.rlen]
 obtain⟨R,hR⟩:=nM (FV b);have Y:ϡ (∀i,i<ϲ (x.m::x.rs)->Jl ((partsB b).getD i ϰ)=false->false=R):=λi d hf=>by rw[<-hR,ZX (by rw[ae.o];exact d) hf]
 have N:ϡ ((∀i,i<ϲ (x.m::x.rs)->Jl ((partsB b).getD i ϰ)=true)->(Ke b&&Cu (Ab b))=R):=λH=>by rw[<-hR,WJ (λi d=>H i (by rw[<-ae.o];exact d))]
 rw[hR];clear hR h hw ae;obtain⟨RB,aj⟩:∃z:Nat->Bool,(λi=>Jl ((partsB b).getD i ϰ))=z:=⟨_,rfl⟩;have ag:∀i,Jl ((partsB b).getD i ϰ)=RB i:=λi=>congrFun aj i;simp only[ag]at KP Y N;obtain⟨G1,ah⟩:=nM (Ke b);obtain⟨G2,ai⟩:=nM (Cu (Ab b));rw[ah]at G N;rw[ai]at Z N;clear aj ag ah ai;obtain⟨ra,rc,⟨⟨I,J,L⟩,ml⟩,rs⟩:=x;obtain⟨aa,av,aw⟩:=b;unfold Bh at G Z⊢;dsimp only at KP Y N G Z⊢;obtain⟨n,hn⟩:∃n,ϲ rs=n:=⟨_,rfl⟩;have HN:ϡ (ϲ rs=n):=hn;rw[hn]at G Z⊢;clear hn;have e1:hdV (I,J,L)=vS I J L:=rfl;rw[e1]at G Z⊢;refine(DM (n:=0)).1 ?_;refine bH func168 rfl trivial ?_ rfl;simp only[ntmps168,St,DP,NS,Nat.reduceAdd,Nat.reduceSub,aU,aV,aW,aX,JV,KY]
 gi_wp2_with (refine⟨trivial,rfl,?_⟩;gi_at_call 233;refine(DM.2 (Jv _ _ _ rfl rfl rfl _)).mono ?_;rintro e w' ⟨rfl,rfl⟩)
 generalize A:(((w.alloc (.cells #[vI aa,vS I J L,vS ra n rc] 36)).alloc (.cells #[.bool false] 4)).alloc (.cells #[vI aa,vS I J L,vS ra n rc] 36))=V at *;have V0:V.cell? ⟨w,0,none⟩=some (vI aa):=by subst A;go_simp
 have V1:V.cell? ⟨w,1,none⟩=some (vS I J L):=by subst A;go_simp
 have V2:V.cell? ⟨w,2,none⟩=some (vS ra n rc):=by subst A;go_simp
 have V3:V.cell? ⟨w+1,0,none⟩=some (.bool false):=by subst A;go_simp
 have V4:V.frozen? ⟨w+1,0,none⟩=false:=by subst A;go_simp
 have V6:V.cell? ⟨w+1+1,1,none⟩=some (vS I J L):=by subst A;go_simp
 have V7:V.cell? ⟨w+1+1,2,none⟩=some (vS ra n rc):=by subst A;go_simp
 have V8:Ϣ w V:=by
  subst A
  repeat (first|exact bR|(refine DH ?_ Ϫ _))
 have V9:V.heap.size=w.heap.size+1+1+1:=by subst A;simp
 clear A;have af:=Kj HB.o V8 (w.heap.size+1+1) GK V6 (by rw[HN.o];exact V7) Aj (λ_ _ _=>Aj);obtain⟨P,hP⟩:∃z:List Part,(((I,J,L),ml)::rs)=z:=⟨_,rfl⟩;dsimp only at af;rw[hP]at af KP Y N;clear hP;refine DF (gf:=268) (lb:=#[.pointer (some ⟨w+1+1,0,none⟩)]) rfl (IB func268 Ϧ rfl) af bR (λx U=>by obtain⟨p,_,rfl⟩:=DS.1 U;rfl) (λh k=>Aw.trans h k) (λW l o o' _ h ho=>Aw.put W l o o' h ho)
  (λi X=>(∀j,j<i->RB j=true)/\Aw GK V X/\X.frozen? ⟨w+1,0,none⟩=false/\Ϣ w X) (λc X=>c= .ret/\false=R/\X.cell? ⟨w+1,0,none⟩=some (.bool false)/\Ϣ w X)
  (λi X X' am m H T=>⟨m.1,m.2.1.grown H (λr e=>(T r e).2),(aY (m.2.1.cell Aj V3) H (λr e=>(T r e).2)).trans m.2.2.1,Dy m.2.2.2 nR ϣ H T⟩)
  (λc X X' am m H T=>⟨m.1,m.2.1,Do m.2.2.1 H (λr e=>(T r e).2),Dy m.2.2.2 nR ϣ H T⟩)
  ⟨λj hj=>absurd hj (CA j),Aw.refl _ _,V4,V8⟩
  (λi a' X=>a'={tmps:=#[.agg #[vI aa,vS I J L,vS ra n rc],.pointer (some ⟨w,0,none⟩),.pointer (some ⟨w+1,0,none⟩),hdV (P.getD i ϰ).1,.agg #[vI aa,vS I J L,vS ra n rc],.func (.func 268) #[] #[.pointer (some ⟨w+1+1,0,none⟩)],hdV (P.getD i ϰ).1,undef,undef,undef,undef,undef,undef,undef,undef,undef,undef,undef],defers:=[]})
  (λi a' u X X' am m H T=>m) ?assign ?body ?done ?stop
 case assign=>
  intro l' k x X K U d E;obtain⟨hk,ac⟩:=JT.1 U;rw[lMp]at hk;rw[aP]at ac;subst ac;have hd:P.getD k ϰ=P[k]:=by rw[gDe,gEe hk];rfl
  have f:=λW' h1 h2 h3=>E _ W' h1 h2 h3 rfl;rw[hd]at f;clear E hd U;obtain⟨⟨⟨z1,z2,z3⟩,zl⟩,hz⟩:∃z,P[k]=z:=⟨_,rfl⟩;rw[hz]at f⊢;unfold hdV at f⊢;dsimp only at f⊢
  gi_wp2
  exact f X (cV _ _) (Aw.refl _ _) d
 case body=>
  intro l' i x a' X U ar au ao ap;obtain⟨j1,Q,j3,F⟩:=ao;obtain⟨d,ac⟩:=JT.1 U;rw[lMp]at d;subst ap;have S:ϡ (CT 234 #[hdV (P.getD i ϰ).1] X λe w'=>e= .returned (.bool (RB i))/\Ϣ X w'):=KP.o i X d F;have O:=Q.cell Aj V3;have lX:w.heap.size+1<X.heap.size:=bLt _ _ O;have an:ϡ (RB i=false->false=R):=Y.o i d;have HJ:ϡ ((∀j,j<i->RB j=true)/\Aw GK V X):=⟨j1,Q⟩;clear U ac KP Y N j1 Q;obtain⟨⟨⟨z1,z2,z3⟩,zl⟩,hz⟩:∃z,P.getD i ϰ=z:=⟨_,rfl⟩;rw[hz]at S⊢;unfold hdV at S⊢;dsimp only at S⊢;clear hz
  cases q:RB i with
  |true=>
   rw[q]at S
   gi_wp2_with (refine⟨trivial,rfl,?_⟩;gi_at_call 234;refine(Pl l' (DM.2 S.o)).mono ?_;rintro e w2 ⟨rfl,a⟩)
   exact⟨BW a,C8 a nR,λj hj=>by
    rcases Fm.1 hj with h|h
    ·exact HJ.o.1 j h
    ·rw[h];exact q,HJ.o.2.trans (C8 a nR),by rw[a.frozen (p:=⟨w+1,0,none⟩) lX];exact j3,bT F a⟩
  |false=>
   rw[q]at S
   gi_wp2_with (refine⟨trivial,rfl,?_⟩;gi_at_call 234;refine(Pl l' (DM.2 S.o)).mono ?_;rintro e w2 ⟨rfl,a⟩;have k3:=cLz a O;have kf:w2.frozen? ⟨w+1,0,none⟩=false:=(by rw[a.frozen (p:=⟨w+1,0,none⟩) lX];exact j3))
   exact⟨(BW a).trans ((Rg _ _ _).from _),rfl,an.o q,JR _ _ _ k3,(bT F a).setCell ϩ _⟩
 case done=>
  rintro D X hD ⟨j1,Q,j3,F⟩ E;rw[lMp]at j1;have HE:ϡ ((G1&&G2)=R):=N.o j1;have c0:=Q.cell Aj V0;have c1:=Q.cell Aj V1;have c2:=Q.cell Aj V2;have O:=Q.cell Aj V3;have lX:w.heap.size+1<X.heap.size:=bLt _ _ O;have lD:D<X.heap.size:=(GS.1 E).1;clear j1 Y N KP
  cases hg1:G1 with
  |false=>
   have ad:ϡ (false=R):=by show _=_;rw[<-HE.o,hg1];rfl
   rw[hg1]at G
   gi_wp2_with (first|(refine⟨trivial,rfl,?_⟩;gi_at_call 235;refine(DM.2 (G.o _ F)).mono ?_;rintro e w2 ⟨rfl,a⟩;have k3:=cLz a O;have kf:w2.frozen? ⟨w+1,0,none⟩=false:=(by rw[a.frozen (p:=⟨w+1,0,none⟩) lX];exact j3))|refine⟨trivial,?_⟩)
   have f:(w2.setCell ⟨w+1,0,none⟩ (.bool false)).heap[D]? =some (.deferred (some [])):=(CB _ _ _ _ ϩ).trans ((a.block _ lD).trans E);refine⟨ϥ,.inl ⟨_,_,rfl,RM f,?_⟩⟩;have y3:=CQ (JR _ _ (.bool false) k3) f rfl (.deferred none);exact⟨.bool false,(by simp[results,results168,go_sem,y3]),Aa ad.o,CI ((bT F a).setCell ϩ _) ϣ f _⟩
  |true=>
   have ad:ϡ (G2=R):=by show _=_;rw[<-HE.o,hg1];rfl
   rw[hg1]at G
   gi_wp2_with (first
    |(refine⟨trivial,rfl,?_⟩;gi_at_call 235;refine(DM.2 (G.o _ F)).mono ?_;rintro e w2 ⟨rfl,a⟩;have k0:=cLz a c0;have k1:=cLz a c1;have k2:=cLz a c2;have k3:=cLz a O;have kf:w2.frozen? ⟨w.heap.size+1,0,none⟩=false:=(by rw[a.frozen (p:=⟨w.heap.size+1,0,none⟩) lX];exact j3);have j5:=bT F a)
    |(refine⟨trivial,rfl,?_⟩;gi_at_call 236;refine(DM.2 (Z.o _ j5)).mono ?_;rintro e w3 ⟨rfl,ab⟩;have u3:=cLz ab k3;have uf:w3.frozen? ⟨w.heap.size+1,0,none⟩=false:=(by rw[ab.frozen (p:=⟨w.heap.size+1,0,none⟩) (NE lX a.size)];exact kf)))
   have f:∀v,(w3.setCell ⟨w+1,0,none⟩ v).heap[D]? =some (.deferred (some [])):=λv=>(CB _ _ _ _ ϩ).trans ((ab.block _ (NE lD a.size)).trans ((a.block _ lD).trans E));refine⟨ϥ,.inl ⟨_,_,rfl,RM (f _),?_⟩⟩;have y3:=CQ (JR _ _ (.bool G2) u3) (f _) rfl (.deferred none);exact⟨.bool G2,(by simp[results,results168,go_sem,y3]),Aa ad.o,CI ((bT j5 ab).setCell ϩ _) ϣ (f _) _⟩
 case stop=>
  rintro D c X hD ⟨rfl,hE,O,F⟩ E
  gi_wp2
  refine⟨ϥ,.inl ⟨_,_,rfl,RM E,?_⟩⟩;have y3:=CQ O E rfl (.deferred none);exact⟨.bool false,(by simp[results,results168,go_sem,y3]),Aa hE,CI F ϣ E _⟩
noncomputable def D6(b:Buf):Int:=if A8 b.lim 1 64=false then 3 else if countB b=false then 2 else if FV b=false then 1 else 0
theorem Bb(b:Buf)(x:BX)(w:World)(h:bufAt w b x)(P:∀y∈Ab b,wfE y/\wfP (AJ y))(O:ϲ (Ab b)<=4611686018427387904):
 Calls prog 100 #[Bh b x] w λe w'=>e= .returned (vI (D6 b))/\Ϣ w w':=by
 have j:=hIz (λ(w1:World) (z:Ϣ w w1)=>FR b x w1 (Ao h z) O);have q:=hIz (λ(w1:World) (z:Ϣ w w1)=>CX b x w1 (Ao h z) P);have m:ϡ (∀w1,CT 166 #[vI b.lim] w1 λe w'=>e= .returned (.bool (A8 b.lim 1 64))/\w'=w1):=λw1=>IJ _ w1;obtain⟨R,u⟩:=nM (D6 b);have f:ϡ ((if A8 b.lim 1 64=false then 3 else if countB b=false then 2 else if FV b=false then 1 else 0)=R):=u;rw[u];clear u h P O;obtain⟨G1,J⟩:=nM (A8 b.lim 1 64);obtain⟨Q,K⟩:=nM (countB b);obtain⟨S,L⟩:=nM (FV b);rw[J]at m f;rw[K]at j f;rw[L]at q f;clear J K L;obtain⟨H,I,⟨⟨E,F,G⟩,ml⟩,X⟩:=x;obtain⟨D,Z,aa⟩:=b;unfold Bh hdV at j q⊢;dsimp only at m j q⊢;obtain⟨n,N⟩:∃n,ϲ X=n:=⟨_,rfl⟩;rw[N]at j q⊢;clear N;have k:Ϣ w (w.alloc (.cells #[vI D,vS E F G,vS H n I] 36)):=Ϯ
 cases G1 with
 |false=>
  have d:ϡ ((3:Int)=R):=f.o;go_enter func100,ntmps100;go_wp2_with (go_at_call 166;refine(m.o _).mono ?_;rintro e w2 ⟨rfl,rfl⟩);go_ret;exact⟨Ad d.o,k⟩
 |true=>
  cases Q with
  |false=>
   have d:ϡ ((2:Int)=R):=f.o;go_enter func100,ntmps100;go_wp2_with (first
    |(go_at_call 166;refine(m.o _).mono ?_;rintro e w2 ⟨rfl,rfl⟩)
    |(go_at_call 167;refine(j.o _ k).mono ?_;rintro e c ⟨rfl,a⟩))
   go_ret;exact⟨Ad d.o,bT k a⟩
  |true=>
   cases S with
   |false=>
    have d:ϡ ((1:Int)=R):=f.o;go_enter func100,ntmps100;go_wp2_with (first
     |(go_at_call 166;refine(m.o _).mono ?_;rintro e w2 ⟨rfl,rfl⟩)
     |(go_at_call 167;refine(j.o _ k).mono ?_;rintro e c ⟨rfl,a⟩;have r:=bT k a;have T:c.cell? ⟨w.heap.size,0,none⟩=some (vI D):=cLz a ϧ;have U:c.cell? ⟨w.heap.size,1,none⟩=some (vS E F G):=cLz a ϧ;have V:c.cell? ⟨w.heap.size,2,none⟩=some (vS H n I):=cLz a ϧ)
     |(go_at_call 168;refine(q.o _ r).mono ?_;rintro e Y ⟨rfl,A⟩))
    go_ret;exact⟨Ad d.o,bT r A⟩
   |true=>
    have d:ϡ ((0:Int)=R):=f.o;go_enter func100,ntmps100;go_wp2_with (first
     |(go_at_call 166;refine(m.o _).mono ?_;rintro e w2 ⟨rfl,rfl⟩)
     |(go_at_call 167;refine(j.o _ k).mono ?_;rintro e c ⟨rfl,a⟩;have r:=bT k a;have T:c.cell? ⟨w.heap.size,0,none⟩=some (vI D):=cLz a ϧ;have U:c.cell? ⟨w.heap.size,1,none⟩=some (vS E F G):=cLz a ϧ;have V:c.cell? ⟨w.heap.size,2,none⟩=some (vS H n I):=cLz a ϧ)
     |(go_at_call 168;refine(q.o _ r).mono ?_;rintro e Y ⟨rfl,A⟩))
    go_ret;exact⟨Ad d.o,bT r A⟩
end bf
namespace bf
open vl
variable {W w w' w1 w2 : World} {C NB b base base' cap2 g n s size : Nat} {e t : TypeId} {v : Value} {xs : List Value} {x : Ent} {l : List Ent} {o : Obj} {p : Part}
def Ul:(prog.info? 166).map (λi=>(i.zero,i.size,i.bytes))=some (some (.agg #[.string ⟨#[]⟩,vI 0,vI 0,vS none 0 0,.bool false]),5,64):=Ϧ
def A4(h:w.ownsRow base e size v n xs)(m:∀g,v.ownBlock=some g->w'.heap[g]? =w.heap[g]?):w'.ownsRow base e size v n xs:=by
 refine⟨h.1,?_⟩;rcases h.2 with f|⟨g,c,d,a,j,q,k⟩
 ·exact .inl f
 ·exact .inr ⟨g,c,d,a,j,by rw[m g (by rw[a];rfl)];exact q,k⟩
def AL(h:w.ownsRow base e size v n xs)(a:v.ownBlock=some g):base<=g/\g<w.heap.size:=aB h g a
def own_below(h:w.ownsRow base e size v n xs)(a:Ϣ w w'):w'.ownsRow base e size v n xs:=
 A4 h (λg c=>a.block g (AL h c).2)
def D7(h:w.ownsRow base e size v n xs)(k:base'<=base):w.ownsRow base' e size v n xs:=by
 refine⟨h.1,?_⟩;rcases h.2 with d|⟨g,a,c,q,f,m,j⟩
 ·exact .inl d
 ·exact .inr ⟨g,a,c,q,B0 k f,m,j⟩
def JB{a:TypeId}{s':Nat}{j:Value}{y:Nat}{z:List Value}(h:w.ownsRow base e s v n xs)(q:w.ownsRow base' a s' j y z)(u:e≠a)(d:v.ownBlock=some g):j.ownBlock≠some g:=λf=>by
 rcases h.2 with⟨rfl,_⟩|⟨b,D,F,rfl,_,r,_⟩
 ·cases d
 ·rcases q.2 with⟨rfl,_⟩|⟨A,E,G,rfl,_,c,_⟩
  ·cases f
  ·cases d
   cases f
   rw[r]at c;injection c with k
   injection k with _ m _
   exact u m
def Di(b a j:Nat):(⟨b,a,none⟩:Addr).add j=⟨b,a+j,none⟩:=by unfold Addr.add;split<;>simp_all
def FH{d:Nat}{r:List Cel}(h:vl.rowAt w (some ⟨b,d,none⟩) r):∀j u,(celCells r)[j]? =some u->w.cell? ((⟨b,d,none⟩:Addr).add j)=some u:=by
 intro j u a;have k:j<ϲ (celCells r):=by
  rcases RN j (ϲ (celCells r)) with h|h
  ·exact h
  ·rw[cR h]at a;cases a
 rw[Eb]at k;have c:j/3<ϲ r:=ϣ;obtain⟨E,F,e,m,q,y⟩:=h (j/3) c
 cases e
 obtain⟨z,A,D⟩:=IV r (j/3) c;rw[Di];have f:j=j/3 * 3\/j=j/3 * 3+1\/j=j/3 * 3+1+1:=ϣ;rcases f with e|e|e
 ·rw[e]at a⊢;rw[z]at a;rw[<-a];exact m
 ·rw[e]at a⊢;rw[A]at a;rw[<-a];exact q
 ·rw[e]at a⊢;rw[D]at a;rw[<-a];exact y
def Fc(r:List Cel):∀u∈celCells r,u.oneCell'=true:=by
 intro u d;unfold celCells at d;obtain⟨c,_,a⟩:=eI.1 d;simp at a;rcases a with rfl|rfl|rfl<;>rfl
def EM.to(e:EM)(h:Hdr):EM:=⟨e.key,e.time,e.seq,h,e.met⟩
def Ap(l:List EM):List Value:=l.flatMap λe=>[.string e.key,vI e.time,vI e.seq,hdV e.row,.bool e.met]
theorem Fj(l:List EM):ϲ (Ap l)=ϲ l * 5:=by
 induction l with
 |nil=>rfl
 |cons c r ih=>show(ϲ ([_,_,_,_,_]++Ap r))=_;rw[lAp,ih,DP];simp;omega
def PX(l:List EM)(e:EM):Ap (l++[e])=Ap l++[.string e.key,vI e.time,vI e.seq,hdV e.row,.bool e.met]:=by
 unfold Ap;rw[SN];simp
theorem MY(r:List EM)(i:Nat)(h:i<ϲ r):(Ap r)[i * 5]? =some (.string (r.getD i ϰ).key)/\(Ap r)[i * 5+1]? =some (vI (r.getD i ϰ).time)/\(Ap r)[i * 5+2]? =some (vI (r.getD i ϰ).seq)/\(Ap r)[i * 5+3]? =some (hdV (r.getD i ϰ).row)/\(Ap r)[i * 5+4]? =some (.bool (r.getD i ϰ).met):=by
 induction r generalizing i with
 |nil=>exact absurd h (CA i)
 |cons c r ih=>
  have e:Ap (c::r)= .string c.key::vI c.time::vI c.seq::hdV c.row:: .bool c.met::Ap r:=rfl;rw[e]
  cases i with
  |zero=>exact⟨rfl,rfl,rfl,rfl,rfl⟩
  |succ i=>
   have:=ih i (by simpa using h);rw[show(i+1) * 5=i * 5+1+1+1+1+1 by omega];simpa using this
structure OR(w:World)(base:Nat)(e:EM)(x:Ent):Prop where
 key:e.key=x.key
 time:e.time=x.time
 seq:e.seq=x.seq
 met:e.met=x.met
 len:e.row.2.1=ϲ x.row
 row:AF w base (hdV e.row) x.row
def OR.er{e:EM}(h:OR w base e x):ER w e x:=⟨h.key,h.time,h.seq,h.met,h.len,by
 have a:=h.row;have c:=h.len;obtain⟨j,r,q,⟨d,m,f⟩,k⟩:=e;unfold hdV at a;dsimp only at a c⊢;rw[c]at a;exact D5 a⟩
structure OE(w:World)(base:Nat)(v:Value)(es:List EM)(l:List Ent):Prop where
 low:base<=w.heap.size
 own:w.ownsRow base 166 5 v (ϲ es) (Ap es)
 len:ϲ es=ϲ l
 rows:∀i,i<ϲ l->OR w base (es.getD i ϰ) (l.getD i ϰ)
def DJ(h:base<=w.heap.size):OE w base (vS none 0 0) [] []:=⟨h,KX _ _ _ _,rfl,λi a=>absurd a (CA i)⟩
def OE.form{c:List EM}(h:OE w base v c l):∃d a,v=vS d (ϲ c) a:=by
 rcases h.own.2 with⟨rfl,f⟩|⟨g,a,j,rfl,_⟩
 ·exact⟨none,0,by rw[f]⟩
 ·exact⟨_,_,rfl⟩
def OE.ers{a:List EM}(h:OE w base v a l):ERs w a l:=⟨h.len,λi c=>(h.rows i c).er⟩
theorem OE.at{cap:Nat}{ad:Option Addr}{c:List EM}(h:OE w base (vS ad (ϲ c) cap) c l):Cn w ad c:=by
 intro i f;rcases h.own.2 with⟨d,z⟩|⟨g,u,y,d,A,E,D⟩
 ·omega
 ·cases d
  have a:=RT h.own (g:=g) rfl;obtain⟨j,k,m,q,r⟩:=MY c i f;refine⟨g,0,rfl,?_,?_,?_,?_,?_⟩
  ·have:=a _ _ j;rw[Di]at this;exact this
  ·have:=a _ _ k;rw[Di]at this;exact this
  ·have:=a _ _ m;rw[Di]at this;exact this
  ·have:=a _ _ q;rw[Di]at this;exact this
  ·have:=a _ _ r;rw[Di]at this;exact this
def OE.below{c:List EM}(h:OE w base v c l)(a:Ϣ w w'):OE w' base v c l:=
 ⟨B0 h.low a.size,own_below h.own a,h.len,λi r=>by
  obtain⟨d,f,j,k,m,q⟩:=h.rows i r;exact⟨d,f,j,k,m,own_below q a⟩⟩
def OE.mono{c:List EM}(h:OE w base v c l)(a:base'<=base):OE w base' v c l:=
 ⟨B0 a h.low,D7 h.own a,h.len,λi r=>by
  obtain⟨d,f,j,k,m,q⟩:=h.rows i r;exact⟨d,f,j,k,m,D7 q a⟩⟩
def OE.same{j:List EM}(h:OE w base v j l)(D:w.heap.size<=w'.heap.size)(k:∀g c t,w.heap[g]? =some (.cells c t (0,0))->(v.ownBlock=some g/\t=166)\/t=119->w'.heap[g]? =w.heap[g]?):OE w' base v j l:=
 ⟨B0 h.low D,A4 h.own (λg a=>by
  rcases h.own.2 with⟨rfl,_⟩|⟨b,z,c,rfl,_,d,_⟩
  ·cases a
  ·cases a
   exact k _ _ _ d (.inl ⟨rfl,rfl⟩)),h.len,λi A=>by
  obtain⟨m,q,r,u,y,f⟩:=h.rows i A;refine⟨m,q,r,u,y,A4 f (λg a=>?_)⟩;rcases f.2 with⟨e,_⟩|⟨b,z,c,e,_,d,_⟩
  ·rw[e]at a;cases a
  ·rw[e]at a;cases a;exact k _ _ _ d (.inr rfl)⟩
theorem JC{a:List EM}{e:EM}(h:OE w base v a l)(u:Ϣ w w1)(N:OR w1 base e x)
 (J:w2.ownsRow base 166 5 (vS (some ⟨g,0,none⟩) (ϲ a+1) cap2) (ϲ a+1) (Ap a++[.string e.key,vI e.time,vI e.seq,hdV e.row,.bool e.met])) (m:(w1.alloc o).grownBy w2 v.ownBlock):
 OE w2 base (vS (some ⟨g,0,none⟩) (ϲ a+1) cap2) (a++[e]) (l++[x])/\Below base w w2:=by
 have c:=h.below u;have K:w1.heap.size<=w2.heap.size:=by have:=m.size;simp at this;omega
 have H:∀b,b<w1.heap.size->v.ownBlock≠some b->w2.heap[b]? =w1.heap[b]? :=λb d I=>by
  rw[m.block b Ϩ (λe=>I e.symm)];exact LE _ _ b d
 have z:∀{j:EM} {r:Ent},OR w1 base j r->OR w2 base j r:=λ{j r} k=>by
  obtain⟨A,D,E,F,G,f⟩:=k;refine⟨A,D,E,F,G,A4 f (λb d=>H b (AL f d).2 (λL=>?_))⟩;exact JB c.own f Ϥ L d
 refine⟨⟨B0 c.low K,?_,by rw[lAp,lAp,h.len];rfl,λi y=>?_⟩,?_⟩
 ·rw[lAp,PX];exact J
 ·rw[lAp]at y;by_cases q:i<ϲ l
  ·rw[Ba (by rw[h.len];exact q),Ba q];exact z (c.rows i q)
  ·have:i=ϲ l:=by simp at y;omega
   subst this;rw[Bf (by rw[h.len];exact HU _),Bf nR,h.len,cW];exact z N
 ·exact((u.mono h.low).alloc c.low o).grown m (by simp;have:=c.low;omega) (λb d=>(AL c.own d).1)
def Np(base:Nat)(t h e:TypeId)(i:TypeInfo)(size c:Nat)(ht:prog.underlying t=some (.slice e))(a:prog.info? e=some i)
 (v:Value) (n:Nat) (xs:List Value) (f:w.ownsRow base e size v n xs):(Builtin.append_ #[t,t] h #[v,vS none 0 c]).run prog w= .ok v w:=by
 rcases f.2 with⟨rfl,rfl⟩|⟨g,j,k,rfl,_,_,d,_⟩
 ·simp[Builtin.append_,aC ht,sizeOf,typeInfo,a,Builtin.lenOf,Builtin.firstCells]
 ·simp[Builtin.append_,aC ht,sizeOf,typeInfo,a,Builtin.lenOf,Builtin.firstCells,d,storeCells]
theorem Gv{d:Array Oper}{rest:List Oper}{o:Oper}{a:Act}{Q:Exit->Act->World->Prop}(j:o.guard=none)(s x:Operand)(t:TypeId)
 (m:o.op= .call {callee:=.builtin .append,args:=#[s,x],argTypes:=#[t,t]}) (base:Nat) (e:TypeId) (i:TypeInfo) (size c:Nat) (ht:prog.underlying t=some (.slice e)) (k:prog.info? e=some i)
 (v:Value) (n:Nat) (xs:List Value) (u:a.eval s=v) (q:w.ownsRow base e size v n xs) (y:a.eval x=vS none 0 c)
 (h:wpList prog d Q rest (a.put o.dst v) w):wpList prog d Q (o::rest) a w:=by
 refine wpList_plain j λK f=>?_;have r:=Np (w:=w) base t o.type e i size c ht k v n xs q;unfold Oper.wp;simp[execOp,m,resolve,invoke,builtin,u,y,r,Result.andThen];exact f _ _ h
def WK(h:w.grownBy w' none):Ϣ w w':=bR.grown h nR (λb a=>by cases a)
theorem Hu(e:EM)(x:Ent)(w:World)(h:ER w e x)(N:ϲ x.row<=1000000):
 Calls prog 295 #[e.val] w λr w'=>(∃A c,r= .returned (e.to (A,ϲ x.row,c)).val/\AF w' w (vS A (ϲ x.row) c) x.row)/\Ϣ w w':=by
 obtain⟨E,hi,ae,af,ag⟩:=IR Tryz.infoV;have F:ϡ (prog.info? 119=some E/\E.zero=some (.agg #[vI 0,vI 0,.string ⟨#[]⟩])/\E.size=3/\E.bytes=32):=⟨hi,ae,af,ag⟩;clear hi ae af ag;obtain⟨d,m,k,⟨q,n1,a⟩,f⟩:=e;have D:=h.row;have J:=h.len;dsimp only at D J;subst J;unfold EM.val EM.to hdV;dsimp only;obtain⟨r,hr⟩:=nM x.row;rw[hr]at D N⊢;clear h hr;obtain⟨n,H⟩:∃n,ϲ r=n:=⟨_,rfl⟩;have G:ϡ (ϲ r=n):=H;have Q:((w.alloc (.cells #[.string d,vI m,vI k,vS q (ϲ r) a,.bool f] 166)).alloc (.cells #[.string ⟨#[]⟩,vI 0,vI 0,vS none 0 0,.bool false] 166)).cell? ⟨w,0,none⟩=some (.string d):=ϧ;have R:((w.alloc (.cells #[.string d,vI m,vI k,vS q (ϲ r) a,.bool f] 166)).alloc (.cells #[.string ⟨#[]⟩,vI 0,vI 0,vS none 0 0,.bool false] 166)).cell? ⟨w,1,none⟩=some (vI m):=ϧ;have S:((w.alloc (.cells #[.string d,vI m,vI k,vS q (ϲ r) a,.bool f] 166)).alloc (.cells #[.string ⟨#[]⟩,vI 0,vI 0,vS none 0 0,.bool false] 166)).cell? ⟨w,2,none⟩=some (vI k):=ϧ;have L:((w.alloc (.cells #[.string d,vI m,vI k,vS q (ϲ r) a,.bool f] 166)).alloc (.cells #[.string ⟨#[]⟩,vI 0,vI 0,vS none 0 0,.bool false] 166)).cell? ⟨w,3,none⟩=some (vS q (ϲ r) a):=ϧ;have T:((w.alloc (.cells #[.string d,vI m,vI k,vS q (ϲ r) a,.bool f] 166)).alloc (.cells #[.string ⟨#[]⟩,vI 0,vI 0,vS none 0 0,.bool false] 166)).cell? ⟨w,4,none⟩=some (.bool f):=ϧ;have g0:((w.alloc (.cells #[.string d,vI m,vI k,vS q (ϲ r) a,.bool f] 166)).alloc (.cells #[.string ⟨#[]⟩,vI 0,vI 0,vS none 0 0,.bool false] 166)).cell? ⟨w+1,0,none⟩=some (.string ⟨#[]⟩):=ϧ;have g1:((w.alloc (.cells #[.string d,vI m,vI k,vS q (ϲ r) a,.bool f] 166)).alloc (.cells #[.string ⟨#[]⟩,vI 0,vI 0,vS none 0 0,.bool false] 166)).cell? ⟨w+1,1,none⟩=some (vI 0):=ϧ
 have g2:((w.alloc (.cells #[.string d,vI m,vI k,vS q (ϲ r) a,.bool f] 166)).alloc (.cells #[.string ⟨#[]⟩,vI 0,vI 0,vS none 0 0,.bool false] 166)).cell? ⟨w+1,2,none⟩=some (vI 0):=ϧ;have g3:((w.alloc (.cells #[.string d,vI m,vI k,vS q (ϲ r) a,.bool f] 166)).alloc (.cells #[.string ⟨#[]⟩,vI 0,vI 0,vS none 0 0,.bool false] 166)).cell? ⟨w+1,3,none⟩=some (vS none 0 0):=ϧ;have g4:((w.alloc (.cells #[.string d,vI m,vI k,vS q (ϲ r) a,.bool f] 166)).alloc (.cells #[.string ⟨#[]⟩,vI 0,vI 0,vS none 0 0,.bool false] 166)).cell? ⟨w+1,4,none⟩=some (.bool false):=ϧ;have V:((w.alloc (.cells #[.string d,vI m,vI k,vS q (ϲ r) a,.bool f] 166)).alloc (.cells #[.string ⟨#[]⟩,vI 0,vI 0,vS none 0 0,.bool false] 166)).frozen? ⟨w,3,none⟩=false:=ϧ;have X:((w.alloc (.cells #[.string d,vI m,vI k,vS q (ϲ r) a,.bool f] 166)).alloc (.cells #[.string ⟨#[]⟩,vI 0,vI 0,vS none 0 0,.bool false] 166)).frozen? ⟨w+1,0,none⟩=false:=ϧ;have Y:((w.alloc (.cells #[.string d,vI m,vI k,vS q (ϲ r) a,.bool f] 166)).alloc (.cells #[.string ⟨#[]⟩,vI 0,vI 0,vS none 0 0,.bool false] 166)).frozen? ⟨w+1,1,none⟩=false:=ϧ;have Z:((w.alloc (.cells #[.string d,vI m,vI k,vS q (ϲ r) a,.bool f] 166)).alloc (.cells #[.string ⟨#[]⟩,vI 0,vI 0,vS none 0 0,.bool false] 166)).frozen? ⟨w+1,2,none⟩=false:=ϧ;have aa:((w.alloc (.cells #[.string d,vI m,vI k,vS q (ϲ r) a,.bool f] 166)).alloc (.cells #[.string ⟨#[]⟩,vI 0,vI 0,vS none 0 0,.bool false] 166)).frozen? ⟨w+1,3,none⟩=false:=ϧ;have ab:((w.alloc (.cells #[.string d,vI m,vI k,vS q (ϲ r) a,.bool f] 166)).alloc (.cells #[.string ⟨#[]⟩,vI 0,vI 0,vS none 0 0,.bool false] 166)).frozen? ⟨w+1,4,none⟩=false:=ϧ;have I:Ϣ w ((w.alloc (.cells #[.string d,vI m,vI k,vS q (ϲ r) a,.bool f] 166)).alloc (.cells #[.string ⟨#[]⟩,vI 0,vI 0,vS none 0 0,.bool false] 166)):=by
  repeat (first|exact bR|(refine DH ?_ Ϫ _))
 have ak:((w.alloc (.cells #[.string d,vI m,vI k,vS q (ϲ r) a,.bool f] 166)).alloc (.cells #[.string ⟨#[]⟩,vI 0,vI 0,vS none 0 0,.bool false] 166)).heap.size=w.heap.size+1+1:=ϥ
 cases q with
 |none=>
  have h0:r=[]:=by
   cases r with
   |nil=>rfl
   |cons c r=>
    obtain⟨_,_,e,_⟩:=D 0 ϥ
    cases e
  subst h0;simp only[NS]at L⊢;clear D N H G;go_enter func295,ntmps295;go_wp2_with (at_builtin;refine Gv rfl (.const (vS none 0 0)) (.tmp 4) 80 rfl w.heap.size 119 E 3 a underlying80 F.o.1 _ _ _ rfl (KX _ _ _ _) rfl ?_);exact CD (v:=.agg #[.string d,vI m,vI k,vS none 0 0,.bool f]) (by simp[results,results295,go_sem]) rfl ⟨⟨none,0,rfl,KX _ _ _ _⟩,by
   repeat (first|exact bR|(refine DH ?_ Ϫ _))⟩
 |some A=>
  have ah:ϡ (∀j u,(celCells r)[j]? =some u->((w.alloc (.cells #[.string d,vI m,vI k,vS (some A) n a,.bool f] 166)).alloc (.cells #[.string ⟨#[]⟩,vI 0,vI 0,vS none 0 0,.bool false] 166)).cell? (A.add j)=some u):=by
   intro j u O;rw[H]at I;have J:0<ϲ r:=by
    rcases dP (ϲ r) with h|h
    ·rw[aL.1 h]at O;cases O
    ·exact h
   obtain⟨b,o,e,_⟩:=D 0 J
   cases e
   exact cLz I (FH D j u O)
  rw[H]at N Q R S L T g0 g1 g2 g3 g4 V X Y Z aa ab I ak⊢;clear D H;go_enter func295,ntmps295;go_wp2_with (at_builtin;refine Vc _ rfl (.const (vS none 0 0)) (.tmp 4) 80 rfl (w.heap.size+1+1) 119 E (.agg #[vI 0,vI 0,.string ⟨#[]⟩]) 3 32 underlying80 F.o.1 F.o.2.1 F.o.2.2.1 F.o.2.2.2 rfl Ϥ _ _ _ rfl (KX _ _ _ _) A n a (celCells r) rfl (by rw[Eb,G.o]) ah.o (Fc r) ϭ ϣ ϥ ?_;intro v2 z K aj aq;have y:Below ((w.alloc (.cells #[.string d,vI m,vI k,vS (some A) n a,.bool f] 166)).alloc (.cells #[.string ⟨#[]⟩,vI 0,vI 0,vS none 0 0,.bool false] 166)).heap.size ((w.alloc (.cells #[.string d,vI m,vI k,vS (some A) n a,.bool f] 166)).alloc (.cells #[.string ⟨#[]⟩,vI 0,vI 0,vS none 0 0,.bool false] 166)) z:=WK aj;have y0:=cLz y Q;have y1:=cLz y R;have y2:=cLz y S;have y3:=cLz y L;have y4:=cLz y T;have z0:=cLz y g0;have z1:=cLz y g1;have z2:=cLz y g2;have z3:=cLz y g3;have z4:=cLz y g4;rw[Fr,JV]at K;obtain⟨P,U,ac⟩:=J4 (show AF z _ v2 r from(by unfold AF;rw[G.o];exact K));rw[G.o]at ac;subst ac;have h0:z.frozen? ⟨w,3,none⟩=false:=(by rw[y.frozen (p:=⟨w,3,none⟩) ϩ];exact V);have h1:z.frozen? ⟨w+1,0,none⟩=false:=(by rw[y.frozen (p:=⟨w+1,0,none⟩) ϩ];exact X);have al:z.frozen? ⟨w+1,1,none⟩=false:=(by rw[y.frozen (p:=⟨w+1,1,none⟩) ϩ];exact Y);have am:z.frozen? ⟨w+1,2,none⟩=false:=(by rw[y.frozen (p:=⟨w+1,2,none⟩) ϩ];exact Z);have an:z.frozen? ⟨w+1,3,none⟩=false:=(by rw[y.frozen (p:=⟨w+1,3,none⟩) ϩ];exact aa);have ao:z.frozen? ⟨w+1,4,none⟩=false:=(by rw[y.frozen (p:=⟨w+1,4,none⟩) ϩ];exact ab));have ai:Ϣ w z:=bT I y;refine CD (v:=.agg #[.string d,vI m,vI k,vS P n U,.bool f]) (by simp[results,results295,go_sem,y0,y1,y2,y3,y4,z0,z1,z2,z3,z4]) rfl ⟨⟨P,U,rfl,?_⟩,by
   repeat (first|exact ai|(refine KZ ?_ ϩ _))⟩
  unfold AF;rw[G.o];refine D7 (A4 K (λg hg=>?_)) ϣ;have ap:=(AL K hg).1
  repeat rw[CB _ _ _ _ ϩ]
theorem Eu(w:World)(a b c d e:Value)(t:TypeId):∀j u,[a,b,c,d,e][j]? =some u->(w.alloc (.cells #[a,b,c,d,e] t)).cell? ((⟨w,0,none⟩:Addr).add j)=some u:=by
 intro j u f;rw[Di]
 match j,f with
 |0,f=>simp at f;subst f;simp[go_sem]
 |1,f=>simp at f;subst f;simp[go_sem]
 |2,f=>simp at f;subst f;simp[go_sem]
 |3,f=>simp at f;subst f;simp[go_sem]
 |4,f=>simp at f;subst f;simp[go_sem]
 |(n+5),f=>simp at f
def MZ{P:Ent->Bool}{k:Nat}(h:k<ϲ l):(l.take (k+1)).filter P=(l.take k).filter P++(if P (l.getD k ϰ)=true then [l.getD k ϰ]else []):=by
 rw[M1 h,eM];have e:l.getD k ϰ=l[k]:=by rw[gDe,gEe h];rfl
 rw[e]
 congr 1
 simp only[filter_cons,filter_nil]
theorem WL(m:FuncId)(eg:∀af w,(callFunc m af).run prog w= .ok (.enter m af) w)(O:Array Value)(P:Ent->Bool)(a:Option Addr)(cap:Nat)(d:List EM)(l:List Ent)(w:World)(hl:ϲ l<=100000)(ha:Cn w a d)(hr:ERs w d l)(aj:∀x∈l,ϲ x.row<=1000000)
 (H:∀i w1,i<ϲ l->Ϣ w w1->Calls prog m (#[(d.getD i ϰ).val]++O) w1 λe w'=>e= .returned (.bool (P (l.getD i ϰ)))/\Ϣ w1 w'):
 Calls prog 281 #[vS a (ϲ l) cap,.func (.func m) #[] O] w λe w'=>(∃v f,e= .returned v/\OE w' w v f (l.filter P))/\Ϣ w w':=by
 obtain⟨K,ag,am,an,ao⟩:=IR Ul;have L:ϡ (prog.info? 166=some K/\K.zero=some (.agg #[.string ⟨#[]⟩,vI 0,vI 0,vS none 0 0,.bool false])/\K.size=5/\K.bytes=64):=⟨ag,am,an,ao⟩;clear ag am an ao;have HH:ϡ (∀i w1,i<ϲ l->Ϣ w w1->CT m (#[(d.getD i ϰ).val]++O) w1 λe w'=>e= .returned (.bool (P (l.getD i ϰ)))/\Ϣ w1 w'):=H;have N:ϡ (Cn w a d/\ERs w d l/\∀x∈l,ϲ x.row<=1000000):=⟨ha,hr,aj⟩;clear H ha hr aj;obtain⟨n,hn⟩:∃n,ϲ l=n:=⟨_,rfl⟩;have HN:ϡ (ϲ l=n):=hn;rw[hn]at hl⊢;clear hn;go_enter func281,ntmps281;go_wp2
 go_loopw [5,10] (λx i wr=> ∃(k:Nat) (f:List EM),k<=n/\i=vI k/\OE wr w x f ((l.take k).filter P)/\Ϣ w wr) (λ_ i _=>n - (intOf i).toNat)
 case atStart=>exact⟨0,[],At _,rfl,DJ nR,bR⟩
 case round=>
  obtain⟨k,f,hk,rfl,ah,y⟩:=hrel;have J:ϡ (OE wr w u5 f ((l.take k).filter P)):=ah;clear ah;by_cases aw:k<n
  ·have F:k<ϲ l:=by rw[HN.o];exact aw
   obtain⟨b,o,e,x1,x2,x3,x4,x5⟩:=N.o.1 k (by rw[N.o.2.1.1];exact F);subst e;obtain⟨q1,q2,q3,q4,q5⟩:=lk5 y x1 x2 x3 x4 x5;clear x1 x2 x3 x4 x5;have i1:=nn0 k;have i2:(k:Int)<(n:Int):=ϣ;have j:ϡ (∀w1,Ϣ wr w1->CT m (#[(d.getD k ϰ).val]++O) w1 λe w'=>e= .returned (.bool (P (l.getD k ϰ)))/\Ϣ w1 w'):=λw1 Z=>HH.o k w1 F (bT y Z);have ac:ER w (d.getD k ϰ) (l.getD k ϰ):=N.o.2.1.2 k F;have G:ϲ (l.getD k ϰ).row<=1000000:=N.o.2.2 _ (by rw[gDe,gEe F];exact GE F);have D:ϡ (∀w1,Ϣ wr w1->CT 295 #[(d.getD k ϰ).val] w1 λr w'=>(∃ad c,r= .returned ((d.getD k ϰ).to (ad,ϲ (l.getD k ϰ).row,c)).val/\AF w' w1 (vS ad (ϲ (l.getD k ϰ).row) c) (l.getD k ϰ).row)/\Ϣ w1 w'):=λw1 Z=>Hu _ _ w1 (ac.below (bT y Z)) G;have I:ϡ ((l.take (k+1)).filter P=(l.take k).filter P++(if P (l.getD k ϰ)=true then [l.getD k ϰ]else [])):=MZ F;have A:ϡ (ER w (d.getD k ϰ) (l.getD k ϰ)):=ac;have au:ϲ f<=100000:=by
    have h1:=J.o.len;have h2:=aZ P (l.take k);rw[DA]at h2;omega
   obtain⟨Q,al⟩:=nM (l.getD k ϰ);rw[al]at j D I A;obtain⟨⟨T,Y,X,⟨r1,r2,r3⟩,U⟩,hz⟩:∃z,d.getD k ϰ=z:=⟨_,rfl⟩;rw[hz]at q1 q2 q3 q4 q5 j D A;unfold EM.val EM.to hdV at D;unfold EM.val hdV at j;unfold hdV at q4;dsimp only at q1 q2 q3 q4 q5 j D;clear hz al ac G;have ak:=y.size;obtain⟨rl,G⟩:=nM (ϲ Q.row);have aq:ϡ (ϲ Q.row=rl):=G;rw[G]at D;clear G
   cases hp:P Q with
   |false=>
    rw[hp]at j I;go_wp2_with (go_at_fn m;refine(j.o _ Ϯ).mono ?_;rintro e w1 ⟨rfl,q⟩;have E:Ϣ wr w1:=Ϯ.trans (q.mono ϥ));go_roundw;exact⟨k+1,f,ϣ,by go_num,by rw[I.o];simpa using J.o.below E,y.trans (E.mono ak)⟩;simp[intOf];omega
   |true=>
    rw[hp]at j I;obtain⟨V,ab⟩:=nM (ϲ f);have R:ϡ (ϲ f=V):=ab;rw[ab]at au;clear ab;go_wp2_with (first
     |(go_at_fn m;refine(j.o _ Ϯ).mono ?_;rintro e w1 ⟨rfl,q⟩;have E:Ϣ wr w1:=Ϯ.trans (q.mono ϥ);have y1:w1.cell? ⟨wr.heap.size,0,none⟩=some (.string T):=cLz q ϧ;have y2:w1.cell? ⟨wr.heap.size,1,none⟩=some (vI Y):=cLz q ϧ;have y3:w1.cell? ⟨wr.heap.size,2,none⟩=some (vI X):=cLz q ϧ;have y4:w1.cell? ⟨wr.heap.size,3,none⟩=some (vS r1 r2 r3):=cLz q ϧ;have y5:w1.cell? ⟨wr.heap.size,4,none⟩=some (.bool U):=cLz q ϧ)
     |(go_at_call 295;refine(D.o _ E).mono ?_;rintro e w2 ⟨⟨ae,c2,rfl,ax⟩,ar⟩;have aa:Ϣ wr w2:=bT E ar;have ap:ϡ (w2.ownsRow w.heap.size 166 5 u5 V (Ap f)):=(by have h:=own_below J.o.own aa;rw[R.o]at h;exact h);have a1:w.heap.size<=w2.heap.size:=B0 ak aa.size)
     |(at_builtin;refine Vc _ rfl (.tmp 17) (.tmp 20) 33 rfl w.heap.size 166 K (.agg #[.string ⟨#[]⟩,vI 0,vI 0,vS none 0 0,.bool false]) 5 64 underlying33 L.o.1 L.o.2.1 L.o.2.2.1 L.o.2.2.2 rfl Ϥ _ _ _ rfl (WD ap.o _) ⟨w2.heap.size,0,none⟩ 1 1 [.string T,vI Y,vI X,vS ae rl c2,.bool U] rfl rfl (Eu _ _ _ _ _ _ _) (by intro u hu;simp at hu;rcases hu with rfl|rfl|rfl|rfl|rfl<;>rfl) ϭ ϣ Ϩ ?_;intro v3 w3 ai av a0))
    obtain⟨g3,c3,ay⟩:∃g c,v3=vS (some ⟨g,0,none⟩) (V+1) c:=by
     rcases ai.2 with⟨_,h0⟩|⟨g,cap,az,rfl,_⟩
     ·exact absurd h0 ϣ
     ·exact⟨_,_,rfl⟩
    subst ay;have S:=JC (e:=⟨T,Y,X,(ae,rl,c2),U⟩) (x:=Q) (g:=g3) (cap2:=c3) J.o aa ⟨A.o.key,A.o.time,A.o.seq,A.o.met,aq.o.symm,by unfold hdV;dsimp only;exact D7 ax (by have:=E.size;omega)⟩ (by rw[R.o];exact ai) av;rw[R.o]at S;go_roundw;exact⟨k+1,_,ϣ,by go_num,by rw[I.o];simpa using S.1,y.trans S.2⟩;simp[intOf];omega
  ·have HT:ϡ (l.take k=l):=KI (by rw[HN.o];omega);go_wp2;go_ret;exact⟨⟨_,f,rfl,by have:=J.o;rw[HT.o]at this;exact this⟩,y⟩
def Am(w:World)(b:Nat)(t:TypeId):Prop:=∃cur f,w.heap[b]? =some (.cells cur t f)
def A1(h:Am w b t)(a:w'.heap[b]? =w.heap[b]?):Am w' b t:=by
 obtain⟨c,f,h⟩:=h;exact⟨c,f,a.trans h⟩
def A7(h:Am w b t):b<w.heap.size:=by
 obtain⟨c,f,h⟩:=h;exact(GS.1 h).1
def Ak(h:Am w b t)(a:Ϣ w w'):Am w' b t:=A1 h (a.block b (A7 h))
def tyAt_apart{d:Nat}{j:TypeId}(h:Am w b t)(a:Am w d j)(ht:t≠j):b≠d:=by
 rintro rfl;obtain⟨c,f,h⟩:=h;obtain⟨m,q,a⟩:=a;rw[h]at a;injection a with e
 injection e with _ k _
 exact ht k
def tyAt_set(h:Am w b t)(p:Addr)(v:Value):Am (w.setCell p v) b t:=by
 obtain⟨c,f,h⟩:=h;by_cases e:p.block=b
 ·subst e;exact⟨if p.spot.isSome=true then c else c.setIfInBounds p.off v,f,by simp[World.setCell,fY,h]⟩
 ·exact⟨c,f,(CB w p b v (λh=>e h.symm)).trans h⟩
def Az(h:w.ownsRow base e s v n xs)(a:v.ownBlock=some g):Am w g e:=by
 rcases h.2 with⟨rfl,_⟩|⟨b,d,f,rfl,_,c,_⟩
 ·cases a
 ·cases a;exact⟨_,_,c⟩
def OE.other{a:List EM}(h:OE w base v a l)(f:w.heap.size<=w'.heap.size)(c:∀g,Am w g 166\/Am w g 119->w'.heap[g]? =w.heap[g]?):OE w' base v a l:=
 h.same f (λg k t d j=>by
  rcases j with⟨_,rfl⟩|rfl
  ·exact c g (.inl ⟨_,_,d⟩)
  ·exact c g (.inr ⟨_,_,d⟩))
def apB(a b:Value):Prop:=∀g,a.ownBlock=some g->b.ownBlock≠some g
structure OB(w:World)(base:Nat)(x:BX)(b:Buf):Prop where
 low:base<=w.heap.size
 mem:OE w base (hdV x.m.1) x.m.2 b.mem
 hds:w.ownsRow base 33 1 (vS x.ra (ϲ x.rs) x.rc) (ϲ x.rs) (x.rs.map λp=>hdV p.1)
 rlen:ϲ x.rs=ϲ b.runs
 runs:∀i,i<ϲ b.runs->OE w base (hdV (x.rs.getD i ϰ).1) (x.rs.getD i ϰ).2 (b.runs.getD i ϰ)
 two:((x.m::x.rs).map λp=>hdV p.1).Pairwise apB
def OB.below{x:BX}{b:Buf}(h:OB w base x b)(a:Ϣ w w'):OB w' base x b:=
 ⟨B0 h.low a.size,h.mem.below a,own_below h.hds a,h.rlen,λi c=>(h.runs i c).below a,h.two⟩
def BX.more(x:BX)(g cap:Nat)(p:Part):BX:=⟨some ⟨g,0,none⟩,cap,x.m,x.rs++[p]⟩
def Buf.more(b:Buf)(l:List Ent):Buf:=⟨b.lim,b.mem,b.runs++[l]⟩
theorem AeV{x:BX}{b:Buf}(h:OB w base x b)(A:Ϣ w w1)(y:OE w1 w (hdV p.1) p.2 l)
 (G:w2.ownsRow base 33 1 (vS (some ⟨g,0,none⟩) (ϲ x.rs+1) cap2) (ϲ x.rs+1) ((x.rs.map λp=>hdV p.1)++[hdV p.1])) (f:w1.heap.size<=w2.heap.size)
 (k:∀b,Am w1 b 166\/Am w1 b 119->w2.heap[b]? =w1.heap[b]?):OB w2 base (x.more g cap2 p) (b.more l):=by
 have j:=h.below A;refine⟨B0 j.low f,j.mem.other f k,?_,?_,λi d=>?_,?_⟩
 ·unfold BX.more;dsimp only;rw[lAp,DQ];exact G
 ·unfold BX.more Buf.more;dsimp only;rw[lAp,lAp,h.rlen];rfl
 ·unfold BX.more Buf.more at *;dsimp only at *;rw[lAp]at d;by_cases m:i<ϲ b.runs
  ·rw[Ba (by rw[h.rlen];exact m),Ba m];exact(j.runs i m).other f k
  ·have:i=ϲ b.runs:=by simp at d;omega
   subst this;rw[Bf (by rw[h.rlen];exact HU _),Bf nR,h.rlen,cW];exact(y.other f k).mono h.low
 ·unfold BX.more;dsimp only;rw[show(x.m::(x.rs++[p]))=(x.m::x.rs)++[p]from rfl,DQ];refine eO.2 ⟨h.two,ϥ,λa ha c D g u=>?_⟩;have E:c=hdV p.1:=by simpa using D
  subst E;intro F;have H:=(AL y.own F).1;obtain⟨q,r,rfl⟩:=DS.1 ha;rcases E3.1 r with rfl|r
  ·have:=(AL h.mem.own u).2;omega
  ·obtain⟨i,d,rfl⟩:=LT r;have z:=h.runs i (by rw[<-h.rlen];exact d);have e:x.rs.getD i ϰ=x.rs[i]:=by rw[gDe,gEe d];rfl
   rw[e]at z;have:=(AL z.own u).2;omega
structure KSt(W:World)(C NB base:Nat)(x:BX)(b:Buf):Prop where
 ob:OB W base x b
 c0:W.cell? ⟨NB,0,none⟩=some (vI b.lim)
 c1:W.cell? ⟨NB,1,none⟩=some (hdV x.m.1)
 c2:W.cell? ⟨NB,2,none⟩=some (vS x.ra (ϲ x.rs) x.rc)
 f2:W.frozen? ⟨NB,2,none⟩=false
 ty:Am W NB 36
 r0:W.cell? ⟨C,0,none⟩=some (vI 0)
 r1:W.cell? ⟨C,1,none⟩=some (vS none 0 0)
 r2:W.cell? ⟨C,2,none⟩=some (vS none 0 0)
 g0:W.frozen? ⟨C,0,none⟩=false
 g1:W.frozen? ⟨C,1,none⟩=false
 g2:W.frozen? ⟨C,2,none⟩=false
 rt:Am W C 36
 ne:C<NB
 up:base<=C
def KSt.below{W':World}{x:BX}{b:Buf}(h:KSt W C NB base x b)(a:Ϣ W W'):KSt W' C NB base x b:=by
 have d:=A7 h.ty;have c:=A7 h.rt;exact⟨h.ob.below a,cLz a h.c0,cLz a h.c1,cLz a h.c2,(a.frozen (p:=⟨NB,2,none⟩) d).trans h.f2,Ak h.ty a,cLz a h.r0,cLz a h.r1,cLz a h.r2,(a.frozen (p:=⟨C,0,none⟩) c).trans h.g0,(a.frozen (p:=⟨C,1,none⟩) c).trans h.g1,(a.frozen (p:=⟨C,2,none⟩) c).trans h.g2,Ak h.rt a,h.ne,h.up⟩
def AZ{p:Addr}(h:w'.heap[p.block]? =w.heap[p.block]?):w'.frozen? p=w.frozen? p:=by
 unfold World.frozen?;rw[h]
theorem AcB{r m:World}{x:BX}{b:Buf}(h:KSt W C NB base x b)(z:Ϣ W r)(J:OE r W (hdV p.1) p.2 l)
 (D:m.ownsRow base 33 1 (vS (some ⟨g,0,none⟩) (ϲ x.rs+1) cap2) (ϲ x.rs+1) ((x.rs.map λp=>hdV p.1)++[hdV p.1])) (A:(r.alloc o).grownBy m (Value.slice x.ra (ϲ x.rs) x.rc).ownBlock):
 KSt (m.setCell ⟨NB,2,none⟩ (vS (some ⟨g,0,none⟩) (ϲ x.rs+1) cap2)) C NB base (x.more g cap2 p) (b.more l)/\Below base W (m.setCell ⟨NB,2,none⟩ (vS (some ⟨g,0,none⟩) (ϲ x.rs+1) cap2)):=by
 have d:=h.below z;have S:r.heap.size<=m.heap.size:=by have:=A.size;simp at this;omega
 have y:∀c t,Am r c t->t≠33->m.heap[c]? =r.heap[c]? :=λc t f K=>by
  have I:=A7 f;rw[A.block c Ϩ (λe=>?_)]
  ·exact LE _ _ c I
  ·exact tyAt_apart f (Az d.ob.hds e.symm) K rfl
 have u:=y NB _ d.ty Ϥ;have q:=y C _ d.rt Ϥ;have P:=(cOb (a:=⟨NB,0,none⟩) u).trans d.c0;have Q:=(cOb (a:=⟨NB,1,none⟩) u).trans d.c1;have E:=(cOb (a:=⟨NB,2,none⟩) u).trans d.c2;have L:=(cOb (a:=⟨C,0,none⟩) q).trans d.r0;have N:=(cOb (a:=⟨C,1,none⟩) q).trans d.r1;have O:=(cOb (a:=⟨C,2,none⟩) q).trans d.r2;have R:=h.ne;have j:∀c v,c≠NB->(m.setCell ⟨NB,2,none⟩ v).heap[c]? =m.heap[c]? :=λc v f=>CB _ _ _ _ f;refine⟨⟨AeV h.ob z J (A4 D (λk G=>j k _ ?_)) (by simp[World.setCell];omega) (λc f=>?_),?_,?_,?_,?_,?_,?_,?_,?_,?_,?_,?_,?_,h.ne,h.up⟩,?_⟩
 ·exact λe=>tyAt_apart (Az D G) (A1 d.ty u) Ϥ e
 ·rcases f with f|f
  ·exact(j c _ (λe=>tyAt_apart f d.ty Ϥ e)).trans (y c _ f Ϥ)
  ·exact(j c _ (λe=>tyAt_apart f d.ty Ϥ e)).trans (y c _ f Ϥ)
 ·show _=some (Value.int .i64 b.lim);go_simp
 ·show _=some (hdV x.m.1);go_simp
 ·unfold BX.more;dsimp only;rw[lAp];exact JR _ _ _ E
 ·have:=(AZ (p:=⟨NB,2,none⟩) u).trans d.f2;go_simp
 ·exact tyAt_set (A1 d.ty u) _ _
 ·rw[cOb (a:=⟨C,0,none⟩) (j C _ ϣ)];exact L
 ·rw[cOb (a:=⟨C,1,none⟩) (j C _ ϣ)];exact N
 ·rw[cOb (a:=⟨C,2,none⟩) (j C _ ϣ)];exact O
 ·rw[AZ (p:=⟨C,0,none⟩) (j C _ ϣ),AZ (p:=⟨C,0,none⟩) q];exact d.g0
 ·rw[AZ (p:=⟨C,1,none⟩) (j C _ ϣ),AZ (p:=⟨C,1,none⟩) q];exact d.g1
 ·rw[AZ (p:=⟨C,2,none⟩) (j C _ ϣ),AZ (p:=⟨C,2,none⟩) q];exact d.g2
 ·exact A1 (A1 d.rt q) (j C _ ϣ)
 ·have H:=h.ob.low;have T:=h.up;have F:Below base W m:=((z.mono H).alloc d.ob.low o).grown A (by simp;have:=d.ob.low;omega) (λc f=>(AL d.ob.hds f).1);exact F.setCell ϩ _
end bf
