import Derived.Test.YtdohnkkbkfhphaaGreatPq6
set_option linter.all false
set_option maxHeartbeats 8000000
namespace Go.Proofs.YtdohnkkbkfhphaaGreat
open Go.Proofs.Tryz
namespace bf
open Go.ChangeShapes Go.WideShapes Go.ChangeAt Go.RowKit Go.Shelf
open vl
attribute [local go_sem] Oper.semAt_some
variable {B M b i n o : Nat} {W W' : World} {v : Value} {l : List Ent} {ps : List Plc}
def AS(x:Ent):Plc:=(x.key,x.time,x.seq)
theorem Rh{a b:Ent}:AS a=AS b↔CF a b:=by
 unfold AS CF
 simp[Prod.mk.injEq]
def hasB(l:List Ent)(p:Plc):Bool:=l.any fun x=>decide (AS x=p)
def Ea:Nat->Obj->Prop:=fun _ _=>True
theorem Ad:names Ea W b:=fun _ _=>trivial
theorem BF(h:Below n W W')(hn:W.heap.size<=n):Aj Ea W W':=fun b o h1 _ _=>(h.block b (by have:=(Array.getElem?_eq_some_iff.1 h1).1;omega)).trans h1
theorem EL{w V:World}{b:Buf}{x:BX}(h:bufAt w b x)(hb:Bwz w V)(B:Nat)(Pr:Nat->Obj->Prop)(h0:V.cell? ⟨B,0,none⟩=some (.int .i64 b.lim))(h1:V.cell? ⟨B,1,none⟩=some (hdV x.m.1))(h2:V.cell? ⟨B,2,none⟩=some (.slice x.ra x.rs.length x.rc))
 (hS:names Pr V B) (hlow:∀b,b<w.heap.size->names Pr V b)
 (hP1:∀b c f,V.heap.size<=b->Pr b (.cells c 29 f)) (hP2:∀b c f,V.heap.size<=b->Pr b (.cells c 110 f)):
 SD Tryz.prog 161 #[.pointer (some ⟨B,0,none⟩)] ((ems (x.m::x.rs)).map fun e=>#[e.val]) (Aj Pr) V:=
 SH B b.lim x.ra x.rc x.m x.rs Pr V (Wr (Ak h hb) h0 h1 h2) hS (fun a ha hx=>hlow _ (VH h ha hx)) (fun p hp a h0 ha=>by
  obtain⟨b',o,e,y,_⟩:=h.ems p hp 0 h0
  rw[ha]at e;cases e
  exact hlow _ (bLt _ _ y)) hP1 hP2
theorem Bs(h:Bwz W W'):KeepsFrom B W W':=⟨h.size,fun k o _ h1 _=>(h.block k (Array.getElem?_eq_some_iff.1 h1).1).trans h1⟩
theorem BS{D:Nat}{x:Obj}(h:W.cell? ⟨b,o,none⟩=some v)(hD:W.heap[D]? =some x)(hx:x.isCells=false)(o':Obj):(W.putObj D o').cell? ⟨b,o,none⟩=some v:=
 cell_kept h (grownBy_putObj' W D o') (fun r e=>by cases e;exact⟨x,hD,hx⟩)
theorem UQ(b:Buf)(x:BX)(p:Plc)(w:World)(h:bufAt w b x):
 Calls Tryz.prog 265 #[AQ b x,Bn p] w fun e w'=>e= .returned (.bool (hasB (Ab b) p))/\Bwz w w':=by
 have HB:Hid (bufAt w b x):=h
 have HE:=CR h
 have HER:Hid (ERs w (ems (x.m::x.rs)) (Ab b)):=HE
 obtain⟨L,hL⟩:=nM (Ab b)
 rw[hL]at HER⊢
 clear hL h HE
 obtain⟨R,hR⟩:=nM (hasB L p)
 have HRR:Hid (hasB L p=R):=hR
 rw[hR]
 clear hR
 obtain⟨ra,rc,⟨⟨m1,m2,m3⟩,ml⟩,rs⟩:=x
 obtain⟨lim,mem,runs⟩:=b
 obtain⟨pk,pt,ps⟩:=p
 unfold AQ hdV Bn
 dsimp only at HER⊢
 obtain⟨n,hn⟩:∃n,rs.length=n:=⟨_,rfl⟩
 have HN:Hid (rs.length=n):=hn
 rw[hn]
 clear hn
 refine(callsIn_wide (n:=0)).1 ?_
 refine callsIn_of_wp_marks func265 rfl trivial ?_ rfl
 simp only[ntmps265,List.size_toArray,List.length_cons,List.length_nil,Nat.reduceAdd,Nat.reduceSub,Array.replicate_succ,Array.replicate_zero,List.push_toArray,List.append_toArray,List.nil_append,List.cons_append]
 gi_wp2_with (refine⟨trivial,rfl,?_⟩;gi_at_call 113;refine(callsIn_wide.2 (FL _ _ _ rfl rfl rfl _)).mono ?_;rintro e w' ⟨rfl,rfl⟩)
 have V0:((((w.alloc (.cells #[.int .i64 lim,.slice m1 m2 m3,.slice ra n rc] 29)).alloc (.cells #[.string pk,.int .i64 pt,.int .i64 ps] 232)).alloc (.cells #[.bool false] 4)).alloc (.cells #[.int .i64 lim,.slice m1 m2 m3,.slice ra n rc] 29)).cell? ⟨w.heap.size+1,0,none⟩=some (.string pk):=by go_simp
 have V1:((((w.alloc (.cells #[.int .i64 lim,.slice m1 m2 m3,.slice ra n rc] 29)).alloc (.cells #[.string pk,.int .i64 pt,.int .i64 ps] 232)).alloc (.cells #[.bool false] 4)).alloc (.cells #[.int .i64 lim,.slice m1 m2 m3,.slice ra n rc] 29)).cell? ⟨w.heap.size+1,1,none⟩=some (.int .i64 pt):=by go_simp
 have V2:((((w.alloc (.cells #[.int .i64 lim,.slice m1 m2 m3,.slice ra n rc] 29)).alloc (.cells #[.string pk,.int .i64 pt,.int .i64 ps] 232)).alloc (.cells #[.bool false] 4)).alloc (.cells #[.int .i64 lim,.slice m1 m2 m3,.slice ra n rc] 29)).cell? ⟨w.heap.size+1,2,none⟩=some (.int .i64 ps):=by go_simp
 have V3:((((w.alloc (.cells #[.int .i64 lim,.slice m1 m2 m3,.slice ra n rc] 29)).alloc (.cells #[.string pk,.int .i64 pt,.int .i64 ps] 232)).alloc (.cells #[.bool false] 4)).alloc (.cells #[.int .i64 lim,.slice m1 m2 m3,.slice ra n rc] 29)).cell? ⟨w.heap.size+1+1,0,none⟩=some (.bool false):=by go_simp
 have V4:((((w.alloc (.cells #[.int .i64 lim,.slice m1 m2 m3,.slice ra n rc] 29)).alloc (.cells #[.string pk,.int .i64 pt,.int .i64 ps] 232)).alloc (.cells #[.bool false] 4)).alloc (.cells #[.int .i64 lim,.slice m1 m2 m3,.slice ra n rc] 29)).frozen? ⟨w.heap.size+1+1,0,none⟩=false:=by go_simp
 have V5:((((w.alloc (.cells #[.int .i64 lim,.slice m1 m2 m3,.slice ra n rc] 29)).alloc (.cells #[.string pk,.int .i64 pt,.int .i64 ps] 232)).alloc (.cells #[.bool false] 4)).alloc (.cells #[.int .i64 lim,.slice m1 m2 m3,.slice ra n rc] 29)).cell? ⟨w.heap.size+1+1+1,0,none⟩=some (.int .i64 lim):=by go_simp
 have V6:((((w.alloc (.cells #[.int .i64 lim,.slice m1 m2 m3,.slice ra n rc] 29)).alloc (.cells #[.string pk,.int .i64 pt,.int .i64 ps] 232)).alloc (.cells #[.bool false] 4)).alloc (.cells #[.int .i64 lim,.slice m1 m2 m3,.slice ra n rc] 29)).cell? ⟨w.heap.size+1+1+1,1,none⟩=some (.slice m1 m2 m3):=by go_simp
 have V7:((((w.alloc (.cells #[.int .i64 lim,.slice m1 m2 m3,.slice ra n rc] 29)).alloc (.cells #[.string pk,.int .i64 pt,.int .i64 ps] 232)).alloc (.cells #[.bool false] 4)).alloc (.cells #[.int .i64 lim,.slice m1 m2 m3,.slice ra n rc] 29)).cell? ⟨w.heap.size+1+1+1,2,none⟩=some (.slice ra n rc):=by go_simp
 have V8:Bwz w ((((w.alloc (.cells #[.int .i64 lim,.slice m1 m2 m3,.slice ra n rc] 29)).alloc (.cells #[.string pk,.int .i64 pt,.int .i64 ps] 232)).alloc (.cells #[.bool false] 4)).alloc (.cells #[.int .i64 lim,.slice m1 m2 m3,.slice ra n rc] 29)):=by
  repeat (first|exact bR|(refine Below.alloc ?_ (by simp<;>omega) _))
 have V9:((((w.alloc (.cells #[.int .i64 lim,.slice m1 m2 m3,.slice ra n rc] 29)).alloc (.cells #[.string pk,.int .i64 pt,.int .i64 ps] 232)).alloc (.cells #[.bool false] 4)).alloc (.cells #[.int .i64 lim,.slice m1 m2 m3,.slice ra n rc] 29)).heap.size=w.heap.size+1+1+1+1:=by simp
 generalize ((((w.alloc (.cells #[.int .i64 lim,.slice m1 m2 m3,.slice ra n rc] 29)).alloc (.cells #[.string pk,.int .i64 pt,.int .i64 ps] 232)).alloc (.cells #[.bool false] 4)).alloc (.cells #[.int .i64 lim,.slice m1 m2 m3,.slice ra n rc] 29))=V at *
 have hit:=EL HB.out V8 (w.heap.size+1+1+1) Ea V5 V6 (by rw[HN.out];exact V7) Ad (fun _ _=>Ad) (fun _ _ _ _=>trivial) (fun _ _ _ _=>trivial)
 dsimp only at hit
 obtain⟨E,hE⟩:=nM (ems ((((m1,m2,m3):Hdr),ml)::rs))
 rw[hE]at hit HER
 clear hE
 refine Cq (gf:=161) (lb:=#[.pointer (some ⟨w.heap.size+1+1+1,0,none⟩)]) rfl (enters_of func161 (by kernel_rfl) rfl) hit bR (fun x hx=>by obtain⟨p,_,rfl⟩:=List.mem_map.1 hx;rfl) (fun h k=>Aj.trans h k) (fun W l o o' _ h ho=>Aj.put W l o o' h ho)
  (fun i X=>(∀j,j<i->AS (L.getD j default)≠(pk,pt,ps))/\Aj Ea V X/\X.frozen? ⟨w.heap.size+1+1,0,none⟩=false/\Bwz w X) (fun c X=>c= .ret/\true=R/\X.cell? ⟨w.heap.size+1+1,0,none⟩=some (.bool true)/\Bwz w X)
  (fun i X X' row hs hg hr=>⟨hs.1,hs.2.1.grown hg (fun r e=>(hr r e).2),(frozen_kept (hs.2.1.cell Ad V3) hg (fun r e=>(hr r e).2)).trans hs.2.2.1,Cj hs.2.2.2 nR (by omega) hg hr⟩)
  (fun c X X' row hs hg hr=>⟨hs.1,hs.2.1,cell_kept hs.2.2.1 hg (fun r e=>(hr r e).2),Cj hs.2.2.2 nR (by omega) hg hr⟩)
  ⟨fun j hj=>absurd hj (Nat.not_lt_zero j),Aj.refl _ _,V4,V8⟩
  (fun i a' X=> ∃B,a'={tmps:=#[.agg #[.int .i64 lim,.slice m1 m2 m3,.slice ra n rc],.agg #[.string pk,.int .i64 pt,.int .i64 ps],.pointer (some ⟨w.heap.size,0,none⟩),.pointer (some ⟨w.heap.size+1,0,none⟩),.pointer (some ⟨w.heap.size+1+1,0,none⟩),.pointer (some ⟨B,0,none⟩),.agg #[.int .i64 lim,.slice m1 m2 m3,.slice ra n rc],.func (.func 161) #[] #[.pointer (some ⟨w.heap.size+1+1+1,0,none⟩)],(E.getD i default).val,undef,undef,undef,undef],defers:=[]}/\X.cell? ⟨B,0,none⟩=some (.string (E.getD i default).key)/\X.cell? ⟨B,1,none⟩=some (.int .i64 (E.getD i default).time)/\X.cell? ⟨B,2,none⟩=some (.int .i64 (E.getD i default).seq)/\X.cell? ⟨B,3,none⟩=some (hdV (E.getD i default).row)/\X.cell? ⟨B,4,none⟩=some (.bool (E.getD i default).met))
  (fun i a' u X X' row hs hg hr=>by
   obtain⟨B,h1,h2,h3,h4,h5,h6⟩:=hs
   exact⟨B,h1,cell_kept h2 hg (fun r e=>(hr r e).2),cell_kept h3 hg (fun r e=>(hr r e).2),cell_kept h4 hg (fun r e=>(hr r e).2),cell_kept h5 hg (fun r e=>(hr r e).2),cell_kept h6 hg (fun r e=>(hr r e).2)⟩) ?assign ?body ?done ?stop
 case assign=>
  intro l' k x X K hx hi hK
  obtain⟨hk,hxe⟩:=List.getElem?_eq_some_iff.1 hx
  rw[lMp]at hk
  rw[List.getElem_map]at hxe
  subst hxe
  have hd:E.getD k default=E[k]:=by rw[gDe,gEe hk];rfl
  have hK2:=hK
  rw[hd]at hK2
  clear hK hd hx
  obtain⟨⟨ek,et,es,⟨r1,r2,r3⟩,em⟩,hz⟩:∃z,E[k]=z:=⟨_,rfl⟩
  rw[hz]at hK2⊢
  unfold EM.val hdV at hK2⊢
  dsimp only at hK2⊢
  obtain⟨j1,j2,j3,j4⟩:=hi
  gi_wp2
  have lX:w.heap.size+1+1<X.heap.size:=bLt _ _ (j2.cell Ad V3)
  exact hK2 _ _ ((KeepsOthers.alloc _ _).from _) (Aj.alloc _ _) ⟨j1,j2.trans (Aj.alloc _ _),by go_simp,j4.alloc j4.size _⟩ ⟨X.heap.size,rfl,by go_simp,by go_simp,by go_simp,by go_simp,by go_simp⟩
 case body=>
  intro l' i x a' X hx hl' hrec hIi hax
  obtain⟨j1,j2,j3,j4⟩:=hIi
  obtain⟨B,hax,b0,b1,b2,b3,b4⟩:=hax
  subst hax
  obtain⟨hi,_⟩:=List.getElem?_eq_some_iff.1 hx
  rw[lMp]at hi
  have hEL:=HER.out.1
  have her:=HER.out.2 i (by omega)
  have KP:Hid (∀w1,Calls Tryz.prog 186 #[(E.getD i default).val] w1 fun r w'=>r= .returned (.agg #[.string (E.getD i default).key,.int .i64 (E.getD i default).time,.int .i64 (E.getD i default).seq])/\Bwz w1 w'):=fun w1=>Fy _ w1
  have hpl:AS (L.getD i default)=((E.getD i default).key,(E.getD i default).time,(E.getD i default).seq):=by unfold AS;rw[her.key,her.time,her.seq]
  have HMEM:Hid (L.getD i default∈L):=by show _∈_;rw[gDe,gEe (by omega)];simp
  obtain⟨⟨ek,et,es,⟨r1,r2,r3⟩,em⟩,hz⟩:∃z,E.getD i default=z:=⟨_,rfl⟩
  rw[hz]at KP b0 b1 b2 b3 b4 hpl⊢
  unfold EM.val hdV at KP
  unfold hdV at b3
  dsimp only at KP b0 b1 b2 b3 b4 hpl
  have HPL:Hid (AS (L.getD i default)=(ek,et,es)):=hpl
  have c0:=j2.cell Ad V0
  have c1:=j2.cell Ad V1
  have c2:=j2.cell Ad V2
  have c3:=j2.cell Ad V3
  have lX:w.heap.size+1+1<X.heap.size:=bLt _ _ c3
  have hmx:Tryz.prog.follows .mixedOrders=true:=by kernel_rfl
  clear hz hpl her hEL hx
  by_cases hE:(ek,et,es)=(pk,pt,ps)
  ·have HE:Hid (true=R):=by
    show _=_
    rw[<-HRR.out]
    exact(List.any_eq_true.2 ⟨_,HMEM.out,by rw[HPL.out];simpa using hE⟩).symm
   injection hE with e1 e23
   injection e23 with e2 e3
   subst e1 e2 e3
   gi_wp2
   gi_region_with_o (refine⟨trivial,rfl,?_⟩;gi_at_call 186;refine(CallsIn.inRound l' (callsIn_wide.2 (KP.out _))).mono ?_;rintro e w2 ⟨rfl,hb2⟩;have k0:=cLz hb2 c0;have k1:=cLz hb2 c1;have k2:=cLz hb2 c2;have k3:=cLz hb2 c3;have kf:w2.frozen? ⟨w.heap.size+1+1,0,none⟩=false:=(by rw[hb2.frozen (p:=⟨w.heap.size+1+1,0,none⟩) lX];exact j3);have hb3:Bwz X w2:=bR.drew.trans hb2)
   all_goals
    gi_wp2
    exact⟨(Bs hb3).trans ((KeepsOthers.setCell _ _ _).from _),rfl,HE.out,World.cell?_setCell_same _ _ _ k3,(j4.trans (hb3.mono j4.size)).setCell (by dsimp only;omega) _⟩
  ·have hno:((ek.toList==pk.toList)&&((et==pt)&&(es==ps)))=false:=by
    rw[bytes_beq]
    by_cases e1:ek=pk
    ·by_cases e2:et=pt
     ·have e3:es≠ps:=fun e3=>hE (by rw[e1,e2,e3])
      simp[e1,e2,e3]
     ·simp[e1,e2]
    ·simp[e1]
   have HNE:Hid (AS (L.getD i default)≠(pk,pt,ps)):=by show _≠_;rw[HPL.out];exact hE
   by_cases t1:ek.toList=pk.toList
   ·by_cases t2:et=pt
    ·have t3:(es==ps)=false:=by
      rw[beq_eq_false_iff_ne]
      intro e3
      have e1:ek=pk:=by have:=bytes_beq ek pk;rw[t1]at this;simpa using this.symm
      exact hE (by rw[e1,t2,e3])
     subst t2
     gi_wp2
     gi_region_with_o (refine⟨trivial,rfl,?_⟩;gi_at_call 186;refine(CallsIn.inRound l' (callsIn_wide.2 (KP.out _))).mono ?_;rintro e w2 ⟨rfl,hb2⟩;have k0:=cLz hb2 c0;have k1:=cLz hb2 c1;have k2:=cLz hb2 c2;have hb3:Bwz X w2:=bR.drew.trans hb2)
     all_goals
      gi_wp2
      exact⟨Bs hb3,BF hb3 nR,fun j hj=>by
       rcases Nat.lt_succ_iff_lt_or_eq.1 hj with h|h
       ·exact j1 j h
       ·rw[h];exact HNE.out,j2.trans (BF hb3 nR),by rw[hb3.frozen (p:=⟨w.heap.size+1+1,0,none⟩) lX];exact j3,j4.trans (hb3.mono j4.size)⟩
    ·have t2':(et==pt)=false:=by simpa using t2
     gi_wp2
     gi_region_with_o (refine⟨trivial,rfl,?_⟩;gi_at_call 186;refine(CallsIn.inRound l' (callsIn_wide.2 (KP.out _))).mono ?_;rintro e w2 ⟨rfl,hb2⟩;have k0:=cLz hb2 c0;have k1:=cLz hb2 c1;have k2:=cLz hb2 c2;have hb3:Bwz X w2:=bR.drew.trans hb2)
     all_goals
      gi_wp2
      exact⟨Bs hb3,BF hb3 nR,fun j hj=>by
       rcases Nat.lt_succ_iff_lt_or_eq.1 hj with h|h
       ·exact j1 j h
       ·rw[h];exact HNE.out,j2.trans (BF hb3 nR),by rw[hb3.frozen (p:=⟨w.heap.size+1+1,0,none⟩) lX];exact j3,j4.trans (hb3.mono j4.size)⟩
   ·skip
    gi_wp2
    gi_region_with_o (refine⟨trivial,rfl,?_⟩;gi_at_call 186;refine(CallsIn.inRound l' (callsIn_wide.2 (KP.out _))).mono ?_;rintro e w2 ⟨rfl,hb2⟩;have k0:=cLz hb2 c0;have k1:=cLz hb2 c1;have k2:=cLz hb2 c2;have hb3:Bwz X w2:=bR.drew.trans hb2)
    all_goals
     gi_wp2
     exact⟨Bs hb3,BF hb3 nR,fun j hj=>by
      rcases Nat.lt_succ_iff_lt_or_eq.1 hj with h|h
      ·exact j1 j h
      ·rw[h];exact HNE.out,j2.trans (BF hb3 nR),by rw[hb3.frozen (p:=⟨w.heap.size+1+1,0,none⟩) lX];exact j3,j4.trans (hb3.mono j4.size)⟩
 case done=>
  rintro D X hD ⟨j1,j2,j3,j4⟩ hK
  have c3:=j2.cell Ad V3
  have HE:Hid (false=R):=by
   show _=_
   rw[<-HRR.out]
   symm
   rw[lMp]at j1
   refine List.any_eq_false.2 (fun x hx=>?_)
   obtain⟨j,hj,rfl⟩:=List.getElem_of_mem hx
   have:=j1 j (by rw[HER.out.1];exact hj)
   rw[gDe,gEe hj]at this
   simpa using this
  gi_wp2
  have hK2:(X.setCell ⟨w.heap.size+1+1,0,none⟩ (.bool false)).heap[D]? =some (.deferred (some [])):=(heap_setCell_other _ _ _ _ (by dsimp only;omega)).trans hK
  refine⟨by simp,.inl ⟨_,_,rfl,run_takeDeferred hK2,?_⟩⟩
  have y3:=BS (World.cell?_setCell_same _ _ (.bool false) c3) hK2 rfl (.deferred none)
  exact⟨.bool false,(by simp[results,results265,go_sem,y3]),Aa HE.out,BQ (j4.setCell (by dsimp only;omega) _) (by omega) hK2 _⟩
 case stop=>
  rintro D c X hD ⟨rfl,hE,c3,j4⟩ hK
  gi_wp2
  refine⟨by simp,.inl ⟨_,_,rfl,run_takeDeferred hK,?_⟩⟩
  have y3:=BS c3 hK rfl (.deferred none)
  exact⟨.bool true,(by simp[results,results265,go_sem,y3]),Aa hE,BQ j4 (by omega) hK _⟩
def F1(l:List Ent):Bool:=decide ((l.map AS).Nodup)
def CS(l:List Ent)(i:Nat):List Plc:=(l.take i).map AS
theorem Im(h:i<l.length):CS l (i+1)=CS l i++[AS (l.getD i default)]:=by
 unfold CS
 rw[List.take_succ_eq_append_getElem h,List.map_append,gDe,gEe h];rfl
theorem OO(h:(CS l l.length).Nodup):F1 l=true:=by
 unfold CS at h
 rw[List.take_length]at h
 exact decide_eq_true h
theorem Ws(h:i<l.length)(hm:AS (l.getD i default)∈CS l i):F1 l=false:=by
 refine decide_eq_false (fun hn=>?_)
 have e:l.map AS=CS l (i+1)++(l.drop (i+1)).map AS:=by
  unfold CS;rw[<-List.map_append,List.take_append_drop]
 rw[e,Im h]at hn
 have:=(List.nodup_append.1 (List.nodup_append.1 hn).1).2.2 _ hm _ (List.mem_singleton.2 rfl)
 exact this rfl
theorem OQ(h:i<l.length)(hn:(CS l i).Nodup)(hm:AS (l.getD i default) ∉ CS l i):(CS l (i+1)).Nodup:=by
 rw[Im h]
 refine List.nodup_append.2 ⟨hn,by simp,fun a ha b hb=>?_⟩
 rw[List.mem_singleton.1 hb]
 exact fun e=>hm (by rw[<-e];exact ha)
theorem Er(h:Ct W M ps)(hb:Below n W W')(hM:M<n):Ct W' M ps:=(hb.block M hM).trans h
theorem Nw(hg:W.grownBy W' (some M))(hM:M<B):KeepsFrom B W W':=⟨hg.size,fun k o hk h _=>(hg.block k (Array.getElem?_eq_some_iff.1 h).1 (fun e=>by cases e;omega)).trans h⟩
theorem Tl{Pr:Nat->Obj->Prop}(hm:Ct W M ps)(hg:W.grownBy W' (some M)):Aj Pr W W':=(Aj.refl Pr W).grown hg (fun r e=>by cases e;exact⟨_,hm,rfl⟩)
theorem cell_grown(hm:Ct W M ps)(hg:W.grownBy W' (some M))(h:W.cell? ⟨b,o,none⟩=some v):W'.cell? ⟨b,o,none⟩=some v:=cell_kept h hg (fun r e=>by cases e;exact⟨_,hm,rfl⟩)
theorem JB(hm:Ct W M ps)(hg:W.grownBy W' (some M))(h:W.cell? ⟨b,o,none⟩=some v)(hf:W.frozen? ⟨b,o,none⟩=false):W'.frozen? ⟨b,o,none⟩=false:=(frozen_kept h hg (fun r e=>by cases e;exact⟨_,hm,rfl⟩)).trans hf
theorem Ri(b:Buf)(x:BX)(w:World)(h:bufAt w b x)(hw:∀y∈Ab b,wfP (AS y)):
 Calls Tryz.prog 139 #[AQ b x] w fun e w'=>e= .returned (.bool (!F1 (Ab b)))/\Bwz w w':=by
 have HB:Hid (bufAt w b x):=h
 have HER:Hid (ERs w (ems (x.m::x.rs)) (Ab b)):=CR h
 obtain⟨L,hL⟩:=nM (Ab b)
 rw[hL]at HER hw⊢
 have HW:Hid (∀y∈L,wfP (AS y)):=hw
 clear hL h hw
 obtain⟨R,hR⟩:=nM (!F1 L)
 have HRR:Hid ((!F1 L)=R):=hR
 rw[hR]
 clear hR
 obtain⟨ra,rc,⟨⟨m1,m2,m3⟩,ml⟩,rs⟩:=x
 obtain⟨lim,mem,runs⟩:=b
 unfold AQ hdV
 dsimp only at HER⊢
 obtain⟨n,hn⟩:∃n,rs.length=n:=⟨_,rfl⟩
 have HN:Hid (rs.length=n):=hn
 rw[hn]
 clear hn
 have hmk:=@run_makeMap Tryz.prog
 refine(callsIn_wide (n:=0)).1 ?_
 refine callsIn_of_wp_marks func139 rfl trivial ?_ rfl
 simp only[ntmps139,List.size_toArray,List.length_cons,List.length_nil,Nat.reduceAdd,Nat.reduceSub,Array.replicate_succ,Array.replicate_zero,List.push_toArray,List.append_toArray,List.nil_append,List.cons_append]
 gi_wp2_with (refine⟨trivial,rfl,?_⟩;gi_at_call 113;refine(callsIn_wide.2 (FL _ _ _ rfl rfl rfl _)).mono ?_;rintro e w' ⟨rfl,rfl⟩)
 have V0:(((((w.alloc (.cells #[.int .i64 lim,.slice m1 m2 m3,.slice ra n rc] 29)).alloc (.cells #[.bool false] 4)).alloc (.map #[] 0)).alloc (.cells #[.map (some (w.heap.size+1+1))] 230)).alloc (.cells #[.int .i64 lim,.slice m1 m2 m3,.slice ra n rc] 29)).cell? ⟨w.heap.size+1+1+1,0,none⟩=some (.map (some (w.heap.size+1+1))):=by go_simp
 have V2:Ct (((((w.alloc (.cells #[.int .i64 lim,.slice m1 m2 m3,.slice ra n rc] 29)).alloc (.cells #[.bool false] 4)).alloc (.map #[] 0)).alloc (.cells #[.map (some (w.heap.size+1+1))] 230)).alloc (.cells #[.int .i64 lim,.slice m1 m2 m3,.slice ra n rc] 29)) (w.heap.size+1+1) []:=by
  show(((((w.alloc (.cells #[.int .i64 lim,.slice m1 m2 m3,.slice ra n rc] 29)).alloc (.cells #[.bool false] 4)).alloc (.map #[] 0)).alloc (.cells #[.map (some (w.heap.size+1+1))] 230)).alloc (.cells #[.int .i64 lim,.slice m1 m2 m3,.slice ra n rc] 29)).heap[w.heap.size+1+1]? =some (.map #[] 0)
  have h:=World.alloc_heap_new ((w.alloc (.cells #[.int .i64 lim,.slice m1 m2 m3,.slice ra n rc] 29)).alloc (.cells #[.bool false] 4)) (.map #[] 0)
  rw[World.size_alloc,World.size_alloc]at h
  rw[Below.heap_alloc _ _ _ (by simp),Below.heap_alloc _ _ _ (by simp)]
  exact h
 have V3:(((((w.alloc (.cells #[.int .i64 lim,.slice m1 m2 m3,.slice ra n rc] 29)).alloc (.cells #[.bool false] 4)).alloc (.map #[] 0)).alloc (.cells #[.map (some (w.heap.size+1+1))] 230)).alloc (.cells #[.int .i64 lim,.slice m1 m2 m3,.slice ra n rc] 29)).cell? ⟨w.heap.size+1,0,none⟩=some (.bool false):=by go_simp
 have V4:(((((w.alloc (.cells #[.int .i64 lim,.slice m1 m2 m3,.slice ra n rc] 29)).alloc (.cells #[.bool false] 4)).alloc (.map #[] 0)).alloc (.cells #[.map (some (w.heap.size+1+1))] 230)).alloc (.cells #[.int .i64 lim,.slice m1 m2 m3,.slice ra n rc] 29)).frozen? ⟨w.heap.size+1,0,none⟩=false:=by go_simp
 have V5:(((((w.alloc (.cells #[.int .i64 lim,.slice m1 m2 m3,.slice ra n rc] 29)).alloc (.cells #[.bool false] 4)).alloc (.map #[] 0)).alloc (.cells #[.map (some (w.heap.size+1+1))] 230)).alloc (.cells #[.int .i64 lim,.slice m1 m2 m3,.slice ra n rc] 29)).cell? ⟨w.heap.size+1+1+1+1,0,none⟩=some (.int .i64 lim):=by go_simp
 have V6:(((((w.alloc (.cells #[.int .i64 lim,.slice m1 m2 m3,.slice ra n rc] 29)).alloc (.cells #[.bool false] 4)).alloc (.map #[] 0)).alloc (.cells #[.map (some (w.heap.size+1+1))] 230)).alloc (.cells #[.int .i64 lim,.slice m1 m2 m3,.slice ra n rc] 29)).cell? ⟨w.heap.size+1+1+1+1,1,none⟩=some (.slice m1 m2 m3):=by go_simp
 have V7:(((((w.alloc (.cells #[.int .i64 lim,.slice m1 m2 m3,.slice ra n rc] 29)).alloc (.cells #[.bool false] 4)).alloc (.map #[] 0)).alloc (.cells #[.map (some (w.heap.size+1+1))] 230)).alloc (.cells #[.int .i64 lim,.slice m1 m2 m3,.slice ra n rc] 29)).cell? ⟨w.heap.size+1+1+1+1,2,none⟩=some (.slice ra n rc):=by go_simp
 have V8:Bwz w (((((w.alloc (.cells #[.int .i64 lim,.slice m1 m2 m3,.slice ra n rc] 29)).alloc (.cells #[.bool false] 4)).alloc (.map #[] 0)).alloc (.cells #[.map (some (w.heap.size+1+1))] 230)).alloc (.cells #[.int .i64 lim,.slice m1 m2 m3,.slice ra n rc] 29)):=by
  repeat (first|exact bR|(refine Below.alloc ?_ (by simp<;>omega) _))
 have V9:(((((w.alloc (.cells #[.int .i64 lim,.slice m1 m2 m3,.slice ra n rc] 29)).alloc (.cells #[.bool false] 4)).alloc (.map #[] 0)).alloc (.cells #[.map (some (w.heap.size+1+1))] 230)).alloc (.cells #[.int .i64 lim,.slice m1 m2 m3,.slice ra n rc] 29)).heap.size=w.heap.size+1+1+1+1+1:=by simp
 generalize (((((w.alloc (.cells #[.int .i64 lim,.slice m1 m2 m3,.slice ra n rc] 29)).alloc (.cells #[.bool false] 4)).alloc (.map #[] 0)).alloc (.cells #[.map (some (w.heap.size+1+1))] 230)).alloc (.cells #[.int .i64 lim,.slice m1 m2 m3,.slice ra n rc] 29))=V at *
 have hit:=EL HB.out V8 (w.heap.size+1+1+1+1) Ea V5 V6 (by rw[HN.out];exact V7) Ad (fun _ _=>Ad) (fun _ _ _ _=>trivial) (fun _ _ _ _=>trivial)
 dsimp only at hit
 obtain⟨E,hE⟩:=nM (ems ((((m1,m2,m3):Hdr),ml)::rs))
 rw[hE]at hit HER
 clear hE hmk
 refine Cq (gf:=161) (lb:=#[.pointer (some ⟨w.heap.size+1+1+1+1,0,none⟩)]) rfl (enters_of func161 (by kernel_rfl) rfl) hit bR (fun x hx=>by obtain⟨p,_,rfl⟩:=List.mem_map.1 hx;rfl) (fun h k=>Aj.trans h k) (fun W l o o' _ h ho=>Aj.put W l o o' h ho)
  (fun i X=>(CS L i).Nodup/\Ct X (w.heap.size+1+1) (CS L i)/\Aj Ea V X/\X.frozen? ⟨w.heap.size+1,0,none⟩=false/\Bwz w X) (fun c X=>c= .ret/\true=R/\X.cell? ⟨w.heap.size+1,0,none⟩=some (.bool true)/\Bwz w X)
  (fun i X X' row hs hg hr=>⟨hs.1,(hg.block _ (EG hs.2.1) (fun e=>by have:=(hr _ e.symm).1;omega)).trans hs.2.1,hs.2.2.1.grown hg (fun r e=>(hr r e).2),(frozen_kept (hs.2.2.1.cell Ad V3) hg (fun r e=>(hr r e).2)).trans hs.2.2.2.1,Cj hs.2.2.2.2 nR (by omega) hg hr⟩)
  (fun c X X' row hs hg hr=>⟨hs.1,hs.2.1,cell_kept hs.2.2.1 hg (fun r e=>(hr r e).2),Cj hs.2.2.2 nR (by omega) hg hr⟩)
  ⟨List.nodup_nil,V2,Aj.refl _ _,V4,V8⟩
  (fun i a' X=> ∃B,a'={tmps:=#[.agg #[.int .i64 lim,.slice m1 m2 m3,.slice ra n rc],.pointer (some ⟨w.heap.size,0,none⟩),.pointer (some ⟨w.heap.size+1,0,none⟩),.pointer (some ⟨w.heap.size+1+1+1,0,none⟩),.pointer (some ⟨B,0,none⟩),.map (some (w.heap.size+1+1)),.agg #[.int .i64 lim,.slice m1 m2 m3,.slice ra n rc],.func (.func 161) #[] #[.pointer (some ⟨w.heap.size+1+1+1+1,0,none⟩)],(E.getD i default).val,undef,undef,undef,undef,undef,undef,undef,undef,undef,undef,undef,undef],defers:=[]}/\X.cell? ⟨B,0,none⟩=some (.string (E.getD i default).key)/\X.cell? ⟨B,1,none⟩=some (.int .i64 (E.getD i default).time)/\X.cell? ⟨B,2,none⟩=some (.int .i64 (E.getD i default).seq)/\X.cell? ⟨B,3,none⟩=some (hdV (E.getD i default).row)/\X.cell? ⟨B,4,none⟩=some (.bool (E.getD i default).met))
  (fun i a' u X X' row hs hg hr=>by
   obtain⟨B,h1,h2,h3,h4,h5,h6⟩:=hs
   exact⟨B,h1,cell_kept h2 hg (fun r e=>(hr r e).2),cell_kept h3 hg (fun r e=>(hr r e).2),cell_kept h4 hg (fun r e=>(hr r e).2),cell_kept h5 hg (fun r e=>(hr r e).2),cell_kept h6 hg (fun r e=>(hr r e).2)⟩) ?assign ?body ?done ?stop
 case assign=>
  intro l' k x X K hx hi hK
  obtain⟨hk,hxe⟩:=List.getElem?_eq_some_iff.1 hx
  rw[lMp]at hk
  rw[List.getElem_map]at hxe
  subst hxe
  have hd:E.getD k default=E[k]:=by rw[gDe,gEe hk];rfl
  have hK2:=hK
  rw[hd]at hK2
  clear hK hd hx
  obtain⟨⟨ek,et,es,⟨r1,r2,r3⟩,em⟩,hz⟩:∃z,E[k]=z:=⟨_,rfl⟩
  rw[hz]at hK2⊢
  unfold EM.val hdV at hK2⊢
  dsimp only at hK2⊢
  obtain⟨j1,j0,j2,j3,j4⟩:=hi
  gi_wp2
  have lX:w.heap.size+1<X.heap.size:=bLt _ _ (j2.cell Ad V3)
  have lM:=EG j0
  exact hK2 _ _ ((KeepsOthers.alloc _ _).from _) (Aj.alloc _ _) ⟨j1,Er j0 (bR.alloc nR _) lM,j2.trans (Aj.alloc _ _),by go_simp,j4.alloc j4.size _⟩ ⟨X.heap.size,rfl,by go_simp,by go_simp,by go_simp,by go_simp,by go_simp⟩
 case body=>
  intro l' i x a' X hx hl' hrec hIi hax
  obtain⟨j1,j0,j2,j3,j4⟩:=hIi
  obtain⟨B,hax,b0,b1,b2,b3,b4⟩:=hax
  subst hax
  obtain⟨hi,_⟩:=List.getElem?_eq_some_iff.1 hx
  rw[lMp]at hi
  have hEL:=HER.out.1
  have hil:i<L.length:=by omega
  have her:=HER.out.2 i hil
  have KP:Hid (∀w1,Calls Tryz.prog 186 #[(E.getD i default).val] w1 fun r w'=>r= .returned (.agg #[.string (E.getD i default).key,.int .i64 (E.getD i default).time,.int .i64 (E.getD i default).seq])/\Bwz w1 w'):=fun w1=>Fy _ w1
  have hpl:AS (L.getD i default)=((E.getD i default).key,(E.getD i default).time,(E.getD i default).seq):=by unfold AS;rw[her.key,her.time,her.seq]
  have hwp:wfP (AS (L.getD i default)):=HW.out _ (by rw[gDe,gEe hil];simp)
  obtain⟨⟨ek,et,es,⟨r1,r2,r3⟩,em⟩,hz⟩:∃z,E.getD i default=z:=⟨_,rfl⟩
  rw[hz]at KP b0 b1 b2 b3 b4 hpl⊢
  unfold EM.val hdV at KP
  unfold hdV at b3
  dsimp only at KP b0 b1 b2 b3 b4 hpl
  rw[hpl]at hwp
  have c0:=j2.cell Ad V0
  have c3:=j2.cell Ad V3
  have lX:w.heap.size+1<X.heap.size:=bLt _ _ c3
  have lM:=EG j0
  have hmx:Tryz.prog.follows .mixedOrders=true:=by kernel_rfl
  have hw1:IntKind.i64.wrap 1=1:=by rw[IntKind.wrap_i64];omega
  have hw2:IntKind.i64.wrap 2=2:=by rw[IntKind.wrap_i64];omega
  have HPL:Hid (AS (L.getD i default)=(ek,et,es)):=hpl
  have HJ:Hid ((CS L i).Nodup/\Aj Ea V X/\i<L.length):=⟨j1,j2,hil⟩
  clear hz her hEL hx hpl
  by_cases hm:(ek,et,es)∈CS L i
  ·have HO:Hid (∀W,Ct W (w.heap.size+1+1) (CS L i)->∃(b:Nat) (W3 W4:World),
    (Instr.lookup 230 (.map (some (w.heap.size+1+1))) (.agg #[.string ek,.int .i64 et,.int .i64 es]) false).run Tryz.prog W= .ok (.int .i64 1) W/\
    (Instr.mapEntry 230 (.map (some (w.heap.size+1+1))) (.agg #[.string ek,.int .i64 et,.int .i64 es])).run Tryz.prog W= .ok (.tuple #[.int .i64 1,.int .i64 b]) W3/\
    (Instr.lookup 230 (.map (some (w.heap.size+1+1))) (.agg #[.string ek,.int .i64 et,.int .i64 es]) false).run Tryz.prog W3= .ok (.int .i64 1) W3/\
    (Instr.entryStore 230 (.map (some (w.heap.size+1+1))) (.int .i64 b) (.int .i64 2)).run Tryz.prog W3= .ok () W4/\
    (∀W5:World,W5.heap[w.heap.size+1+1]? =W4.heap[w.heap.size+1+1]? ->(Instr.lookup 230 (.map (some (w.heap.size+1+1))) (.agg #[.string ek,.int .i64 et,.int .i64 es]) false).run Tryz.prog W5= .ok (.int .i64 2) W5)/\W.grownBy W4 (some (w.heap.size+1+1))):=fun W hW=>by
    have h:=Uy hW hwp hm
    unfold Bn at h
    exact h
   have HE:Hid (true=R):=by
    show _=_
    rw[<-HRR.out,Ws HJ.out.2.2 (by rw[HPL.out];exact hm)];rfl
   gi_wp2
   refine wpIn_mono (Q:=fun e a' W'=> ∃(bo:Nat) (w2:World),e= .normal/\a'={tmps:=#[.agg #[.int .i64 lim,.slice m1 m2 m3,.slice ra n rc],.pointer (some ⟨w.heap.size,0,none⟩),.pointer (some ⟨w.heap.size+1,0,none⟩),.pointer (some ⟨w.heap.size+1+1+1,0,none⟩),.pointer (some ⟨B,0,none⟩),.map (some (w.heap.size+1+1)),.agg #[.int .i64 lim,.slice m1 m2 m3,.slice ra n rc],.func (.func 161) #[] #[.pointer (some ⟨w.heap.size+1+1+1+1,0,none⟩)],EM.val ⟨ek,et,es,(r1,r2,r3),em⟩,.map (some (w.heap.size+1+1)),.agg #[.string ek,.int .i64 et,.int .i64 es,.slice r1 r2 r3,.bool em],.agg #[.string ek,.int .i64 et,.int .i64 es],.int .i64 1,.int .i64 2,.tuple #[.int .i64 1,.int .i64 (bo:Nat)],.int .i64 (bo:Nat),undef,undef,undef,undef,undef],defers:=[]}/\Bwz X w2/\Ct w2 (w.heap.size+1+1) (CS L i)/\(∀W5:World,W5.heap[w.heap.size+1+1]? =W'.heap[w.heap.size+1+1]? ->(Instr.lookup 230 (.map (some (w.heap.size+1+1))) (.agg #[.string ek,.int .i64 et,.int .i64 es]) false).run Tryz.prog W5= .ok (.int .i64 2) W5)/\w2.grownBy W' (some (w.heap.size+1+1))) ?_ ?_
   ·gi_region_with_o (refine⟨trivial,rfl,?_⟩;gi_at_call 186;refine(CallsIn.inRound l' (callsIn_wide.2 (KP.out _))).mono ?_;rintro e w2 ⟨rfl,hb2⟩;have hb3:Bwz X w2:=bR.drew.trans hb2;have k0:=cLz hb3 c0;have m2':Ct w2 (w.heap.size+1+1) (CS L i):=Er j0 hb3 lM;obtain⟨bo,W3,W4,o1,o2,o3,o4,o5,o6⟩:=HO.out w2 m2')
    all_goals exact⟨bo,w2,rfl,rfl,hb3,m2',o5,o6⟩
   ·rintro e a' W4 ⟨bo,w2,rfl,rfl,hb3,m2',o5,o6⟩
    have d0:=cell_grown m2' o6 (cLz hb3 c0)
    have d3:=cell_grown m2' o6 (cLz hb3 c3)
    have df:=JB m2' o6 (cLz hb3 c3) (by rw[hb3.frozen (p:=⟨w.heap.size+1,0,none⟩) lX];exact j3)
    have e0:=cell_grown m2' o6 (cLz hb3 b0)
    have e1:=cell_grown m2' o6 (cLz hb3 b1)
    have e2:=cell_grown m2' o6 (cLz hb3 b2)
    have e3:=cell_grown m2' o6 (cLz hb3 b3)
    have e4:=cell_grown m2' o6 (cLz hb3 b4)
    have kx:KeepsFrom V.heap.size X W4:=(Bs hb3).trans (Nw o6 (by omega))
    have hbx:Bwz w W4:=(j4.trans (hb3.mono j4.size)).grown o6 (by have:=hb3.size;omega) (fun r e=>by cases e;omega)
    have l4:w.heap.size+1+1<W4.heap.size:=by have:=hb3.size;have:=o6.size;omega
    clear j0 m2' o6 hb3 HO c0 c3 b0 b1 b2 b3 b4
    gi_wp2
    gi_region_with_o (refine⟨trivial,rfl,?_⟩;gi_at_call 186;refine(CallsIn.inRound l' (callsIn_wide.2 (KP.out _))).mono ?_;rintro e w5 ⟨rfl,hb5⟩;have hb6:Bwz W4 w5:=bR.drew.trans hb5;have k0:=cLz hb6 d0;have k3:=cLz hb6 d3;have kf:w5.frozen? ⟨w.heap.size+1,0,none⟩=false:=(by rw[hb6.frozen (p:=⟨w.heap.size+1,0,none⟩) (by dsimp only;omega)];exact df);have lk:=o5 w5 (hb6.block _ l4))
    all_goals
     gi_wp2
     exact⟨(kx.trans (Bs hb6)).trans ((KeepsOthers.setCell _ _ _).from _),rfl,HE.out,World.cell?_setCell_same _ _ _ k3,(hbx.trans (hb6.mono hbx.size)).setCell (by dsimp only;omega) _⟩
  ·have HO:Hid (∀W,Ct W (w.heap.size+1+1) (CS L i)->∃W3 W4,
    (Instr.lookup 230 (.map (some (w.heap.size+1+1))) (.agg #[.string ek,.int .i64 et,.int .i64 es]) false).run Tryz.prog W= .ok (.int .i64 0) W/\
    (Instr.mapEntry 230 (.map (some (w.heap.size+1+1))) (.agg #[.string ek,.int .i64 et,.int .i64 es])).run Tryz.prog W= .ok (.tuple #[.int .i64 0,.int .i64 (CS L i).length]) W3/\
    (Instr.lookup 230 (.map (some (w.heap.size+1+1))) (.agg #[.string ek,.int .i64 et,.int .i64 es]) false).run Tryz.prog W3= .ok (.int .i64 0) W3/\
    (Instr.entryStore 230 (.map (some (w.heap.size+1+1))) (.int .i64 (CS L i).length) (.int .i64 1)).run Tryz.prog W3= .ok () W4/\
    Ct W4 (w.heap.size+1+1) (CS L i++[(ek,et,es)])/\W.grownBy W4 (some (w.heap.size+1+1))):=fun W hW=>by
    have h:=Ux hW hwp hm
    unfold Bn at h
    exact h
   have HLK:Hid (∀W,Ct W (w.heap.size+1+1) (CS L i++[(ek,et,es)])->(Instr.lookup 230 (.map (some (w.heap.size+1+1))) (.agg #[.string ek,.int .i64 et,.int .i64 es]) false).run Tryz.prog W= .ok (.int .i64 1) W):=fun W hW=>by
    have h:=Sx hW hwp hm
    unfold Bn at h
    exact h
   have HS:Hid (CS L (i+1)=CS L i++[(ek,et,es)]/\(CS L (i+1)).Nodup):=⟨by rw[Im HJ.out.2.2,HPL.out],OQ HJ.out.2.2 HJ.out.1 (by rw[HPL.out];exact hm)⟩
   obtain⟨pn,hpn⟩:=nM ((CS L i).length)
   rw[hpn]at HO
   clear hpn
   gi_wp2
   refine wpIn_mono (Q:=fun e a' W'=> ∃(w2:World),e= .normal/\a'={tmps:=#[.agg #[.int .i64 lim,.slice m1 m2 m3,.slice ra n rc],.pointer (some ⟨w.heap.size,0,none⟩),.pointer (some ⟨w.heap.size+1,0,none⟩),.pointer (some ⟨w.heap.size+1+1+1,0,none⟩),.pointer (some ⟨B,0,none⟩),.map (some (w.heap.size+1+1)),.agg #[.int .i64 lim,.slice m1 m2 m3,.slice ra n rc],.func (.func 161) #[] #[.pointer (some ⟨w.heap.size+1+1+1+1,0,none⟩)],EM.val ⟨ek,et,es,(r1,r2,r3),em⟩,.map (some (w.heap.size+1+1)),.agg #[.string ek,.int .i64 et,.int .i64 es,.slice r1 r2 r3,.bool em],.agg #[.string ek,.int .i64 et,.int .i64 es],.int .i64 0,.int .i64 1,.tuple #[.int .i64 0,.int .i64 (pn:Nat)],.int .i64 (pn:Nat),undef,undef,undef,undef,undef],defers:=[]}/\Bwz X w2/\Ct w2 (w.heap.size+1+1) (CS L i)/\Ct W' (w.heap.size+1+1) (CS L i++[(ek,et,es)])/\w2.grownBy W' (some (w.heap.size+1+1))) ?_ ?_
   ·gi_region_with_o (refine⟨trivial,rfl,?_⟩;gi_at_call 186;refine(CallsIn.inRound l' (callsIn_wide.2 (KP.out _))).mono ?_;rintro e w2 ⟨rfl,hb2⟩;have hb3:Bwz X w2:=bR.drew.trans hb2;have k0:=cLz hb3 c0;have m2':Ct w2 (w.heap.size+1+1) (CS L i):=Er j0 hb3 lM;obtain⟨W3,W4,o1,o2,o3,o4,o5,o6⟩:=HO.out w2 m2')
    all_goals exact⟨w2,rfl,rfl,hb3,m2',o5,o6⟩
   ·rintro e a' W4 ⟨w2,rfl,rfl,hb3,m2',o5,o6⟩
    have d0:=cell_grown m2' o6 (cLz hb3 c0)
    have d3:=cell_grown m2' o6 (cLz hb3 c3)
    have df:=JB m2' o6 (cLz hb3 c3) (by rw[hb3.frozen (p:=⟨w.heap.size+1,0,none⟩) lX];exact j3)
    have e0:=cell_grown m2' o6 (cLz hb3 b0)
    have e1:=cell_grown m2' o6 (cLz hb3 b1)
    have e2:=cell_grown m2' o6 (cLz hb3 b2)
    have e3:=cell_grown m2' o6 (cLz hb3 b3)
    have e4:=cell_grown m2' o6 (cLz hb3 b4)
    have kx:KeepsFrom V.heap.size X W4:=(Bs hb3).trans (Nw o6 (by omega))
    have ko:Aj Ea X W4:=(BF hb3 nR).trans (Tl m2' o6)
    have hbx:Bwz w W4:=(j4.trans (hb3.mono j4.size)).grown o6 (by have:=hb3.size;omega) (fun r e=>by cases e;omega)
    have l4:w.heap.size+1+1<W4.heap.size:=EG o5
    clear j0 m2' o6 hb3 HO c0 c3 b0 b1 b2 b3 b4
    gi_wp2
    gi_region_with_o (refine⟨trivial,rfl,?_⟩;gi_at_call 186;refine(CallsIn.inRound l' (callsIn_wide.2 (KP.out _))).mono ?_;rintro e w5 ⟨rfl,hb5⟩;have hb6:Bwz W4 w5:=bR.drew.trans hb5;have k0:=cLz hb6 d0;have mm:Ct w5 (w.heap.size+1+1) (CS L i++[(ek,et,es)]):=Er o5 hb6 l4;have lk:=HLK.out w5 mm)
    all_goals
     gi_wp2
     exact⟨kx.trans (Bs hb6),ko.trans (BF hb6 nR),HS.out.2,by rw[HS.out.1];exact mm,HJ.out.2.1.trans (ko.trans (BF hb6 nR)),by rw[hb6.frozen (p:=⟨w.heap.size+1,0,none⟩) (by dsimp only;omega)];exact df,hbx.trans (hb6.mono hbx.size)⟩
 case done=>
  rintro D X hD ⟨j1,j0,j2,j3,j4⟩ hK
  have c3:=j2.cell Ad V3
  have HE:Hid (false=R):=by
   show _=_
   rw[lMp,HER.out.1]at j1
   rw[<-HRR.out,OO j1];rfl
  clear j0
  gi_wp2
  have hK2:(X.setCell ⟨w.heap.size+1,0,none⟩ (.bool false)).heap[D]? =some (.deferred (some [])):=(heap_setCell_other _ _ _ _ (by dsimp only;omega)).trans hK
  refine⟨by simp,.inl ⟨_,_,rfl,run_takeDeferred hK2,?_⟩⟩
  have y3:=BS (World.cell?_setCell_same _ _ (.bool false) c3) hK2 rfl (.deferred none)
  exact⟨.bool false,(by simp[results,results139,go_sem,y3]),Aa HE.out,BQ (j4.setCell (by dsimp only;omega) _) (by omega) hK2 _⟩
 case stop=>
  rintro D c X hD ⟨rfl,hE,c3,j4⟩ hK
  gi_wp2
  refine⟨by simp,.inl ⟨_,_,rfl,run_takeDeferred hK,?_⟩⟩
  have y3:=BS c3 hK rfl (.deferred none)
  exact⟨.bool true,(by simp[results,results139,go_sem,y3]),Aa hE,BQ j4 (by omega) hK _⟩
end bf
end Go.Proofs.YtdohnkkbkfhphaaGreat
