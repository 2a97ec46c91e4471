import Derived.Test.YtdohnkkbkfhphaaGreatPc8
set_option linter.all false
set_option maxHeartbeats 8000000
namespace Go.Proofs.YtdohnkkbkfhphaaGreat
open Go.Proofs.Tryz
namespace bf
open Go.ChangeShapes Go.WideShapes Go.ChangeAt Go.RowKit Go.Shelf
open vl
attribute [local go_sem] Oper.semAt_some
variable {l : List Ent} {M b i n o : Nat} {W W' : World} {ps : List Plc} {v : Value}
def BJ(l:List Ent):Bool:=decide ((l.map Ay).Nodup)
def Dl(l:List Ent)(i:Nat):List Plc:=(l.take i).map Ay
theorem Jd(h:i<l.length):Dl l (i+1)=Dl l i++[Ay (l.getD i default)]:=by
 unfold Dl
 rw[List.take_succ_eq_append_getElem h,List.map_append,gDe,gEe h];rfl
theorem QW(h:(Dl l l.length).Nodup):BJ l=true:=by
 unfold Dl at h
 rw[List.take_length]at h
 exact decide_eq_true h
theorem YP(h:i<l.length)(hm:Ay (l.getD i default)∈Dl l i):BJ l=false:=by
 refine decide_eq_false (fun hn=>?_)
 have e:l.map Ay=Dl l (i+1)++(l.drop (i+1)).map Ay:=by
  unfold Dl;rw[<-List.map_append,List.take_append_drop]
 rw[e,Jd h]at hn
 have:=(List.nodup_append.1 (List.nodup_append.1 hn).1).2.2 _ hm _ (List.mem_singleton.2 rfl)
 exact this rfl
theorem QX(h:i<l.length)(hn:(Dl l i).Nodup)(hm:Ay (l.getD i default) ∉ Dl l i):(Dl l (i+1)).Nodup:=by
 rw[Jd h]
 refine List.nodup_append.2 ⟨hn,by simp,fun a ha b hb=>?_⟩
 rw[List.mem_singleton.1 hb]
 exact fun e=>hm (by rw[<-e];exact ha)
theorem EP(h:CE W M ps)(hb:Below n W W')(hM:M<n):CE W' M ps:=(hb.block M hM).trans h
theorem Pu{B:Nat}(hg:W.grownBy W' (some M))(hM:M<B):KeepsFrom B W W':=⟨hg.size,fun k o hk h _=>(hg.block k (Array.getElem?_eq_some_iff.1 h).1 (fun e=>by cases e;omega)).trans h⟩
theorem Wd{Pr:Nat->Obj->Prop}(hm:CE W M ps)(hg:W.grownBy W' (some M)):Ao Pr W W':=(Ao.refl Pr W).grown hg (fun r e=>by cases e;exact⟨_,hm,rfl⟩)
theorem cell_grown(hm:CE W M ps)(hg:W.grownBy W' (some M))(h:W.cell? ⟨b,o,none⟩=some v):W'.cell? ⟨b,o,none⟩=some v:=cell_kept h hg (fun r e=>by cases e;exact⟨_,hm,rfl⟩)
theorem L1(hm:CE W M ps)(hg:W.grownBy W' (some M))(h:W.cell? ⟨b,o,none⟩=some v)(hf:W.frozen? ⟨b,o,none⟩=false):W'.frozen? ⟨b,o,none⟩=false:=(frozen_kept h hg (fun r e=>by cases e;exact⟨_,hm,rfl⟩)).trans hf
theorem TP(b:Buf)(x:BX)(w:World)(h:bufAt w b x)(hw:∀y∈Ab b,wfP (Ay y)):
 Calls Tryz.prog 139 #[AN b x] w fun e w'=>e= .returned (.bool (!BJ (Ab b)))/\Bwz w w':=by
 have HB:Hid (bufAt w b x):=h
 have HER:Hid (ERs w (ems (x.m::x.rs)) (Ab b)):=Dg h
 obtain⟨L,hL⟩:=nM (Ab b)
 rw[hL]at HER hw⊢
 have HW:Hid (∀y∈L,wfP (Ay y)):=hw
 clear hL h hw
 obtain⟨R,hR⟩:=nM (!BJ L)
 have HRR:Hid ((!BJ L)=R):=hR
 rw[hR]
 clear hR
 obtain⟨ra,rc,⟨⟨m1,m2,m3⟩,ml⟩,rs⟩:=x
 obtain⟨lim,mem,runs⟩:=b
 unfold AN hdV
 dsimp only at HER⊢
 obtain⟨n,hn⟩:∃n,rs.length=n:=⟨_,rfl⟩
 have HN:Hid (rs.length=n):=hn
 rw[hn]
 clear hn
 have hmk:=@run_makeMap Tryz.prog
 refine(callsIn_wide (n:=0)).1 ?_
 refine callsIn_of_wp_marks func139 rfl trivial ?_ rfl
 simp only[ntmps139,List.size_toArray,List.length_cons,List.length_nil,Nat.reduceAdd,Nat.reduceSub,Array.replicate_succ,Array.replicate_zero,List.push_toArray,List.append_toArray,List.nil_append,List.cons_append]
 gi_wp2_with (refine⟨trivial,rfl,?_⟩;gi_at_call 113;refine(callsIn_wide.2 (Gh _ _ _ rfl rfl rfl _)).mono ?_;rintro e w' ⟨rfl,rfl⟩)
 have V0:(((((w.alloc (.cells #[.int .i64 lim,.slice m1 m2 m3,.slice ra n rc] 29)).alloc (.cells #[.bool false] 4)).alloc (.map #[] 0)).alloc (.cells #[.map (some (w.heap.size+1+1))] 230)).alloc (.cells #[.int .i64 lim,.slice m1 m2 m3,.slice ra n rc] 29)).cell? ⟨w.heap.size+1+1+1,0,none⟩=some (.map (some (w.heap.size+1+1))):=by go_simp
 have V2:CE (((((w.alloc (.cells #[.int .i64 lim,.slice m1 m2 m3,.slice ra n rc] 29)).alloc (.cells #[.bool false] 4)).alloc (.map #[] 0)).alloc (.cells #[.map (some (w.heap.size+1+1))] 230)).alloc (.cells #[.int .i64 lim,.slice m1 m2 m3,.slice ra n rc] 29)) (w.heap.size+1+1) []:=by
  show(((((w.alloc (.cells #[.int .i64 lim,.slice m1 m2 m3,.slice ra n rc] 29)).alloc (.cells #[.bool false] 4)).alloc (.map #[] 0)).alloc (.cells #[.map (some (w.heap.size+1+1))] 230)).alloc (.cells #[.int .i64 lim,.slice m1 m2 m3,.slice ra n rc] 29)).heap[w.heap.size+1+1]? =some (.map #[] 0)
  have h:=World.alloc_heap_new ((w.alloc (.cells #[.int .i64 lim,.slice m1 m2 m3,.slice ra n rc] 29)).alloc (.cells #[.bool false] 4)) (.map #[] 0)
  rw[World.size_alloc,World.size_alloc]at h
  rw[Below.heap_alloc _ _ _ (by simp),Below.heap_alloc _ _ _ (by simp)]
  exact h
 have V3:(((((w.alloc (.cells #[.int .i64 lim,.slice m1 m2 m3,.slice ra n rc] 29)).alloc (.cells #[.bool false] 4)).alloc (.map #[] 0)).alloc (.cells #[.map (some (w.heap.size+1+1))] 230)).alloc (.cells #[.int .i64 lim,.slice m1 m2 m3,.slice ra n rc] 29)).cell? ⟨w.heap.size+1,0,none⟩=some (.bool false):=by go_simp
 have V4:(((((w.alloc (.cells #[.int .i64 lim,.slice m1 m2 m3,.slice ra n rc] 29)).alloc (.cells #[.bool false] 4)).alloc (.map #[] 0)).alloc (.cells #[.map (some (w.heap.size+1+1))] 230)).alloc (.cells #[.int .i64 lim,.slice m1 m2 m3,.slice ra n rc] 29)).frozen? ⟨w.heap.size+1,0,none⟩=false:=by go_simp
 have V5:(((((w.alloc (.cells #[.int .i64 lim,.slice m1 m2 m3,.slice ra n rc] 29)).alloc (.cells #[.bool false] 4)).alloc (.map #[] 0)).alloc (.cells #[.map (some (w.heap.size+1+1))] 230)).alloc (.cells #[.int .i64 lim,.slice m1 m2 m3,.slice ra n rc] 29)).cell? ⟨w.heap.size+1+1+1+1,0,none⟩=some (.int .i64 lim):=by go_simp
 have V6:(((((w.alloc (.cells #[.int .i64 lim,.slice m1 m2 m3,.slice ra n rc] 29)).alloc (.cells #[.bool false] 4)).alloc (.map #[] 0)).alloc (.cells #[.map (some (w.heap.size+1+1))] 230)).alloc (.cells #[.int .i64 lim,.slice m1 m2 m3,.slice ra n rc] 29)).cell? ⟨w.heap.size+1+1+1+1,1,none⟩=some (.slice m1 m2 m3):=by go_simp
 have V7:(((((w.alloc (.cells #[.int .i64 lim,.slice m1 m2 m3,.slice ra n rc] 29)).alloc (.cells #[.bool false] 4)).alloc (.map #[] 0)).alloc (.cells #[.map (some (w.heap.size+1+1))] 230)).alloc (.cells #[.int .i64 lim,.slice m1 m2 m3,.slice ra n rc] 29)).cell? ⟨w.heap.size+1+1+1+1,2,none⟩=some (.slice ra n rc):=by go_simp
 have V8:Bwz w (((((w.alloc (.cells #[.int .i64 lim,.slice m1 m2 m3,.slice ra n rc] 29)).alloc (.cells #[.bool false] 4)).alloc (.map #[] 0)).alloc (.cells #[.map (some (w.heap.size+1+1))] 230)).alloc (.cells #[.int .i64 lim,.slice m1 m2 m3,.slice ra n rc] 29)):=by
  repeat (first|exact bR|(refine Below.alloc ?_ (by simp<;>omega) _))
 have V9:(((((w.alloc (.cells #[.int .i64 lim,.slice m1 m2 m3,.slice ra n rc] 29)).alloc (.cells #[.bool false] 4)).alloc (.map #[] 0)).alloc (.cells #[.map (some (w.heap.size+1+1))] 230)).alloc (.cells #[.int .i64 lim,.slice m1 m2 m3,.slice ra n rc] 29)).heap.size=w.heap.size+1+1+1+1+1:=by simp
 generalize (((((w.alloc (.cells #[.int .i64 lim,.slice m1 m2 m3,.slice ra n rc] 29)).alloc (.cells #[.bool false] 4)).alloc (.map #[] 0)).alloc (.cells #[.map (some (w.heap.size+1+1))] 230)).alloc (.cells #[.int .i64 lim,.slice m1 m2 m3,.slice ra n rc] 29))=V at *
 have hit:=Fk HB.out V8 (w.heap.size+1+1+1+1) EC V5 V6 (by rw[HN.out];exact V7) Ae (fun _ _=>Ae) (fun _ _ _ _=>trivial) (fun _ _ _ _=>trivial)
 dsimp only at hit
 obtain⟨E,hE⟩:=nM (ems ((((m1,m2,m3):Hdr),ml)::rs))
 rw[hE]at hit HER
 clear hE hmk
 refine C8 (gf:=161) (lb:=#[.pointer (some ⟨w.heap.size+1+1+1+1,0,none⟩)]) rfl (enters_of func161 (by kernel_rfl) rfl) hit bR (fun x hx=>by obtain⟨p,_,rfl⟩:=List.mem_map.1 hx;rfl) (fun h k=>Ao.trans h k) (fun W l o o' _ h ho=>Ao.put W l o o' h ho)
  (fun i X=>(Dl L i).Nodup/\CE X (w.heap.size+1+1) (Dl L i)/\Ao EC V X/\X.frozen? ⟨w.heap.size+1,0,none⟩=false/\Bwz w X) (fun c X=>c= .ret/\true=R/\X.cell? ⟨w.heap.size+1,0,none⟩=some (.bool true)/\Bwz w X)
  (fun i X X' row hs hg hr=>⟨hs.1,(hg.block _ (Fj hs.2.1) (fun e=>by have:=(hr _ e.symm).1;omega)).trans hs.2.1,hs.2.2.1.grown hg (fun r e=>(hr r e).2),(frozen_kept (hs.2.2.1.cell Ae V3) hg (fun r e=>(hr r e).2)).trans hs.2.2.2.1,Cx hs.2.2.2.2 nR (by omega) hg hr⟩)
  (fun c X X' row hs hg hr=>⟨hs.1,hs.2.1,cell_kept hs.2.2.1 hg (fun r e=>(hr r e).2),Cx hs.2.2.2 nR (by omega) hg hr⟩)
  ⟨List.nodup_nil,V2,Ao.refl _ _,V4,V8⟩
  (fun i a' X=> ∃B,a'={tmps:=#[.agg #[.int .i64 lim,.slice m1 m2 m3,.slice ra n rc],.pointer (some ⟨w.heap.size,0,none⟩),.pointer (some ⟨w.heap.size+1,0,none⟩),.pointer (some ⟨w.heap.size+1+1+1,0,none⟩),.pointer (some ⟨B,0,none⟩),.map (some (w.heap.size+1+1)),.agg #[.int .i64 lim,.slice m1 m2 m3,.slice ra n rc],.func (.func 161) #[] #[.pointer (some ⟨w.heap.size+1+1+1+1,0,none⟩)],(E.getD i default).val,undef,undef,undef,undef,undef,undef,undef,undef,undef,undef,undef,undef],defers:=[]}/\X.cell? ⟨B,0,none⟩=some (.string (E.getD i default).key)/\X.cell? ⟨B,1,none⟩=some (.int .i64 (E.getD i default).time)/\X.cell? ⟨B,2,none⟩=some (.int .i64 (E.getD i default).seq)/\X.cell? ⟨B,3,none⟩=some (hdV (E.getD i default).row)/\X.cell? ⟨B,4,none⟩=some (.bool (E.getD i default).met))
  (fun i a' u X X' row hs hg hr=>by
   obtain⟨B,h1,h2,h3,h4,h5,h6⟩:=hs
   exact⟨B,h1,cell_kept h2 hg (fun r e=>(hr r e).2),cell_kept h3 hg (fun r e=>(hr r e).2),cell_kept h4 hg (fun r e=>(hr r e).2),cell_kept h5 hg (fun r e=>(hr r e).2),cell_kept h6 hg (fun r e=>(hr r e).2)⟩) ?assign ?body ?done ?stop
 case assign=>
  intro l' k x X K hx hi hK
  obtain⟨hk,hxe⟩:=List.getElem?_eq_some_iff.1 hx
  rw[lMp]at hk
  rw[List.getElem_map]at hxe
  subst hxe
  have hd:E.getD k default=E[k]:=by rw[gDe,gEe hk];rfl
  have hK2:=hK
  rw[hd]at hK2
  clear hK hd hx
  obtain⟨⟨ek,et,es,⟨r1,r2,r3⟩,em⟩,hz⟩:∃z,E[k]=z:=⟨_,rfl⟩
  rw[hz]at hK2⊢
  unfold EM.val hdV at hK2⊢
  dsimp only at hK2⊢
  obtain⟨j1,j0,j2,j3,j4⟩:=hi
  gi_wp2
  have lX:w.heap.size+1<X.heap.size:=bLt _ _ (j2.cell Ae V3)
  have lM:=Fj j0
  exact hK2 _ _ ((KeepsOthers.alloc _ _).from _) (Ao.alloc _ _) ⟨j1,EP j0 (bR.alloc nR _) lM,j2.trans (Ao.alloc _ _),by go_simp,j4.alloc j4.size _⟩ ⟨X.heap.size,rfl,by go_simp,by go_simp,by go_simp,by go_simp,by go_simp⟩
 case body=>
  intro l' i x a' X hx hl' hrec hIi hax
  obtain⟨j1,j0,j2,j3,j4⟩:=hIi
  obtain⟨B,hax,b0,b1,b2,b3,b4⟩:=hax
  subst hax
  obtain⟨hi,_⟩:=List.getElem?_eq_some_iff.1 hx
  rw[lMp]at hi
  have hEL:=HER.out.1
  have hil:i<L.length:=by omega
  have her:=HER.out.2 i hil
  have KP:Hid (∀w1,CTz 186 #[(E.getD i default).val] w1 fun r w'=>r= .returned (.agg #[.string (E.getD i default).key,.int .i64 (E.getD i default).time,.int .i64 (E.getD i default).seq])/\Bwz w1 w'):=fun w1=>FM _ w1
  have hpl:Ay (L.getD i default)=((E.getD i default).key,(E.getD i default).time,(E.getD i default).seq):=by unfold Ay;rw[her.key,her.time,her.seq]
  have hwp:wfP (Ay (L.getD i default)):=HW.out _ (by rw[gDe,gEe hil];simp)
  obtain⟨⟨ek,et,es,⟨r1,r2,r3⟩,em⟩,hz⟩:∃z,E.getD i default=z:=⟨_,rfl⟩
  rw[hz]at KP b0 b1 b2 b3 b4 hpl⊢
  unfold EM.val hdV at KP
  unfold hdV at b3
  dsimp only at KP b0 b1 b2 b3 b4 hpl
  rw[hpl]at hwp
  have c0:=j2.cell Ae V0
  have c3:=j2.cell Ae V3
  have lX:w.heap.size+1<X.heap.size:=bLt _ _ c3
  have lM:=Fj j0
  have hmx:Tryz.prog.follows .mixedOrders=true:=by kernel_rfl
  have hw1:IntKind.i64.wrap 1=1:=by rw[IntKind.wrap_i64];omega
  have hw2:IntKind.i64.wrap 2=2:=by rw[IntKind.wrap_i64];omega
  have HPL:Hid (Ay (L.getD i default)=(ek,et,es)):=hpl
  have HJ:Hid ((Dl L i).Nodup/\Ao EC V X/\i<L.length):=⟨j1,j2,hil⟩
  clear hz her hEL hx hpl
  by_cases hm:(ek,et,es)∈Dl L i
  ·have HO:Hid (∀W,CE W (w.heap.size+1+1) (Dl L i)->∃(b:Nat) (W3 W4:World),
    (Instr.lookup 230 (.map (some (w.heap.size+1+1))) (.agg #[.string ek,.int .i64 et,.int .i64 es]) false).run Tryz.prog W= .ok (.int .i64 1) W/\
    (Instr.mapEntry 230 (.map (some (w.heap.size+1+1))) (.agg #[.string ek,.int .i64 et,.int .i64 es])).run Tryz.prog W= .ok (.tuple #[.int .i64 1,.int .i64 b]) W3/\
    (Instr.lookup 230 (.map (some (w.heap.size+1+1))) (.agg #[.string ek,.int .i64 et,.int .i64 es]) false).run Tryz.prog W3= .ok (.int .i64 1) W3/\
    (Instr.entryStore 230 (.map (some (w.heap.size+1+1))) (.int .i64 b) (.int .i64 2)).run Tryz.prog W3= .ok () W4/\
    (∀W5:World,W5.heap[w.heap.size+1+1]? =W4.heap[w.heap.size+1+1]? ->(Instr.lookup 230 (.map (some (w.heap.size+1+1))) (.agg #[.string ek,.int .i64 et,.int .i64 es]) false).run Tryz.prog W5= .ok (.int .i64 2) W5)/\W.grownBy W4 (some (w.heap.size+1+1))):=fun W hW=>by
    have h:=X5 hW hwp hm
    unfold B5 at h
    exact h
   have HE:Hid (true=R):=by
    show _=_
    rw[<-HRR.out,YP HJ.out.2.2 (by rw[HPL.out];exact hm)];rfl
   gi_wp2
   refine wpIn_mono (Q:=fun e a' W'=> ∃(bo:Nat) (w2:World),e= .normal/\a'={tmps:=#[.agg #[.int .i64 lim,.slice m1 m2 m3,.slice ra n rc],.pointer (some ⟨w.heap.size,0,none⟩),.pointer (some ⟨w.heap.size+1,0,none⟩),.pointer (some ⟨w.heap.size+1+1+1,0,none⟩),.pointer (some ⟨B,0,none⟩),.map (some (w.heap.size+1+1)),.agg #[.int .i64 lim,.slice m1 m2 m3,.slice ra n rc],.func (.func 161) #[] #[.pointer (some ⟨w.heap.size+1+1+1+1,0,none⟩)],EM.val ⟨ek,et,es,(r1,r2,r3),em⟩,.map (some (w.heap.size+1+1)),.agg #[.string ek,.int .i64 et,.int .i64 es,.slice r1 r2 r3,.bool em],.agg #[.string ek,.int .i64 et,.int .i64 es],.int .i64 1,.int .i64 2,.tuple #[.int .i64 1,.int .i64 (bo:Nat)],.int .i64 (bo:Nat),undef,undef,undef,undef,undef],defers:=[]}/\Bwz X w2/\CE w2 (w.heap.size+1+1) (Dl L i)/\(∀W5:World,W5.heap[w.heap.size+1+1]? =W'.heap[w.heap.size+1+1]? ->(Instr.lookup 230 (.map (some (w.heap.size+1+1))) (.agg #[.string ek,.int .i64 et,.int .i64 es]) false).run Tryz.prog W5= .ok (.int .i64 2) W5)/\w2.grownBy W' (some (w.heap.size+1+1))) ?_ ?_
   ·gi_region_with_o (refine⟨trivial,rfl,?_⟩;gi_at_call 186;refine(CallsIn.inRound l' (callsIn_wide.2 (KP.out _))).mono ?_;rintro e w2 ⟨rfl,hb2⟩;have hb3:Bwz X w2:=bR.drew.trans hb2;have k0:=cLz hb3 c0;have m2':CE w2 (w.heap.size+1+1) (Dl L i):=EP j0 hb3 lM;obtain⟨bo,W3,W4,o1,o2,o3,o4,o5,o6⟩:=HO.out w2 m2')
    all_goals exact⟨bo,w2,rfl,rfl,hb3,m2',o5,o6⟩
   ·rintro e a' W4 ⟨bo,w2,rfl,rfl,hb3,m2',o5,o6⟩
    have d0:=cell_grown m2' o6 (cLz hb3 c0)
    have d3:=cell_grown m2' o6 (cLz hb3 c3)
    have df:=L1 m2' o6 (cLz hb3 c3) (by rw[hb3.frozen (p:=⟨w.heap.size+1,0,none⟩) lX];exact j3)
    have e0:=cell_grown m2' o6 (cLz hb3 b0)
    have e1:=cell_grown m2' o6 (cLz hb3 b1)
    have e2:=cell_grown m2' o6 (cLz hb3 b2)
    have e3:=cell_grown m2' o6 (cLz hb3 b3)
    have e4:=cell_grown m2' o6 (cLz hb3 b4)
    have kx:KeepsFrom V.heap.size X W4:=(B8 hb3).trans (Pu o6 (by omega))
    have hbx:Bwz w W4:=(j4.trans (hb3.mono j4.size)).grown o6 (by have:=hb3.size;omega) (fun r e=>by cases e;omega)
    have l4:w.heap.size+1+1<W4.heap.size:=by have:=hb3.size;have:=o6.size;omega
    clear j0 m2' o6 hb3 HO c0 c3 b0 b1 b2 b3 b4
    gi_wp2
    gi_region_with_o (refine⟨trivial,rfl,?_⟩;gi_at_call 186;refine(CallsIn.inRound l' (callsIn_wide.2 (KP.out _))).mono ?_;rintro e w5 ⟨rfl,hb5⟩;have hb6:Bwz W4 w5:=bR.drew.trans hb5;have k0:=cLz hb6 d0;have k3:=cLz hb6 d3;have kf:w5.frozen? ⟨w.heap.size+1,0,none⟩=false:=(by rw[hb6.frozen (p:=⟨w.heap.size+1,0,none⟩) (by dsimp only;omega)];exact df);have lk:=o5 w5 (hb6.block _ l4))
    all_goals
     gi_wp2
     exact⟨(kx.trans (B8 hb6)).trans ((KeepsOthers.setCell _ _ _).from _),rfl,HE.out,World.cell?_setCell_same _ _ _ k3,(hbx.trans (hb6.mono hbx.size)).setCell (by dsimp only;omega) _⟩
  ·have HO:Hid (∀W,CE W (w.heap.size+1+1) (Dl L i)->∃W3 W4,
    (Instr.lookup 230 (.map (some (w.heap.size+1+1))) (.agg #[.string ek,.int .i64 et,.int .i64 es]) false).run Tryz.prog W= .ok (.int .i64 0) W/\
    (Instr.mapEntry 230 (.map (some (w.heap.size+1+1))) (.agg #[.string ek,.int .i64 et,.int .i64 es])).run Tryz.prog W= .ok (.tuple #[.int .i64 0,.int .i64 (Dl L i).length]) W3/\
    (Instr.lookup 230 (.map (some (w.heap.size+1+1))) (.agg #[.string ek,.int .i64 et,.int .i64 es]) false).run Tryz.prog W3= .ok (.int .i64 0) W3/\
    (Instr.entryStore 230 (.map (some (w.heap.size+1+1))) (.int .i64 (Dl L i).length) (.int .i64 1)).run Tryz.prog W3= .ok () W4/\
    CE W4 (w.heap.size+1+1) (Dl L i++[(ek,et,es)])/\W.grownBy W4 (some (w.heap.size+1+1))):=fun W hW=>by
    have h:=X4 hW hwp hm
    unfold B5 at h
    exact h
   have HLK:Hid (∀W,CE W (w.heap.size+1+1) (Dl L i++[(ek,et,es)])->(Instr.lookup 230 (.map (some (w.heap.size+1+1))) (.agg #[.string ek,.int .i64 et,.int .i64 es]) false).run Tryz.prog W= .ok (.int .i64 1) W):=fun W hW=>by
    have h:=VC hW hwp hm
    unfold B5 at h
    exact h
   have HS:Hid (Dl L (i+1)=Dl L i++[(ek,et,es)]/\(Dl L (i+1)).Nodup):=⟨by rw[Jd HJ.out.2.2,HPL.out],QX HJ.out.2.2 HJ.out.1 (by rw[HPL.out];exact hm)⟩
   obtain⟨pn,hpn⟩:=nM ((Dl L i).length)
   rw[hpn]at HO
   clear hpn
   gi_wp2
   refine wpIn_mono (Q:=fun e a' W'=> ∃(w2:World),e= .normal/\a'={tmps:=#[.agg #[.int .i64 lim,.slice m1 m2 m3,.slice ra n rc],.pointer (some ⟨w.heap.size,0,none⟩),.pointer (some ⟨w.heap.size+1,0,none⟩),.pointer (some ⟨w.heap.size+1+1+1,0,none⟩),.pointer (some ⟨B,0,none⟩),.map (some (w.heap.size+1+1)),.agg #[.int .i64 lim,.slice m1 m2 m3,.slice ra n rc],.func (.func 161) #[] #[.pointer (some ⟨w.heap.size+1+1+1+1,0,none⟩)],EM.val ⟨ek,et,es,(r1,r2,r3),em⟩,.map (some (w.heap.size+1+1)),.agg #[.string ek,.int .i64 et,.int .i64 es,.slice r1 r2 r3,.bool em],.agg #[.string ek,.int .i64 et,.int .i64 es],.int .i64 0,.int .i64 1,.tuple #[.int .i64 0,.int .i64 (pn:Nat)],.int .i64 (pn:Nat),undef,undef,undef,undef,undef],defers:=[]}/\Bwz X w2/\CE w2 (w.heap.size+1+1) (Dl L i)/\CE W' (w.heap.size+1+1) (Dl L i++[(ek,et,es)])/\w2.grownBy W' (some (w.heap.size+1+1))) ?_ ?_
   ·gi_region_with_o (refine⟨trivial,rfl,?_⟩;gi_at_call 186;refine(CallsIn.inRound l' (callsIn_wide.2 (KP.out _))).mono ?_;rintro e w2 ⟨rfl,hb2⟩;have hb3:Bwz X w2:=bR.drew.trans hb2;have k0:=cLz hb3 c0;have m2':CE w2 (w.heap.size+1+1) (Dl L i):=EP j0 hb3 lM;obtain⟨W3,W4,o1,o2,o3,o4,o5,o6⟩:=HO.out w2 m2')
    all_goals exact⟨w2,rfl,rfl,hb3,m2',o5,o6⟩
   ·rintro e a' W4 ⟨w2,rfl,rfl,hb3,m2',o5,o6⟩
    have d0:=cell_grown m2' o6 (cLz hb3 c0)
    have d3:=cell_grown m2' o6 (cLz hb3 c3)
    have df:=L1 m2' o6 (cLz hb3 c3) (by rw[hb3.frozen (p:=⟨w.heap.size+1,0,none⟩) lX];exact j3)
    have e0:=cell_grown m2' o6 (cLz hb3 b0)
    have e1:=cell_grown m2' o6 (cLz hb3 b1)
    have e2:=cell_grown m2' o6 (cLz hb3 b2)
    have e3:=cell_grown m2' o6 (cLz hb3 b3)
    have e4:=cell_grown m2' o6 (cLz hb3 b4)
    have kx:KeepsFrom V.heap.size X W4:=(B8 hb3).trans (Pu o6 (by omega))
    have ko:Ao EC X W4:=(BM hb3 nR).trans (Wd m2' o6)
    have hbx:Bwz w W4:=(j4.trans (hb3.mono j4.size)).grown o6 (by have:=hb3.size;omega) (fun r e=>by cases e;omega)
    have l4:w.heap.size+1+1<W4.heap.size:=Fj o5
    clear j0 m2' o6 hb3 HO c0 c3 b0 b1 b2 b3 b4
    gi_wp2
    gi_region_with_o (refine⟨trivial,rfl,?_⟩;gi_at_call 186;refine(CallsIn.inRound l' (callsIn_wide.2 (KP.out _))).mono ?_;rintro e w5 ⟨rfl,hb5⟩;have hb6:Bwz W4 w5:=bR.drew.trans hb5;have k0:=cLz hb6 d0;have mm:CE w5 (w.heap.size+1+1) (Dl L i++[(ek,et,es)]):=EP o5 hb6 l4;have lk:=HLK.out w5 mm)
    all_goals
     gi_wp2
     exact⟨kx.trans (B8 hb6),ko.trans (BM hb6 nR),HS.out.2,by rw[HS.out.1];exact mm,HJ.out.2.1.trans (ko.trans (BM hb6 nR)),by rw[hb6.frozen (p:=⟨w.heap.size+1,0,none⟩) (by dsimp only;omega)];exact df,hbx.trans (hb6.mono hbx.size)⟩
 case done=>
  rintro D X hD ⟨j1,j0,j2,j3,j4⟩ hK
  have c3:=j2.cell Ae V3
  have HE:Hid (false=R):=by
   show _=_
   rw[lMp,HER.out.1]at j1
   rw[<-HRR.out,QW j1];rfl
  clear j0
  gi_wp2
  have hK2:(X.setCell ⟨w.heap.size+1,0,none⟩ (.bool false)).heap[D]? =some (.deferred (some [])):=(heap_setCell_other _ _ _ _ (by dsimp only;omega)).trans hK
  refine⟨by simp,.inl ⟨_,_,rfl,run_takeDeferred hK2,?_⟩⟩
  have y3:=Cj (World.cell?_setCell_same _ _ (.bool false) c3) hK2 rfl (.deferred none)
  exact⟨.bool false,(by simp[results,results139,go_sem,y3]),Aa HE.out,Ci (j4.setCell (by dsimp only;omega) _) (by omega) hK2 _⟩
 case stop=>
  rintro D c X hD ⟨rfl,hE,c3,j4⟩ hK
  gi_wp2
  refine⟨by simp,.inl ⟨_,_,rfl,run_takeDeferred hK,?_⟩⟩
  have y3:=Cj c3 hK rfl (.deferred none)
  exact⟨.bool true,(by simp[results,results139,go_sem,y3]),Aa hE,Ci j4 (by omega) hK _⟩
noncomputable def FW(l:List Ent):Bool:=allB l.length (Es l)
theorem Ma(h:Hdr)(es:List EM)(l:List Ent)(w:World)(hlen:h.2.1=l.length)(hl:l.length<=9223372036854775807)(ha:BD w h.1 es)(hr:ERs w es l)(hwf:∀x∈l,wfE x):
 Calls Tryz.prog 137 #[hdV h] w fun e w'=>e= .returned (.bool (FW l))/\Bwz w w':=by
 obtain⟨a,n,c⟩:=h
 unfold hdV
 dsimp only at hlen ha⊢
 subst hlen
 have KE:Hid (∀w1,Bwz w w1->w1.cell? ⟨w.heap.size,0,none⟩=some (.slice a l.length c)->CTz 181 #[.slice a l.length c,.func (.func 182) #[] #[.pointer (some ⟨w.heap.size,0,none⟩)]] w1 fun e w'=>e= .returned (.bool (FW l))/\Bwz w1 w'):=fun w1 hb hc=>by
  have h:=MZ 182 (enters_of func182 (by kernel_rfl) rfl) #[.pointer (some ⟨w.heap.size,0,none⟩)] (Es l) a c es w1 (by rw[hr.1];exact hl) (Bk ha hb) (fun i w2 hi hb2=>SM a c es l i w.heap.size w2 (by rw[hr.1]at hi;exact hi) hl (cLz hb2 hc) (Bk (Bk ha hb) hb2) ((hr.below hb).below hb2) hwf)
  rw[hr.1]at h
  exact h
 obtain⟨n,hn⟩:=nM l.length
 rw[hn]at KE⊢
 clear ha hr hwf hn hl
 obtain⟨R,hR⟩:=nM (FW l)
 rw[hR]at KE⊢
 clear hR
 have hb0:Bwz w (w.alloc (.cells #[.slice a n c] 26)):=bR.alloc nR _
 go_enter func137,ntmps137
 go_wp2_with (go_at_call 181;refine(KE.out _ hb0 (by go_simp)).mono ?_;rintro e w2 ⟨rfl,hb2⟩)
 go_ret
 exact⟨rfl,hb0.trans (hb2.mono hb0.size)⟩
def GL(b:Buf):Bool:=allB b.runs.length fun i=>decide (0<(b.runs.getD i default).length)
theorem QY{P Q:Nat->Bool}(h:∀i,i<n->P i=Q i):allB n P=allB n Q:=by
 rcases Bool.eq_false_or_eq_true (allB n Q)with h1|h1
 ·rw[h1];exact A9.2 (fun i hi=>by rw[h i hi];exact A9.1 h1 i hi)
 ·rw[h1]
  rcases Bool.eq_false_or_eq_true (allB n P)with h2|h2
  ·have:allB n Q=true:=A9.2 (fun i hi=>by rw[<-h i hi];exact A9.1 h2 i hi)
   rw[h1]at this;cases this
  ·exact h2
theorem I1(b:Buf)(x:BX)(w:World)(h:bufAt w b x):
 Calls Tryz.prog 138 #[AN b x] w fun e w'=>e= .returned (.bool (!GL b))/\Bwz w w':=by
 have KE:Hid (∀w1,Bwz w w1->CTz 184 #[.slice x.ra x.rs.length x.rc,.func (.func 185) #[] #[]] w1 fun e w'=>e= .returned (.bool (GL b))/\Bwz w1 w'):=fun w1 hb=>by
  have hl:(x.rs.map (·.1)).length=x.rs.length:=lMp ..
  have k:=Na 185 (enters_of func185 (by kernel_rfl) rfl) #[] (fun i=>decide (0<((x.rs.map (·.1)).getD i (none,0,0)).2.1)) x.ra x.rc (x.rs.map (·.1)) w1 (by rw[hl];exact h.few) (FP h.hds hb) (fun i w2 hi hb2=>by rw[Array.append_empty];exact Qe _ _ w2)
  have e:allB (x.rs.map (·.1)).length (fun i=>decide (0<((x.rs.map (·.1)).getD i (none,0,0)).2.1))=GL b:=by
   unfold GL
   rw[hl,h.rlen]
   refine QY (fun i hi=>?_)
   have hi2:i<x.rs.length:=by rw[h.rlen];exact hi
   have h1:=(h.runs i hi).1
   have h2:=(h.len (x.rs[i]) (List.mem_cons_of_mem _ (List.getElem_mem hi2))).1
   have e1:(x.rs.map (·.1)).getD i (none,0,0)=(x.rs[i]).1:=by rw[gDe,List.getElem?_map,gEe hi2];rfl
   have e2:x.rs.getD i default=x.rs[i]:=by rw[gDe,gEe hi2];rfl
   rw[e2]at h1
   rw[e1,h2,h1]
  rw[e,hl]at k
  exact k
 obtain⟨R,hR⟩:=nM (GL b)
 rw[hR]at KE⊢
 clear hR h
 obtain⟨ra,rc,⟨⟨m1,m2,m3⟩,ml⟩,rs⟩:=x
 obtain⟨lim,mem,runs⟩:=b
 unfold AN hdV
 dsimp only at KE⊢
 obtain⟨n,hn⟩:∃n,rs.length=n:=⟨_,rfl⟩
 rw[hn]at KE⊢
 clear hn
 have hb0:Bwz w (w.alloc (.cells #[.int .i64 lim,.slice m1 m2 m3,.slice ra n rc] 29)):=bR.alloc nR _
 go_enter func138,ntmps138
 go_wp2_with (go_at_call 184;refine(KE.out _ hb0).mono ?_;rintro e w2 ⟨rfl,hb2⟩)
 go_ret
 exact⟨rfl,hb0.trans (hb2.mono hb0.size)⟩
def countB(b:Buf):Bool:=decide ((b.mem.length:Int)<=b.lim)&&decide ((Ab b).length<=4096)
theorem Ec(b:Buf)(x:BX)(w:World)(h:bufAt w b x)(hs:(Ab b).length<=4611686018427387904):
 Calls Tryz.prog 75 #[AN b x] w fun e w'=>e= .returned (.bool (countB b))/\Bwz w w':=by
 have KS:=hIz (fun(w1:World) (hb:Bwz w w1)=>Ks b x w1 (Ai h hb) hs)
 have hm:x.m.1.2.1=b.mem.length:=(h.len x.m (List.mem_cons_self ..)).1.trans h.mem.1
 obtain⟨R,hR⟩:=nM (countB b)
 have HRR:Hid (countB b=R):=hR
 rw[hR]
 clear hR h
 obtain⟨ra,rc,⟨⟨m1,m2,m3⟩,ml⟩,rs⟩:=x
 obtain⟨lim,mem,runs⟩:=b
 unfold AN hdV at KS⊢
 dsimp only at KS HRR hm⊢
 obtain⟨n,hn⟩:∃n,rs.length=n:=⟨_,rfl⟩
 rw[hn]at KS⊢
 clear hn
 obtain⟨N,hN⟩:=nM ((Ab ⟨lim,mem,runs⟩).length)
 rw[hN]at KS
 have HR2:Hid ((decide ((m2:Int)<=lim)&&decide (N<=4096))=R):=by
  show _=_
  rw[<-HRR.out];unfold countB;rw[hN,hm]
 clear hN HRR hm hs
 have hb0:Bwz w (w.alloc (.cells #[.int .i64 lim,.slice m1 m2 m3,.slice ra n rc] 29)):=bR.alloc nR _
 by_cases h1:(m2:Int)<=lim
 ·by_cases h2:N<=4096
  ·have HE:Hid (true=R):=by show _=_;rw[<-HR2.out];simp[h1,h2]
   have h2':(N:Int)<=4096:=by omega
   go_enter func75,ntmps75
   go_wp2_with (go_at_call 135;refine(KS.out _ hb0).mono ?_;rintro e w2 ⟨rfl,hb2⟩)
   go_ret
   exact⟨Aa HE.out,hb0.trans (hb2.mono hb0.size)⟩
  ·have HE:Hid (false=R):=by show _=_;rw[<-HR2.out];simp[h2]
   have h2':¬(N:Int)<=4096:=by omega
   have H2:Hid (¬(N:Int)<=4096):=h2'
   go_enter func75,ntmps75
   go_wp2_with (go_at_call 135;refine(KS.out _ hb0).mono ?_;rintro e w2 ⟨rfl,hb2⟩)
   go_ret
   exact⟨Aa ((decide_eq_false (by have:=H2.out;omega)).trans HE.out),hb0.trans (hb2.mono hb0.size)⟩
 ·have HE:Hid (false=R):=by show _=_;rw[<-HR2.out];simp[h1]
  go_enter func75,ntmps75
  go_wp2
  go_ret
  exact⟨Aa HE.out,hb0⟩
noncomputable def Ee(b:Buf):Bool:=allB (partsB b).length (fun i=>FW ((partsB b).getD i default))&&(GL b&&BJ (Ab b))
theorem TQ{b:Buf}(hi:i<(partsB b).length)(h:FW ((partsB b).getD i default)=false):Ee b=false:=by unfold Ee;rw[Dc hi h];rfl
theorem QZ{b:Buf}(h:∀i,i<(partsB b).length->FW ((partsB b).getD i default)=true):Ee b=(GL b&&BJ (Ab b)):=by unfold Ee;rw[A9.2 h];rfl
theorem CW(b:Buf)(x:BX)(w:World)(h:bufAt w b x)(hw:∀y∈Ab b,wfE y/\wfP (Ay y)):
 Calls Tryz.prog 76 #[AN b x] w fun e w'=>e= .returned (.bool (Ee b))/\Bwz w w':=by
 have HB:Hid (bufAt w b x):=h
 have K1:=hIz (fun(w1:World) (hb:Bwz w w1)=>I1 b x w1 (Ai h hb))
 have K2:=hIz (fun(w1:World) (hb:Bwz w w1)=>TP b x w1 (Ai h hb) (fun y hy=>(hw y hy).2))
 have KP:Hid (∀i w1,i<(x.m::x.rs).length->Bwz w w1->CTz 137 #[hdV ((x.m::x.rs).getD i default).1] w1 fun e w'=>e= .returned (.bool (FW ((partsB b).getD i default)))/\Bwz w1 w'):=fun i w1 hi hb=>by
  have hmem:(x.m::x.rs).getD i default∈x.m::x.rs:=by rw[gDe,gEe hi];exact List.getElem_mem hi
  have hpl:(partsB b).length=(x.m::x.rs).length:=by simp[partsB,h.rlen]
  have hE:ERs w ((x.m::x.rs).getD i default).2 ((partsB b).getD i default):=by
   cases i with
   |zero=>exact h.mem
   |succ i=>
    have hi':i<b.runs.length:=by rw[List.length_cons,h.rlen]at hi;omega
    simpa[partsB]using h.runs i hi'
  have hl:=h.len _ hmem
  refine Ma _ _ _ w1 (by rw[hl.1,hE.1]) (by rw[<-hE.1];exact hl.2) (Bk (h.ems _ hmem) hb) (hE.below hb) (fun y hy=>(hw y ?_).1)
  unfold Ab
  refine List.mem_flatten.2 ⟨_,?_,hy⟩
  rw[gDe,gEe (by rw[hpl];exact hi)]
  exact List.getElem_mem (by rw[hpl];exact hi)
 have HPL:Hid ((partsB b).length=(x.m::x.rs).length):=by show _=_;simp[partsB,h.rlen]
 obtain⟨R,hR⟩:=nM (Ee b)
 have HBAD:Hid (∀i,i<(x.m::x.rs).length->FW ((partsB b).getD i default)=false->false=R):=fun i hi hf=>by rw[<-hR,TQ (by rw[HPL.out];exact hi) hf]
 have HGOOD:Hid ((∀i,i<(x.m::x.rs).length->FW ((partsB b).getD i default)=true)->(GL b&&BJ (Ab b))=R):=fun hg=>by rw[<-hR,QZ (fun i hi=>hg i (by rw[<-HPL.out];exact hi))]
 rw[hR]
 clear hR h hw HPL
 obtain⟨RB,hRB⟩:∃z:Nat->Bool,(fun i=>FW ((partsB b).getD i default))=z:=⟨_,rfl⟩
 have eRB:∀i,FW ((partsB b).getD i default)=RB i:=fun i=>congrFun hRB i
 simp only[eRB]at KP HBAD HGOOD
 obtain⟨G1,hG1⟩:=nM (GL b)
 obtain⟨G2,hG2⟩:=nM (BJ (Ab b))
 rw[hG1]at K1 HGOOD
 rw[hG2]at K2 HGOOD
 clear hRB eRB hG1 hG2
 obtain⟨ra,rc,⟨⟨m1,m2,m3⟩,ml⟩,rs⟩:=x
 obtain⟨lim,mem,runs⟩:=b
 unfold AN at K1 K2⊢
 dsimp only at KP HBAD HGOOD K1 K2⊢
 obtain⟨n,hn⟩:∃n,rs.length=n:=⟨_,rfl⟩
 have HN:Hid (rs.length=n):=hn
 rw[hn]at K1 K2⊢
 clear hn
 have e1:hdV (m1,m2,m3)= .slice m1 m2 m3:=rfl
 rw[e1]at K1 K2⊢
 refine(callsIn_wide (n:=0)).1 ?_
 refine callsIn_of_wp_marks func76 rfl trivial ?_ rfl
 simp only[ntmps76,List.size_toArray,List.length_cons,List.length_nil,Nat.reduceAdd,Nat.reduceSub,Array.replicate_succ,Array.replicate_zero,List.push_toArray,List.append_toArray,List.nil_append,List.cons_append]
 gi_wp2_with (refine⟨trivial,rfl,?_⟩;gi_at_call 136;refine(callsIn_wide.2 (Gg _ _ _ rfl rfl rfl _)).mono ?_;rintro e w' ⟨rfl,rfl⟩)
 have V0:(((w.alloc (.cells #[.int .i64 lim,.slice m1 m2 m3,.slice ra n rc] 29)).alloc (.cells #[.bool false] 4)).alloc (.cells #[.int .i64 lim,.slice m1 m2 m3,.slice ra n rc] 29)).cell? ⟨w.heap.size,0,none⟩=some (.int .i64 lim):=by go_simp
 have V1:(((w.alloc (.cells #[.int .i64 lim,.slice m1 m2 m3,.slice ra n rc] 29)).alloc (.cells #[.bool false] 4)).alloc (.cells #[.int .i64 lim,.slice m1 m2 m3,.slice ra n rc] 29)).cell? ⟨w.heap.size,1,none⟩=some (.slice m1 m2 m3):=by go_simp
 have V2:(((w.alloc (.cells #[.int .i64 lim,.slice m1 m2 m3,.slice ra n rc] 29)).alloc (.cells #[.bool false] 4)).alloc (.cells #[.int .i64 lim,.slice m1 m2 m3,.slice ra n rc] 29)).cell? ⟨w.heap.size,2,none⟩=some (.slice ra n rc):=by go_simp
 have V3:(((w.alloc (.cells #[.int .i64 lim,.slice m1 m2 m3,.slice ra n rc] 29)).alloc (.cells #[.bool false] 4)).alloc (.cells #[.int .i64 lim,.slice m1 m2 m3,.slice ra n rc] 29)).cell? ⟨w.heap.size+1,0,none⟩=some (.bool false):=by go_simp
 have V4:(((w.alloc (.cells #[.int .i64 lim,.slice m1 m2 m3,.slice ra n rc] 29)).alloc (.cells #[.bool false] 4)).alloc (.cells #[.int .i64 lim,.slice m1 m2 m3,.slice ra n rc] 29)).frozen? ⟨w.heap.size+1,0,none⟩=false:=by go_simp
 have V6:(((w.alloc (.cells #[.int .i64 lim,.slice m1 m2 m3,.slice ra n rc] 29)).alloc (.cells #[.bool false] 4)).alloc (.cells #[.int .i64 lim,.slice m1 m2 m3,.slice ra n rc] 29)).cell? ⟨w.heap.size+1+1,1,none⟩=some (.slice m1 m2 m3):=by go_simp
 have V7:(((w.alloc (.cells #[.int .i64 lim,.slice m1 m2 m3,.slice ra n rc] 29)).alloc (.cells #[.bool false] 4)).alloc (.cells #[.int .i64 lim,.slice m1 m2 m3,.slice ra n rc] 29)).cell? ⟨w.heap.size+1+1,2,none⟩=some (.slice ra n rc):=by go_simp
 have V8:Bwz w (((w.alloc (.cells #[.int .i64 lim,.slice m1 m2 m3,.slice ra n rc] 29)).alloc (.cells #[.bool false] 4)).alloc (.cells #[.int .i64 lim,.slice m1 m2 m3,.slice ra n rc] 29)):=by
  repeat (first|exact bR|(refine Below.alloc ?_ (by simp<;>omega) _))
 have V9:(((w.alloc (.cells #[.int .i64 lim,.slice m1 m2 m3,.slice ra n rc] 29)).alloc (.cells #[.bool false] 4)).alloc (.cells #[.int .i64 lim,.slice m1 m2 m3,.slice ra n rc] 29)).heap.size=w.heap.size+1+1+1:=by simp
 generalize (((w.alloc (.cells #[.int .i64 lim,.slice m1 m2 m3,.slice ra n rc] 29)).alloc (.cells #[.bool false] 4)).alloc (.cells #[.int .i64 lim,.slice m1 m2 m3,.slice ra n rc] 29))=V at *
 have hit:=GQ HB.out V8 (w.heap.size+1+1) EC V6 (by rw[HN.out];exact V7) Ae (fun _ _ _=>Ae)
 obtain⟨P,hP⟩:∃z:List Part,(((m1,m2,m3),ml)::rs)=z:=⟨_,rfl⟩
 dsimp only at hit
 rw[hP]at hit KP HBAD HGOOD
 clear hP
 refine C8 (gf:=180) (lb:=#[.pointer (some ⟨w.heap.size+1+1,0,none⟩)]) rfl (enters_of func180 (by kernel_rfl) rfl) hit bR (fun x hx=>by obtain⟨p,_,rfl⟩:=List.mem_map.1 hx;rfl) (fun h k=>Ao.trans h k) (fun W l o o' _ h ho=>Ao.put W l o o' h ho)
  (fun i X=>(∀j,j<i->RB j=true)/\Ao EC V X/\X.frozen? ⟨w.heap.size+1,0,none⟩=false/\Bwz w X) (fun c X=>c= .ret/\false=R/\X.cell? ⟨w.heap.size+1,0,none⟩=some (.bool false)/\Bwz w X)
  (fun i X X' row hs hg hr=>⟨hs.1,hs.2.1.grown hg (fun r e=>(hr r e).2),(frozen_kept (hs.2.1.cell Ae V3) hg (fun r e=>(hr r e).2)).trans hs.2.2.1,Cx hs.2.2.2 nR (by omega) hg hr⟩)
  (fun c X X' row hs hg hr=>⟨hs.1,hs.2.1,cell_kept hs.2.2.1 hg (fun r e=>(hr r e).2),Cx hs.2.2.2 nR (by omega) hg hr⟩)
  ⟨fun j hj=>absurd hj (Nat.not_lt_zero j),Ao.refl _ _,V4,V8⟩
  (fun i a' X=>a'={tmps:=#[.agg #[.int .i64 lim,.slice m1 m2 m3,.slice ra n rc],.pointer (some ⟨w.heap.size,0,none⟩),.pointer (some ⟨w.heap.size+1,0,none⟩),hdV (P.getD i default).1,.agg #[.int .i64 lim,.slice m1 m2 m3,.slice ra n rc],.func (.func 180) #[] #[.pointer (some ⟨w.heap.size+1+1,0,none⟩)],hdV (P.getD i default).1,undef,undef,undef,undef,undef,undef,undef,undef,undef,undef,undef],defers:=[]})
  (fun i a' u X X' row hs hg hr=>hs) ?assign ?body ?done ?stop
 case assign=>
  intro l' k x X K hx hi hK
  obtain⟨hk,hxe⟩:=List.getElem?_eq_some_iff.1 hx
  rw[lMp]at hk
  rw[List.getElem_map]at hxe
  subst hxe
  have hd:P.getD k default=P[k]:=by rw[gDe,gEe hk];rfl
  have hK2:=fun W' h1 h2 h3=>hK _ W' h1 h2 h3 rfl
  rw[hd]at hK2
  clear hK hd hx
  obtain⟨⟨⟨z1,z2,z3⟩,zl⟩,hz⟩:∃z,P[k]=z:=⟨_,rfl⟩
  rw[hz]at hK2⊢
  unfold hdV at hK2⊢
  dsimp only at hK2⊢
  gi_wp2
  exact hK2 X (KeepsFrom.refl _ _) (Ao.refl _ _) hi
 case body=>
  intro l' i x a' X hx hl' hrec hIi hax
  obtain⟨j1,j2,j3,j4⟩:=hIi
  obtain⟨hi,hxe⟩:=List.getElem?_eq_some_iff.1 hx
  rw[lMp]at hi
  subst hax
  have KQ:Hid (CTz 137 #[hdV (P.getD i default).1] X fun e w'=>e= .returned (.bool (RB i))/\Bwz X w'):=KP.out i X hi j4
  have c3:=j2.cell Ae V3
  have lX:w.heap.size+1<X.heap.size:=bLt _ _ c3
  have HB1:Hid (RB i=false->false=R):=HBAD.out i hi
  have HJ:Hid ((∀j,j<i->RB j=true)/\Ao EC V X):=⟨j1,j2⟩
  clear hx hxe KP HBAD HGOOD j1 j2
  obtain⟨⟨⟨z1,z2,z3⟩,zl⟩,hz⟩:∃z,P.getD i default=z:=⟨_,rfl⟩
  rw[hz]at KQ⊢
  unfold hdV at KQ⊢
  dsimp only at KQ⊢
  clear hz
  cases hb:RB i with
  |true=>
   rw[hb]at KQ
   gi_wp2_with (refine⟨trivial,rfl,?_⟩;gi_at_call 137;refine(CallsIn.inRound l' (callsIn_wide.2 KQ.out)).mono ?_;rintro e w2 ⟨rfl,hb2⟩)
   exact⟨B8 hb2,BM hb2 nR,fun j hj=>by
    rcases Nat.lt_succ_iff_lt_or_eq.1 hj with h|h
    ·exact HJ.out.1 j h
    ·rw[h];exact hb,HJ.out.2.trans (BM hb2 nR),by rw[hb2.frozen (p:=⟨w.heap.size+1,0,none⟩) lX];exact j3,j4.trans (hb2.mono j4.size)⟩
  |false=>
   rw[hb]at KQ
   gi_wp2_with (refine⟨trivial,rfl,?_⟩;gi_at_call 137;refine(CallsIn.inRound l' (callsIn_wide.2 KQ.out)).mono ?_;rintro e w2 ⟨rfl,hb2⟩;have k3:=cLz hb2 c3;have kf:w2.frozen? ⟨w.heap.size+1,0,none⟩=false:=(by rw[hb2.frozen (p:=⟨w.heap.size+1,0,none⟩) lX];exact j3))
   exact⟨(B8 hb2).trans ((KeepsOthers.setCell _ _ _).from _),rfl,HB1.out hb,World.cell?_setCell_same _ _ _ k3,(j4.trans (hb2.mono j4.size)).setCell (by dsimp only;omega) _⟩
 case done=>
  rintro D X hD ⟨j1,j2,j3,j4⟩ hK
  rw[lMp]at j1
  have HE:Hid ((G1&&G2)=R):=HGOOD.out j1
  have c0:=j2.cell Ae V0
  have c1:=j2.cell Ae V1
  have c2:=j2.cell Ae V2
  have c3:=j2.cell Ae V3
  have lX:w.heap.size+1<X.heap.size:=bLt _ _ c3
  have lD:D<X.heap.size:=(Array.getElem?_eq_some_iff.1 hK).1
  clear j1 HBAD HGOOD KP
  cases hg1:G1 with
  |false=>
   have HE2:Hid (false=R):=by show _=_;rw[<-HE.out,hg1];rfl
   rw[hg1]at K1
   gi_wp2_with (first|(refine⟨trivial,rfl,?_⟩;gi_at_call 138;refine(callsIn_wide.2 (K1.out _ j4)).mono ?_;rintro e w2 ⟨rfl,hb2⟩;have k3:=cLz hb2 c3;have kf:w2.frozen? ⟨w.heap.size+1,0,none⟩=false:=(by rw[hb2.frozen (p:=⟨w.heap.size+1,0,none⟩) lX];exact j3))|refine⟨trivial,?_⟩)
   have hK2:(w2.setCell ⟨w.heap.size+1,0,none⟩ (.bool false)).heap[D]? =some (.deferred (some [])):=(heap_setCell_other _ _ _ _ (by dsimp only;omega)).trans ((hb2.block _ lD).trans hK)
   refine⟨by simp,.inl ⟨_,_,rfl,run_takeDeferred hK2,?_⟩⟩
   have y3:=Cj (World.cell?_setCell_same _ _ (.bool false) k3) hK2 rfl (.deferred none)
   exact⟨.bool false,(by simp[results,results76,go_sem,y3]),Aa HE2.out,Ci ((j4.trans (hb2.mono j4.size)).setCell (by dsimp only;omega) _) (by omega) hK2 _⟩
  |true=>
   have HE2:Hid (G2=R):=by show _=_;rw[<-HE.out,hg1];rfl
   rw[hg1]at K1
   gi_wp2_with (first
    |(refine⟨trivial,rfl,?_⟩;gi_at_call 138;refine(callsIn_wide.2 (K1.out _ j4)).mono ?_;rintro e w2 ⟨rfl,hb2⟩;have k0:=cLz hb2 c0;have k1:=cLz hb2 c1;have k2:=cLz hb2 c2;have k3:=cLz hb2 c3;have kf:w2.frozen? ⟨w.heap.size+1,0,none⟩=false:=(by rw[hb2.frozen (p:=⟨w.heap.size+1,0,none⟩) lX];exact j3);have j5:=j4.trans (hb2.mono j4.size))
    |(refine⟨trivial,rfl,?_⟩;gi_at_call 139;refine(callsIn_wide.2 (K2.out _ j5)).mono ?_;rintro e w3 ⟨rfl,hb3⟩;have u3:=cLz hb3 k3;have uf:w3.frozen? ⟨w.heap.size+1,0,none⟩=false:=(by rw[hb3.frozen (p:=⟨w.heap.size+1,0,none⟩) (Nat.lt_of_lt_of_le lX hb2.size)];exact kf)))
   have hK2:∀v,(w3.setCell ⟨w.heap.size+1,0,none⟩ v).heap[D]? =some (.deferred (some [])):=fun v=>(heap_setCell_other _ _ _ _ (by dsimp only;omega)).trans ((hb3.block _ (Nat.lt_of_lt_of_le lD hb2.size)).trans ((hb2.block _ lD).trans hK))
   refine⟨by simp,.inl ⟨_,_,rfl,run_takeDeferred (hK2 _),?_⟩⟩
   have y3:=Cj (World.cell?_setCell_same _ _ (.bool G2) u3) (hK2 _) rfl (.deferred none)
   exact⟨.bool G2,(by simp[results,results76,go_sem,y3]),Aa HE2.out,Ci ((j5.trans (hb3.mono j5.size)).setCell (by dsimp only;omega) _) (by omega) (hK2 _) _⟩
 case stop=>
  rintro D c X hD ⟨rfl,hE,c3,j4⟩ hK
  gi_wp2
  refine⟨by simp,.inl ⟨_,_,rfl,run_takeDeferred hK,?_⟩⟩
  have y3:=Cj c3 hK rfl (.deferred none)
  exact⟨.bool false,(by simp[results,results76,go_sem,y3]),Aa hE,Ci j4 (by omega) hK _⟩
noncomputable def C4(b:Buf):Int:=if Az b.lim 1 64=false then 3 else if countB b=false then 2 else if Ee b=false then 1 else 0
theorem Bn(b:Buf)(x:BX)(w:World)(h:bufAt w b x)(hw:∀y∈Ab b,wfE y/\wfP (Ay y))(hs:(Ab b).length<=4611686018427387904):
 Calls Tryz.prog 39 #[AN b x] w fun e w'=>e= .returned (.int .i64 (C4 b))/\Bwz w w':=by
 have K2:=hIz (fun(w1:World) (hb:Bwz w w1)=>Ec b x w1 (Ai h hb) hs)
 have K3:=hIz (fun(w1:World) (hb:Bwz w w1)=>CW b x w1 (Ai h hb) hw)
 have K1:Hid (∀w1,CTz 65 #[.int .i64 b.lim] w1 fun e w'=>e= .returned (.bool (Az b.lim 1 64))/\w'=w1):=fun w1=>FL _ w1
 obtain⟨R,hR⟩:=nM (C4 b)
 have HRR:Hid ((if Az b.lim 1 64=false then 3 else if countB b=false then 2 else if Ee b=false then 1 else 0)=R):=hR
 rw[hR]
 clear hR h hw hs
 obtain⟨G1,hG1⟩:=nM (Az b.lim 1 64)
 obtain⟨G2,hG2⟩:=nM (countB b)
 obtain⟨G3,hG3⟩:=nM (Ee b)
 rw[hG1]at K1 HRR
 rw[hG2]at K2 HRR
 rw[hG3]at K3 HRR
 clear hG1 hG2 hG3
 obtain⟨ra,rc,⟨⟨m1,m2,m3⟩,ml⟩,rs⟩:=x
 obtain⟨lim,mem,runs⟩:=b
 unfold AN hdV at K2 K3⊢
 dsimp only at K1 K2 K3⊢
 obtain⟨n,hn⟩:∃n,rs.length=n:=⟨_,rfl⟩
 rw[hn]at K2 K3⊢
 clear hn
 have hb0:Bwz w (w.alloc (.cells #[.int .i64 lim,.slice m1 m2 m3,.slice ra n rc] 29)):=bR.alloc nR _
 cases G1 with
 |false=>
  have HE:Hid ((3:Int)=R):=HRR.out
  go_enter func39,ntmps39
  go_wp2_with (go_at_call 65;refine(K1.out _).mono ?_;rintro e w2 ⟨rfl,rfl⟩)
  go_ret
  exact⟨Ad HE.out,hb0⟩
 |true=>
  cases G2 with
  |false=>
   have HE:Hid ((2:Int)=R):=HRR.out
   go_enter func39,ntmps39
   go_wp2_with (first
    |(go_at_call 65;refine(K1.out _).mono ?_;rintro e w2 ⟨rfl,rfl⟩)
    |(go_at_call 75;refine(K2.out _ hb0).mono ?_;rintro e w3 ⟨rfl,hb3⟩))
   go_ret
   exact⟨Ad HE.out,hb0.trans (hb3.mono hb0.size)⟩
  |true=>
   cases G3 with
   |false=>
    have HE:Hid ((1:Int)=R):=HRR.out
    go_enter func39,ntmps39
    go_wp2_with (first
     |(go_at_call 65;refine(K1.out _).mono ?_;rintro e w2 ⟨rfl,rfl⟩)
     |(go_at_call 75;refine(K2.out _ hb0).mono ?_;rintro e w3 ⟨rfl,hb3⟩;have hb4:=hb0.trans (hb3.mono hb0.size);have k0:w3.cell? ⟨w.heap.size,0,none⟩=some (.int .i64 lim):=cLz hb3 (by go_simp);have k1:w3.cell? ⟨w.heap.size,1,none⟩=some (.slice m1 m2 m3):=cLz hb3 (by go_simp);have k2:w3.cell? ⟨w.heap.size,2,none⟩=some (.slice ra n rc):=cLz hb3 (by go_simp))
     |(go_at_call 76;refine(K3.out _ hb4).mono ?_;rintro e w5 ⟨rfl,hb5⟩))
    go_ret
    exact⟨Ad HE.out,hb4.trans (hb5.mono hb4.size)⟩
   |true=>
    have HE:Hid ((0:Int)=R):=HRR.out
    go_enter func39,ntmps39
    go_wp2_with (first
     |(go_at_call 65;refine(K1.out _).mono ?_;rintro e w2 ⟨rfl,rfl⟩)
     |(go_at_call 75;refine(K2.out _ hb0).mono ?_;rintro e w3 ⟨rfl,hb3⟩;have hb4:=hb0.trans (hb3.mono hb0.size);have k0:w3.cell? ⟨w.heap.size,0,none⟩=some (.int .i64 lim):=cLz hb3 (by go_simp);have k1:w3.cell? ⟨w.heap.size,1,none⟩=some (.slice m1 m2 m3):=cLz hb3 (by go_simp);have k2:w3.cell? ⟨w.heap.size,2,none⟩=some (.slice ra n rc):=cLz hb3 (by go_simp))
     |(go_at_call 76;refine(K3.out _ hb4).mono ?_;rintro e w5 ⟨rfl,hb5⟩))
    go_ret
    exact⟨Ad HE.out,hb4.trans (hb5.mono hb4.size)⟩
end bf
end Go.Proofs.YtdohnkkbkfhphaaGreat
