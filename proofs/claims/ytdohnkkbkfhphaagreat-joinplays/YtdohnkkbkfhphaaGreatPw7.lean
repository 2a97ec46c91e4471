import Derived.Test.YtdohnkkbkfhphaaGreatPw6
set_option linter.all false
set_option maxHeartbeats 8000000
open Go.ChangeShapes Go.WideShapes Go.ChangeAt Go.RowKit Go.Shelf List
open Inhabited renaming default->ϰ
namespace Go.Proofs.YtdohnkkbkfhphaaGreat
open Go.Proofs.Tryz
namespace bf
open vl
attribute [local go_sem] Oper.semAt_some
variable {l : List Ent} {M b i n o : Nat} {W W' : ϛ} {ps : List Plc} {v : Value}
def C5(l:List Ent):Bool:=decide ((l.map Az).Nodup)
def Ej(l:List Ent)(i:Nat):List Plc:=(l.take i).map Az
theorem Lt(h:i<l.length):Ej l (i+1)=Ej l i++[Az (l.getD i ϰ)]:=by
 unfold Ej;rw[take_succ_eq_append_getElem h,map_append,gDe,gEe h];rfl
theorem Ul(h:(Ej l l.length).Nodup):C5 l=true:=by
 unfold Ej at h;rw[take_length]at h;exact decide_eq_true h
theorem AcP(h:i<l.length)(c:Az (l.getD i ϰ)∈Ej l i):C5 l=false:=by
 refine decide_eq_false (λa=>?_);have e:l.map Az=Ej l (i+1)++(l.drop (i+1)).map Az:=by
  unfold Ej;rw[<-map_append,take_append_drop]
 rw[e,Lt h]at a;have:=(nodup_append.1 (nodup_append.1 a).1).2.2 _ c _ (mem_singleton.2 rfl);exact this rfl
theorem Um(h:i<l.length)(f:(Ej l i).Nodup)(d:Az (l.getD i ϰ) ∉ Ej l i):(Ej l (i+1)).Nodup:=by
 rw[Lt h];refine nodup_append.2 ⟨f,ϡ,λa ha b c=>?_⟩;rw[mem_singleton.1 c];exact λe=>d (by rw[<-e];exact ha)
theorem Gg(h:DF W M ps)(c:Below n W W')(a:M<n):DF W' M ps:=(c.block M a).trans h
theorem Sc{B:Nat}(a:W.grownBy W' (some M))(c:M<B):KeepsFrom B W W':=⟨a.size,λk o d h _=>(a.block k (Array.getElem?_eq_some_iff.1 h).1 (λe=>by cases e;omega)).trans h⟩
theorem Z8{a:Nat->Obj->Prop}(d:DF W M ps)(c:W.grownBy W' (some M)):KeepO a W W':=(KeepO.refl a W).grown c (λr e=>by cases e;exact⟨_,d,rfl⟩)
theorem cell_grown(c:DF W M ps)(a:W.grownBy W' (some M))(h:Δ W b o v):Δ W' b o v:=cell_kept h a (λr e=>by cases e;exact⟨_,c,rfl⟩)
theorem Nj(d:DF W M ps)(c:W.grownBy W' (some M))(h:Δ W b o v)(a:Ξ W b o):Ξ W' b o:=(frozen_kept h c (λr e=>by cases e;exact⟨_,d,rfl⟩)).trans a
theorem X0(b:Buf)(x:BX)(w:ϛ)(h:bufAt w b x)(hw:∀y∈Aa b,wfP (Az y)):
 η 139 #[AF b x] w (θ w (.bool (!C5 (Aa b)))):=by
 have HB:ϝ (bufAt w b x):=h;have aa:ϝ (ERs w (ems (x.m::x.rs)) (Aa b)):=Ek h;obtain⟨L,hL⟩:=nM (Aa b);rw[hL]at aa hw⊢;have HW:ϝ (∀y∈L,wfP (Az y)):=hw;clear hL h hw;obtain⟨R,hR⟩:=nM (!C5 L);have al:ϝ ((!C5 L)=R):=hR;rw[hR];clear hR;obtain⟨q,s,⟨⟨d,f,j⟩,ml⟩,rs⟩:=x;obtain⟨m,a0,a1⟩:=b;unfold AF hdV;dsimp only at aa⊢;obtain⟨n,hn⟩:∃n,rs.length=n:=⟨_,rfl⟩;have HN:ϝ (rs.length=n):=hn;rw[hn];clear hn;have au:=@run_makeMap Tryz.prog;refine(callsIn_wide (n:=0)).1 ?_;refine callsIn_of_wp_marks func139 rfl trivial ?_ rfl;simp only[ntmps139,size_toArray,length_cons,length_nil,Nat.reduceAdd,Nat.reduceSub,Array.replicate_succ,Array.replicate_zero,push_toArray,append_toArray,nil_append,cons_append]
 gi_wp2_with (refine⟨trivial,rfl,?_⟩;gi_at_call 113;refine(callsIn_wide.2 (II _ _ _ rfl rfl rfl _)).mono ?_;rintro e w' ⟨rfl,rfl⟩)
 have V0:Δ (ξ (ξ (((w.alloc (.cells (ν m d f j q n s) 29)).alloc (.cells #[ϋ] 4)).alloc (.map #[] 0)) #[.map (some (w.heap.size+1+1))] 230) (ν m d f j q n s) 29) (w+1+1+1) 0 (.map (some (w.heap.size+1+1))):=ϣ;have V2:DF (ξ (ξ (((w.alloc (.cells (ν m d f j q n s) 29)).alloc (.cells #[ϋ] 4)).alloc (.map #[] 0)) #[.map (some (w.heap.size+1+1))] 230) (ν m d f j q n s) 29) (w.heap.size+1+1) []:=by
  show(((((w.alloc (.cells (ν m d f j q n s) 29)).alloc (.cells #[ϋ] 4)).alloc (.map #[] 0)).alloc (.cells #[.map (some (w.heap.size+1+1))] 230)).alloc (.cells (ν m d f j q n s) 29)).heap[w.heap.size+1+1]? =some (.map #[] 0);have h:=World.alloc_heap_new (ξ (ξ w (ν m d f j q n s) 29) #[ϋ] 4) (.map #[] 0);rw[World.size_alloc,World.size_alloc]at h;rw[Below.heap_alloc _ _ _ ϡ,Below.heap_alloc _ _ _ ϡ];exact h
 have V3:Δ (ξ (ξ (((w.alloc (.cells (ν m d f j q n s) 29)).alloc (.cells #[ϋ] 4)).alloc (.map #[] 0)) #[.map (some (w.heap.size+1+1))] 230) (ν m d f j q n s) 29) (w+1) 0 (.bool false):=ϣ;have V4:Ξ (ξ (ξ (((w.alloc (.cells (ν m d f j q n s) 29)).alloc (.cells #[ϋ] 4)).alloc (.map #[] 0)) #[.map (some (w.heap.size+1+1))] 230) (ν m d f j q n s) 29) (w+1) 0:=ϣ;have V5:Δ (ξ (ξ (((w.alloc (.cells (ν m d f j q n s) 29)).alloc (.cells #[ϋ] 4)).alloc (.map #[] 0)) #[.map (some (w.heap.size+1+1))] 230) (ν m d f j q n s) 29) (w+1+1+1+1) 0 (vI m):=ϣ;have V6:Δ (ξ (ξ (((w.alloc (.cells (ν m d f j q n s) 29)).alloc (.cells #[ϋ] 4)).alloc (.map #[] 0)) #[.map (some (w.heap.size+1+1))] 230) (ν m d f j q n s) 29) (w+1+1+1+1) 1 (vS d f j):=ϣ;have V7:Δ (ξ (ξ (((w.alloc (.cells (ν m d f j q n s) 29)).alloc (.cells #[ϋ] 4)).alloc (.map #[] 0)) #[.map (some (w.heap.size+1+1))] 230) (ν m d f j q n s) 29) (w+1+1+1+1) 2 (vS q n s):=ϣ;have V8:Ϟ w (ξ (ξ (((w.alloc (.cells (ν m d f j q n s) 29)).alloc (.cells #[ϋ] 4)).alloc (.map #[] 0)) #[.map (some (w.heap.size+1+1))] 230) (ν m d f j q n s) 29):=by
  repeat (first|exact bR|(refine Below.alloc ?_ Ϧ _))
 have V9:(((((w.alloc (.cells (ν m d f j q n s) 29)).alloc (.cells #[ϋ] 4)).alloc (.map #[] 0)).alloc (.cells #[.map (some (w.heap.size+1+1))] 230)).alloc (.cells (ν m d f j q n s) 29)).heap.size=w.heap.size+1+1+1+1+1:=ϡ;generalize (((((w.alloc (.cells (ν m d f j q n s) 29)).alloc (.cells #[ϋ] 4)).alloc (.map #[] 0)).alloc (.cells #[.map (some (w.heap.size+1+1))] 230)).alloc (.cells (ν m d f j q n s) 29))=V at *;have ak:=GP HB.o V8 (w.heap.size+1+1+1+1) FX V5 V6 (by rw[HN.o];exact V7) Am (λ_ _=>Am) (λ_ _ _ _=>trivial) (λ_ _ _ _=>trivial);dsimp only at ak;obtain⟨E,hE⟩:=nM (ems ((((d,f,j):Hdr),ml)::rs));rw[hE]at ak aa;clear hE au;refine D6 (gf:=161) (lb:=#[.pointer (some ⟨w+1+1+1+1,0,none⟩)]) rfl (enters_of func161 Ϣ rfl) ak bR (λx hx=>by obtain⟨p,_,rfl⟩:=mem_map.1 hx;rfl) (λh k=>KeepO.trans h k) (λW l o o' _ h ho=>KeepO.put W l o o' h ho)
  (λi X=>(Ej L i).Nodup/\DF X (w.heap.size+1+1) (Ej L i)/\KeepO FX V X/\Ξ X (w+1) 0/\Ϟ w X) (λc X=>c= .ret/\true=R/\Δ X (w+1) 0 (.bool true)/\Ϟ w X)
  (λi X X' ao N O P=>⟨N.1,(O.block _ (GO N.2.1) (λe=>by have:=(P _ e.symm).1;omega)).trans N.2.1,N.2.2.1.grown O (λr e=>(P r e).2),(frozen_kept (N.2.2.1.cell Am V3) O (λr e=>(P r e).2)).trans N.2.2.2.1,Di N.2.2.2.2 nR ϟ O P⟩)
  (λc X X' ao N O P=>⟨N.1,N.2.1,cell_kept N.2.2.1 O (λr e=>(P r e).2),Di N.2.2.2 nR ϟ O P⟩)
  ⟨nodup_nil,V2,KeepO.refl _ _,V4,V8⟩
  (λi U X=> ∃B,U={tmps:=#[.agg #[vI m,vS d f j,vS q n s],.pointer (some ⟨w,0,none⟩),.pointer (some ⟨w+1,0,none⟩),.pointer (some ⟨w+1+1+1,0,none⟩),.pointer (some ⟨B,0,none⟩),.map (some (w.heap.size+1+1)),.agg #[vI m,vS d f j,vS q n s],.func (.func 161) #[] #[.pointer (some ⟨w+1+1+1+1,0,none⟩)],(E.getD i ϰ).val,undef,undef,undef,undef,undef,undef,undef,undef,undef,undef,undef,undef],defers:=[]}/\Ϗ X B (.string (E.getD i ϰ).key) (vI (E.getD i ϰ).time) (vI (E.getD i ϰ).seq) (hdV (E.getD i ϰ).row) (.bool (E.getD i ϰ).met))
  (λi U u X X' ao N O P=>by
   obtain⟨B,h1,h2,h3,h4,h5,h6⟩:=N;exact⟨B,h1,cell_kept h2 O (λr e=>(P r e).2),cell_kept h3 O (λr e=>(P r e).2),cell_kept h4 O (λr e=>(P r e).2),cell_kept h5 O (λr e=>(P r e).2),cell_kept h6 O (λr e=>(P r e).2)⟩) ?assign ?body ?done ?stop
 case assign=>
  intro l' k x X K hx hi hK;obtain⟨hk,an⟩:=List.getElem?_eq_some_iff.1 hx;rw[lMp]at hk;rw[getElem_map]at an;subst an;have hd:E.getD k ϰ=E[k]:=by rw[gDe,gEe hk];rfl
  have Y:=hK;rw[hd]at Y;clear hK hd hx;obtain⟨⟨C,G,F,⟨r1,r2,r3⟩,em⟩,hz⟩:∃z,E[k]=z:=⟨_,rfl⟩;rw[hz]at Y⊢;unfold EM.val hdV at Y⊢;dsimp only at Y⊢;obtain⟨j1,j0,j2,j3,Z⟩:=hi
  gi_wp2
  have lX:w.heap.size+1<X.heap.size:=bLt _ _ (j2.cell Am V3);have lM:=GO j0;exact Y _ _ ((KeepsOthers.alloc _ _).from _) (KeepO.alloc _ _) ⟨j1,Gg j0 Ϫ lM,j2.trans (KeepO.alloc _ _),ϣ,Z.alloc Z.size _⟩ ⟨X.heap.size,rfl,ϣ,ϣ,ϣ,ϣ,ϣ⟩
 case body=>
  intro l' i x U X hx av ax ar af;obtain⟨j1,j0,j2,j3,Z⟩:=ar;obtain⟨B,af,b0,b1,b2,b3,b4⟩:=af;subst af;obtain⟨hi,_⟩:=List.getElem?_eq_some_iff.1 hx;rw[lMp]at hi;have aq:=aa.o.1;have aj:i<L.length:=ϟ;have ac:=aa.o.2 i aj;have KP:ϝ (∀w1,CT 186 #[(E.getD i ϰ).val] w1 (θ w1 (.agg #[.string (E.getD i ϰ).key,vI (E.getD i ϰ).time,vI (E.getD i ϰ).seq]))):=λw1=>Im _ w1;have ab:Az (L.getD i ϰ)=((E.getD i ϰ).key,(E.getD i ϰ).time,(E.getD i ϰ).seq):=by unfold Az;rw[ac.key,ac.time,ac.seq]
  have ad:wfP (Az (L.getD i ϰ)):=HW.o _ (by rw[gDe,gEe aj];simp);obtain⟨⟨C,G,F,⟨r1,r2,r3⟩,em⟩,hz⟩:∃z,E.getD i ϰ=z:=⟨_,rfl⟩;rw[hz]at KP b0 b1 b2 b3 b4 ab⊢;unfold EM.val hdV at KP;unfold hdV at b3;dsimp only at KP b0 b1 b2 b3 b4 ab;rw[ab]at ad;have c0:=j2.cell Am V0;have T:=j2.cell Am V3;have lX:w.heap.size+1<X.heap.size:=bLt _ _ T;have lM:=GO j0;have aw:Tryz.prog.follows .mixedOrders=true:=Ϣ;have ay:IntKind.i64.wrap 1=1:=by rw[IntKind.wrap_i64];omega
  have az:IntKind.i64.wrap 2=2:=by rw[IntKind.wrap_i64];omega
  have ae:ϝ (Az (L.getD i ϰ)=(C,G,F)):=ab;have HJ:ϝ ((Ej L i).Nodup/\KeepO FX V X/\i<L.length):=⟨j1,j2,aj⟩;clear hz ac aq hx ab;by_cases hm:(C,G,F)∈Ej L i
  ·have HO:ϝ (∀W,DF W (w.heap.size+1+1) (Ej L i)->∃(b:Nat) (S H:ϛ),
    (Instr.lookup 230 (.map (some (w.heap.size+1+1))) (.agg #[.string C,vI G,vI F]) false).run Tryz.prog W= .ok (vI 1) W/\
    (Instr.mapEntry 230 (.map (some (w.heap.size+1+1))) (.agg #[.string C,vI G,vI F])).run Tryz.prog W= .ok (.tuple #[vI 1,vI b]) S/\
    (Instr.lookup 230 (.map (some (w.heap.size+1+1))) (.agg #[.string C,vI G,vI F]) false).run Tryz.prog S= .ok (vI 1) S/\
    (Instr.entryStore 230 (.map (some (w.heap.size+1+1))) (vI b) (vI 2)).run Tryz.prog S= .ok () H/\
    (∀W5:World,W5.heap[w.heap.size+1+1]? =H.heap[w.heap.size+1+1]? ->(Instr.lookup 230 (.map (some (w.heap.size+1+1))) (.agg #[.string C,vI G,vI F]) false).run Tryz.prog W5= .ok (vI 2) W5)/\W.grownBy H (some (w.heap.size+1+1))):=λW hW=>by
    have h:=AbW hW ad hm;unfold Ci at h;exact h
   have HE:ϝ (true=R):=by
    show _=_;rw[<-al.o,AcP HJ.o.2.2 (by rw[ae.o];exact hm)];rfl
   gi_wp2
   refine wpIn_mono (Q:=λe U W'=> ∃(bo:Nat) (I:ϛ),e= .normal/\U={tmps:=#[.agg #[vI m,vS d f j,vS q n s],.pointer (some ⟨w,0,none⟩),.pointer (some ⟨w+1,0,none⟩),.pointer (some ⟨w+1+1+1,0,none⟩),.pointer (some ⟨B,0,none⟩),.map (some (w.heap.size+1+1)),.agg #[vI m,vS d f j,vS q n s],.func (.func 161) #[] #[.pointer (some ⟨w+1+1+1+1,0,none⟩)],EM.val ⟨C,G,F,(r1,r2,r3),em⟩,.map (some (w.heap.size+1+1)),.agg #[.string C,vI G,vI F,vS r1 r2 r3,.bool em],.agg #[.string C,vI G,vI F],vI 1,vI 2,.tuple #[vI 1,vI (bo:Nat)],vI (bo:Nat),undef,undef,undef,undef,undef],defers:=[]}/\Ϟ X I/\DF I (w.heap.size+1+1) (Ej L i)/\(∀W5:World,W5.heap[w.heap.size+1+1]? =W'.heap[w.heap.size+1+1]? ->(Instr.lookup 230 (.map (some (w.heap.size+1+1))) (.agg #[.string C,vI G,vI F]) false).run Tryz.prog W5= .ok (vI 2) W5)/\I.grownBy W' (some (w.heap.size+1+1))) ?_ ?_
   ·gi_region_with_o (refine⟨trivial,rfl,?_⟩;gi_at_call 186;refine(CallsIn.inRound l' (callsIn_wide.2 (KP.o _))).mono ?_;rintro e I ⟨rfl,ag⟩;have a:Ϟ X I:=bR.drew.trans ag;have k0:=cLz a c0;have A:DF I (w.heap.size+1+1) (Ej L i):=Gg j0 a lM;obtain⟨bo,S,H,o1,o2,o3,o4,o5,t⟩:=HO.o I A)
    all_goals exact⟨bo,I,rfl,rfl,a,A,o5,t⟩
   ·rintro e U H ⟨bo,I,rfl,rfl,a,A,o5,t⟩;have d0:=cell_grown A t (cLz a c0);have d3:=cell_grown A t (cLz a T);have df:=Nj A t (cLz a T) (by rw[a.frozen (p:=⟨w+1,0,none⟩) lX];exact j3);have e0:=cell_grown A t (cLz a b0);have e1:=cell_grown A t (cLz a b1);have e2:=cell_grown A t (cLz a b2);have e3:=cell_grown A t (cLz a b3);have e4:=cell_grown A t (cLz a b4);have kx:KeepsFrom V.heap.size X H:=(Cl a).trans (Sc t ϟ);have ai:Ϟ w H:=(bT Z a).grown t (by have:=a.size;omega) (λr e=>by cases e;omega);have l4:w.heap.size+1+1<H.heap.size:=by have:=a.size;have:=t.size;omega
    clear j0 A t a HO c0 T b0 b1 b2 b3 b4
    gi_wp2
    gi_region_with_o (refine⟨trivial,rfl,?_⟩;gi_at_call 186;refine(CallsIn.inRound l' (callsIn_wide.2 (KP.o _))).mono ?_;rintro e w5 ⟨rfl,ah⟩;have J:Ϟ H w5:=bR.drew.trans ah;have k0:=cLz J d0;have k3:=cLz J d3;have kf:Ξ w5 (w+1) 0:=(by rw[J.frozen (p:=⟨w+1,0,none⟩) ϥ];exact df);have lk:=o5 w5 (J.block _ l4))
    all_goals
     gi_wp2
     exact⟨(kx.trans (Cl J)).trans ((KeepsOthers.setCell _ _ _).from _),rfl,HE.o,World.cell?_setCell_same _ _ _ k3,(bT ai J).setCell ϥ _⟩
  ·have HO:ϝ (∀W,DF W (w.heap.size+1+1) (Ej L i)->∃S H,
    (Instr.lookup 230 (.map (some (w.heap.size+1+1))) (.agg #[.string C,vI G,vI F]) false).run Tryz.prog W= .ok (vI 0) W/\
    (Instr.mapEntry 230 (.map (some (w.heap.size+1+1))) (.agg #[.string C,vI G,vI F])).run Tryz.prog W= .ok (.tuple #[ω,vI (Ej L i).length]) S/\
    (Instr.lookup 230 (.map (some (w.heap.size+1+1))) (.agg #[.string C,vI G,vI F]) false).run Tryz.prog S= .ok (vI 0) S/\
    (Instr.entryStore 230 (.map (some (w.heap.size+1+1))) (vI (Ej L i).length) (vI 1)).run Tryz.prog S= .ok () H/\
    DF H (w.heap.size+1+1) (Ej L i++[(C,G,F)])/\W.grownBy H (some (w.heap.size+1+1))):=λW hW=>by
    have h:=AbV hW ad hm;unfold Ci at h;exact h
   have ap:ϝ (∀W,DF W (w.heap.size+1+1) (Ej L i++[(C,G,F)])->(Instr.lookup 230 (.map (some (w.heap.size+1+1))) (.agg #[.string C,vI G,vI F]) false).run Tryz.prog W= .ok (vI 1) W):=λW hW=>by
    have h:=Aa1 hW ad hm;unfold Ci at h;exact h
   have HS:ϝ (Ej L (i+1)=Ej L i++[(C,G,F)]/\(Ej L (i+1)).Nodup):=⟨by rw[Lt HJ.o.2.2,ae.o],Um HJ.o.2.2 HJ.o.1 (by rw[ae.o];exact hm)⟩;obtain⟨pn,am⟩:=nM ((Ej L i).length);rw[am]at HO;clear am
   gi_wp2
   refine wpIn_mono (Q:=λe U W'=> ∃(I:ϛ),e= .normal/\U={tmps:=#[.agg #[vI m,vS d f j,vS q n s],.pointer (some ⟨w,0,none⟩),.pointer (some ⟨w+1,0,none⟩),.pointer (some ⟨w+1+1+1,0,none⟩),.pointer (some ⟨B,0,none⟩),.map (some (w.heap.size+1+1)),.agg #[vI m,vS d f j,vS q n s],.func (.func 161) #[] #[.pointer (some ⟨w+1+1+1+1,0,none⟩)],EM.val ⟨C,G,F,(r1,r2,r3),em⟩,.map (some (w.heap.size+1+1)),.agg #[.string C,vI G,vI F,vS r1 r2 r3,.bool em],.agg #[.string C,vI G,vI F],vI 0,vI 1,.tuple #[vI 0,vI (pn:Nat)],vI (pn:Nat),undef,undef,undef,undef,undef],defers:=[]}/\Ϟ X I/\DF I (w.heap.size+1+1) (Ej L i)/\DF W' (w.heap.size+1+1) (Ej L i++[(C,G,F)])/\I.grownBy W' (some (w.heap.size+1+1))) ?_ ?_
   ·gi_region_with_o (refine⟨trivial,rfl,?_⟩;gi_at_call 186;refine(CallsIn.inRound l' (callsIn_wide.2 (KP.o _))).mono ?_;rintro e I ⟨rfl,ag⟩;have a:Ϟ X I:=bR.drew.trans ag;have k0:=cLz a c0;have A:DF I (w.heap.size+1+1) (Ej L i):=Gg j0 a lM;obtain⟨S,H,o1,o2,o3,o4,o5,t⟩:=HO.o I A)
    all_goals exact⟨I,rfl,rfl,a,A,o5,t⟩
   ·rintro e U H ⟨I,rfl,rfl,a,A,o5,t⟩;have d0:=cell_grown A t (cLz a c0);have d3:=cell_grown A t (cLz a T);have df:=Nj A t (cLz a T) (by rw[a.frozen (p:=⟨w+1,0,none⟩) lX];exact j3);have e0:=cell_grown A t (cLz a b0);have e1:=cell_grown A t (cLz a b1);have e2:=cell_grown A t (cLz a b2);have e3:=cell_grown A t (cLz a b3);have e4:=cell_grown A t (cLz a b4);have kx:KeepsFrom V.heap.size X H:=(Cl a).trans (Sc t ϟ);have ko:KeepO FX X H:=(CI a nR).trans (Z8 A t);have ai:Ϟ w H:=(bT Z a).grown t (by have:=a.size;omega) (λr e=>by cases e;omega);have l4:w.heap.size+1+1<H.heap.size:=GO o5;clear j0 A t a HO c0 T b0 b1 b2 b3 b4
    gi_wp2
    gi_region_with_o (refine⟨trivial,rfl,?_⟩;gi_at_call 186;refine(CallsIn.inRound l' (callsIn_wide.2 (KP.o _))).mono ?_;rintro e w5 ⟨rfl,ah⟩;have J:Ϟ H w5:=bR.drew.trans ah;have k0:=cLz J d0;have mm:DF w5 (w.heap.size+1+1) (Ej L i++[(C,G,F)]):=Gg o5 J l4;have lk:=ap.o w5 mm)
    all_goals
     gi_wp2
     exact⟨kx.trans (Cl J),ko.trans (CI J nR),HS.o.2,by rw[HS.o.1];exact mm,HJ.o.2.1.trans (ko.trans (CI J nR)),by rw[J.frozen (p:=⟨w+1,0,none⟩) ϥ];exact df,bT ai J⟩
 case done=>
  rintro D X hD ⟨j1,j0,j2,j3,Z⟩ hK;have T:=j2.cell Am V3;have HE:ϝ (false=R):=by
   show _=_;rw[lMp,aa.o.1]at j1;rw[<-al.o,Ul j1];rfl
  clear j0
  gi_wp2
  have Y:(X.setCell ⟨w+1,0,none⟩ (.bool false)).heap[D]? =some (.deferred (some [])):=(heap_setCell_other _ _ _ _ ϥ).trans hK;refine⟨ϡ,.inl ⟨_,_,rfl,run_takeDeferred Y,?_⟩⟩;have y3:=Da (World.cell?_setCell_same _ _ (.bool false) T) Y rfl (.deferred none);exact⟨.bool false,(by simp[results,results139,go_sem,y3]),Ab HE.o,CY (Z.setCell ϥ _) ϟ Y _⟩
 case stop=>
  rintro D c X hD ⟨rfl,hE,T,Z⟩ hK
  gi_wp2
  refine⟨ϡ,.inl ⟨_,_,rfl,run_takeDeferred hK,?_⟩⟩;have y3:=Da T hK rfl (.deferred none);exact⟨.bool true,(by simp[results,results139,go_sem,y3]),Ab hE,CY Z ϟ hK _⟩
noncomputable def Ii(l:List Ent):Bool:=allB l.length (FM l)
theorem Ot(h:Hdr)(es:List EM)(l:List Ent)(w:ϛ)(t:h.2.1=l.length)(p:l.length<=χ)(ha:BG w h.1 es)(j:ERs w es l)(y:∀x∈l,wfE x):
 η 137 #[hdV h] w (θ w (.bool (Ii l))):=by
 obtain⟨a,n,c⟩:=h;unfold hdV;dsimp only at t ha⊢;subst t;have k:ϝ (∀d,Ϟ w d->Δ d w 0 (vS a l.length c)->CT 181 #[vS a l.length c,.func (.func 182) #[] #[μ w]] d (θ d (.bool (Ii l)))):=λd m A=>by
  have h:=QK 182 (enters_of func182 Ϣ rfl) #[μ w] (FM l) a c es d (by rw[j.1];exact p) (BM ha m) (λi z s f=>Yw a c es l i w.heap.size z (by rw[j.1]at s;exact s) p (cLz f A) (BM (BM ha m) f) ((j.below m).below f) y);rw[j.1]at h;exact h
 obtain⟨n,u⟩:=nM l.length;rw[u]at k⊢;clear ha j y u p;obtain⟨R,q⟩:=nM (Ii l);rw[q]at k⊢;clear q;have r:Ϟ w (ξ w #[vS a n c] 26):=Ϫ;go_enter func137,ntmps137;go_wp2_with (go_at_call 181;refine(k.o _ r ϣ).mono ?_;rintro e z ⟨rfl,f⟩);go_ret;exact⟨rfl,bT r f⟩
def Jm(b:Buf):Bool:=allB b.runs.length λi=>decide (0<(b.runs.getD i ϰ).length)
theorem Un{P Q:Nat->Bool}(h:∀i,i<n->P i=Q i):allB n P=allB n Q:=by
 rcases Bool.eq_false_or_eq_true (allB n Q)with a|a
 ·rw[a];exact Bb.2 (λi c=>by rw[h i c];exact Bb.1 a i c)
 ·rw[a];rcases Bool.eq_false_or_eq_true (allB n P)with d|d
  ·have:allB n Q=true:=Bb.2 (λi c=>by rw[<-h i c];exact Bb.1 d i c);rw[a]at this;cases this
  ·exact d
theorem Ke(b:Buf)(x:BX)(w:ϛ)(h:bufAt w b x):
 η 138 #[AF b x] w (θ w (.bool (!Jm b))):=by
 have c:ϝ (∀a,Ϟ w a->CT 184 #[vS x.ra x.rs.length x.rc,.func (.func 185) #[] #[]] a (θ a (.bool (Jm b)))):=λa A=>by
  have j:(x.rs.map (·.1)).length=x.rs.length:=lMp ..;have k:=QL 185 (enters_of func185 Ϣ rfl) #[] (λi=>decide (0<((x.rs.map (·.1)).getD i (none,0,0)).2.1)) x.ra x.rc (x.rs.map (·.1)) a (by rw[j];exact h.few) (Ip h.hds A) (λi t d r=>by rw[Array.append_empty];exact UK _ _ t);have e:allB (x.rs.map (·.1)).length (λi=>decide (0<((x.rs.map (·.1)).getD i (none,0,0)).2.1))=Jm b:=by
   unfold Jm;rw[j,h.rlen];refine Un (λi d=>?_);have f:i<x.rs.length:=by rw[h.rlen];exact d
   have m:=(h.runs i d).1;have z:=(h.len (x.rs[i]) (mem_cons_of_mem _ (getElem_mem f))).1;have u:(x.rs.map (·.1)).getD i (none,0,0)=(x.rs[i]).1:=by rw[gDe,getElem?_map,gEe f];rfl
   have y:x.rs.getD i ϰ=x.rs[i]:=by rw[gDe,gEe f];rfl
   rw[y]at m;rw[u,z,m]
  rw[e,j]at k;exact k
 obtain⟨R,p⟩:=nM (Jm b);rw[p]at c⊢;clear p h;obtain⟨F,G,⟨⟨C,D,E⟩,J⟩,H⟩:=x;obtain⟨B,I,K⟩:=b;unfold AF hdV;dsimp only at c⊢;obtain⟨n,s⟩:∃n,H.length=n:=⟨_,rfl⟩;rw[s]at c⊢;clear s;have q:Ϟ w (ξ w (ν B C D E F n G) 29):=Ϫ;go_enter func138,ntmps138;go_wp2_with (go_at_call 184;refine(c.o _ q).mono ?_;rintro e t ⟨rfl,r⟩);go_ret;exact⟨rfl,bT q r⟩
def countB(b:Buf):Bool:=decide ((b.mem.length:Int)<=b.lim)&&decide ((Aa b).length<=4096)
theorem Fi(b:Buf)(x:BX)(w:ϛ)(h:bufAt w b x)(A:(Aa b).length<=4611686018427387904):
 η 75 #[AF b x] w (θ w (.bool (countB b))):=by
 have a:=hIz (λ(B:ϛ) (D:Ϟ w B)=>Nx b x B (Ag h D) A);have r:x.m.1.2.1=b.mem.length:=(h.len x.m (mem_cons_self ..)).1.trans h.mem.1;obtain⟨R,p⟩:=nM (countB b);have k:ϝ (countB b=R):=p;rw[p];clear p h;obtain⟨H,I,⟨⟨E,s,F⟩,O⟩,J⟩:=x;obtain⟨f,G,K⟩:=b;unfold AF hdV at a⊢;dsimp only at a k r⊢;obtain⟨n,z⟩:∃n,J.length=n:=⟨_,rfl⟩;rw[z]at a⊢;clear z;obtain⟨N,m⟩:=nM ((Aa ⟨f,G,K⟩).length);rw[m]at a;have j:ϝ ((decide ((s:Int)<=f)&&decide (N<=4096))=R):=by
  show _=_;rw[<-k.o];unfold countB;rw[m,r]
 clear m k r A;have d:Ϟ w (ξ w (ν f E s F H n I) 29):=Ϫ;by_cases t:(s:Int)<=f
 ·by_cases u:N<=4096
  ·have c:ϝ (true=R):=by show _=_;rw[<-j.o];simp[t,u]
   have y:(N:Int)<=4096:=ϟ;go_enter func75,ntmps75;go_wp2_with (go_at_call 135;refine(a.o _ d).mono ?_;rintro e L ⟨rfl,q⟩);go_ret;exact⟨Ab c.o,bT d q⟩
  ·have c:ϝ (false=R):=by show _=_;rw[<-j.o];simp[u]
   have y:¬(N:Int)<=4096:=ϟ;have C:ϝ (¬(N:Int)<=4096):=y;go_enter func75,ntmps75;go_wp2_with (go_at_call 135;refine(a.o _ d).mono ?_;rintro e L ⟨rfl,q⟩);go_ret;exact⟨Ab ((decide_eq_false (by have:=C.o;omega)).trans c.o),bT d q⟩
 ·have c:ϝ (false=R):=by show _=_;rw[<-j.o];simp[t]
  go_enter func75,ntmps75;go_wp2;go_ret;exact⟨Ab c.o,d⟩
noncomputable def Fo(b:Buf):Bool:=allB (partsB b).length (λi=>Ii ((partsB b).getD i ϰ))&&(Jm b&&C5 (Aa b))
theorem X3{b:Buf}(a:i<(partsB b).length)(h:Ii ((partsB b).getD i ϰ)=false):Fo b=false:=by unfold Fo;rw[Eh a h];rfl
theorem Uo{b:Buf}(h:∀i,i<(partsB b).length->Ii ((partsB b).getD i ϰ)=true):Fo b=(Jm b&&C5 (Aa b)):=by unfold Fo;rw[Bb.2 h];rfl
theorem Ea(b:Buf)(x:BX)(w:ϛ)(h:bufAt w b x)(hw:∀y∈Aa b,wfE y/\wfP (Az y)):
 η 76 #[AF b x] w (θ w (.bool (Fo b))):=by
 have HB:ϝ (bufAt w b x):=h;have I:=hIz (λ(F:ϛ) (E:Ϟ w F)=>Ke b x F (Ag h E));have Z:=hIz (λ(F:ϛ) (E:Ϟ w F)=>X0 b x F (Ag h E) (λy hy=>(hw y hy).2));have KP:ϝ (∀i F,i<(x.m::x.rs).length->Ϟ w F->CT 137 #[hdV ((x.m::x.rs).getD i ϰ).1] F (θ F (.bool (Ii ((partsB b).getD i ϰ))))):=λi F A E=>by
  have aj:(x.m::x.rs).getD i ϰ∈x.m::x.rs:=by rw[gDe,gEe A];exact getElem_mem A
  have ak:(partsB b).length=(x.m::x.rs).length:=by simp[partsB,h.rlen]
  have hE:ERs w ((x.m::x.rs).getD i ϰ).2 ((partsB b).getD i ϰ):=by
   cases i with
   |zero=>exact h.mem
   |succ i=>
    have ap:i<b.runs.length:=by rw[length_cons,h.rlen]at A;omega
    simpa[partsB]using h.runs i ap
  have hl:=h.len _ aj;refine Ot _ _ _ F (by rw[hl.1,hE.1]) (by rw[<-hE.1];exact hl.2) (BM (h.ems _ aj) E) (hE.below E) (λy hy=>(hw y ?_).1);unfold Aa;refine mem_flatten.2 ⟨_,?_,hy⟩;rw[gDe,gEe (by rw[ak];exact A)];exact getElem_mem (by rw[ak];exact A)
 have ad:ϝ ((partsB b).length=(x.m::x.rs).length):=by show _=_;simp[partsB,h.rlen]
 obtain⟨R,hR⟩:=nM (Fo b);have Y:ϝ (∀i,i<(x.m::x.rs).length->Ii ((partsB b).getD i ϰ)=false->false=R):=λi A hf=>by rw[<-hR,X3 (by rw[ad.o];exact A) hf]
 have L:ϝ ((∀i,i<(x.m::x.rs).length->Ii ((partsB b).getD i ϰ)=true)->(Jm b&&C5 (Aa b))=R):=λJ=>by rw[<-hR,Uo (λi A=>J i (by rw[<-ad.o];exact A))]
 rw[hR];clear hR h hw ad;obtain⟨RB,ai⟩:∃z:Nat->Bool,(λi=>Ii ((partsB b).getD i ϰ))=z:=⟨_,rfl⟩;have af:∀i,Ii ((partsB b).getD i ϰ)=RB i:=λi=>congrFun ai i;simp only[af]at KP Y L;obtain⟨G1,ag⟩:=nM (Jm b);obtain⟨G2,ah⟩:=nM (C5 (Aa b));rw[ag]at I L;rw[ah]at Z L;clear ai af ag ah;obtain⟨q,s,⟨⟨a,d,f⟩,ml⟩,rs⟩:=x;obtain⟨t,au,av⟩:=b;unfold AF at I Z⊢;dsimp only at KP Y L I Z⊢;obtain⟨n,hn⟩:∃n,rs.length=n:=⟨_,rfl⟩;have HN:ϝ (rs.length=n):=hn;rw[hn]at I Z⊢;clear hn;have e1:hdV (a,d,f)=vS a d f:=rfl;rw[e1]at I Z⊢;refine(callsIn_wide (n:=0)).1 ?_;refine callsIn_of_wp_marks func76 rfl trivial ?_ rfl;simp only[ntmps76,size_toArray,length_cons,length_nil,Nat.reduceAdd,Nat.reduceSub,Array.replicate_succ,Array.replicate_zero,push_toArray,append_toArray,nil_append,cons_append]
 gi_wp2_with (refine⟨trivial,rfl,?_⟩;gi_at_call 136;refine(callsIn_wide.2 (IH _ _ _ rfl rfl rfl _)).mono ?_;rintro e w' ⟨rfl,rfl⟩)
 have V0:Δ (ξ (ξ (ξ w (ν t a d f q n s) 29) #[ϋ] 4) (ν t a d f q n s) 29) w 0 (vI t):=ϣ;have V1:Δ (ξ (ξ (ξ w (ν t a d f q n s) 29) #[ϋ] 4) (ν t a d f q n s) 29) w 1 (vS a d f):=ϣ;have V2:Δ (ξ (ξ (ξ w (ν t a d f q n s) 29) #[ϋ] 4) (ν t a d f q n s) 29) w 2 (vS q n s):=ϣ;have V3:Δ (ξ (ξ (ξ w (ν t a d f q n s) 29) #[ϋ] 4) (ν t a d f q n s) 29) (w+1) 0 (.bool false):=ϣ;have V4:Ξ (ξ (ξ (ξ w (ν t a d f q n s) 29) #[ϋ] 4) (ν t a d f q n s) 29) (w+1) 0:=ϣ;have V6:Δ (ξ (ξ (ξ w (ν t a d f q n s) 29) #[ϋ] 4) (ν t a d f q n s) 29) (w+1+1) 1 (vS a d f):=ϣ;have V7:Δ (ξ (ξ (ξ w (ν t a d f q n s) 29) #[ϋ] 4) (ν t a d f q n s) 29) (w+1+1) 2 (vS q n s):=ϣ;have V8:Ϟ w (ξ (ξ (ξ w (ν t a d f q n s) 29) #[ϋ] 4) (ν t a d f q n s) 29):=by
  repeat (first|exact bR|(refine Below.alloc ?_ Ϧ _))
 have V9:(((w.alloc (.cells (ν t a d f q n s) 29)).alloc (.cells #[ϋ] 4)).alloc (.cells (ν t a d f q n s) 29)).heap.size=w.heap.size+1+1+1:=ϡ;generalize (((w.alloc (.cells (ν t a d f q n s) 29)).alloc (.cells #[ϋ] 4)).alloc (.cells (ν t a d f q n s) 29))=V at *;have ae:=J0 HB.o V8 (w.heap.size+1+1) FX V6 (by rw[HN.o];exact V7) Am (λ_ _ _=>Am);obtain⟨P,hP⟩:∃z:List Part,(((a,d,f),ml)::rs)=z:=⟨_,rfl⟩;dsimp only at ae;rw[hP]at ae KP Y L;clear hP;refine D6 (gf:=180) (lb:=#[.pointer (some ⟨w+1+1,0,none⟩)]) rfl (enters_of func180 Ϣ rfl) ae bR (λx T=>by obtain⟨p,_,rfl⟩:=mem_map.1 T;rfl) (λh k=>KeepO.trans h k) (λW l o o' _ h ho=>KeepO.put W l o o' h ho)
  (λi X=>(∀j,j<i->RB j=true)/\KeepO FX V X/\Ξ X (w+1) 0/\Ϟ w X) (λc X=>c= .ret/\false=R/\Δ X (w+1) 0 (.bool false)/\Ϟ w X)
  (λi X X' al C J S=>⟨C.1,C.2.1.grown J (λr e=>(S r e).2),(frozen_kept (C.2.1.cell Am V3) J (λr e=>(S r e).2)).trans C.2.2.1,Di C.2.2.2 nR ϟ J S⟩)
  (λc X X' al C J S=>⟨C.1,C.2.1,cell_kept C.2.2.1 J (λr e=>(S r e).2),Di C.2.2.2 nR ϟ J S⟩)
  ⟨λj hj=>absurd hj (Nat.not_lt_zero j),KeepO.refl _ _,V4,V8⟩
  (λi a' X=>a'={tmps:=#[.agg #[vI t,vS a d f,vS q n s],.pointer (some ⟨w,0,none⟩),.pointer (some ⟨w+1,0,none⟩),hdV (P.getD i ϰ).1,.agg #[vI t,vS a d f,vS q n s],.func (.func 180) #[] #[.pointer (some ⟨w+1+1,0,none⟩)],hdV (P.getD i ϰ).1,undef,undef,undef,undef,undef,undef,undef,undef,undef,undef,undef],defers:=[]})
  (λi a' u X X' al C J S=>C) ?assign ?body ?done ?stop
 case assign=>
  intro l' k x X K T A G;obtain⟨hk,ab⟩:=List.getElem?_eq_some_iff.1 T;rw[lMp]at hk;rw[getElem_map]at ab;subst ab;have hd:P.getD k ϰ=P[k]:=by rw[gDe,gEe hk];rfl
  have B:=λW' h1 h2 h3=>G _ W' h1 h2 h3 rfl;rw[hd]at B;clear G hd T;obtain⟨⟨⟨z1,z2,z3⟩,zl⟩,hz⟩:∃z,P[k]=z:=⟨_,rfl⟩;rw[hz]at B⊢;unfold hdV at B⊢;dsimp only at B⊢
  gi_wp2
  exact B X (KeepsFrom.refl _ _) (KeepO.refl _ _) A
 case body=>
  intro l' i x a' X T aq ar an ao;obtain⟨j1,O,j3,H⟩:=an;obtain⟨A,ab⟩:=List.getElem?_eq_some_iff.1 T;rw[lMp]at A;subst ao;have Q:ϝ (CT 137 #[hdV (P.getD i ϰ).1] X (θ X (.bool (RB i)))):=KP.o i X A H;have N:=O.cell Am V3;have lX:w.heap.size+1<X.heap.size:=bLt _ _ N;have am:ϝ (RB i=false->false=R):=Y.o i A;have HJ:ϝ ((∀j,j<i->RB j=true)/\KeepO FX V X):=⟨j1,O⟩;clear T ab KP Y L j1 O;obtain⟨⟨⟨z1,z2,z3⟩,zl⟩,hz⟩:∃z,P.getD i ϰ=z:=⟨_,rfl⟩;rw[hz]at Q⊢;unfold hdV at Q⊢;dsimp only at Q⊢;clear hz
  cases E:RB i with
  |true=>
   rw[E]at Q
   gi_wp2_with (refine⟨trivial,rfl,?_⟩;gi_at_call 137;refine(CallsIn.inRound l' (callsIn_wide.2 Q.o)).mono ?_;rintro e U ⟨rfl,m⟩)
   exact⟨Cl m,CI m nR,λj hj=>by
    rcases Nat.lt_succ_iff_lt_or_eq.1 hj with h|h
    ·exact HJ.o.1 j h
    ·rw[h];exact E,HJ.o.2.trans (CI m nR),by rw[m.frozen (p:=⟨w+1,0,none⟩) lX];exact j3,bT H m⟩
  |false=>
   rw[E]at Q
   gi_wp2_with (refine⟨trivial,rfl,?_⟩;gi_at_call 137;refine(CallsIn.inRound l' (callsIn_wide.2 Q.o)).mono ?_;rintro e U ⟨rfl,m⟩;have k3:=cLz m N;have kf:Ξ U (w+1) 0:=(by rw[m.frozen (p:=⟨w+1,0,none⟩) lX];exact j3))
   exact⟨(Cl m).trans ((KeepsOthers.setCell _ _ _).from _),rfl,am.o E,World.cell?_setCell_same _ _ _ k3,(bT H m).setCell ϥ _⟩
 case done=>
  rintro D X hD ⟨j1,O,j3,H⟩ G;rw[lMp]at j1;have HE:ϝ ((G1&&G2)=R):=L.o j1;have c0:=O.cell Am V0;have c1:=O.cell Am V1;have c2:=O.cell Am V2;have N:=O.cell Am V3;have lX:w.heap.size+1<X.heap.size:=bLt _ _ N;have lD:D<X.heap.size:=(Array.getElem?_eq_some_iff.1 G).1;clear j1 Y L KP
  cases hg1:G1 with
  |false=>
   have ac:ϝ (false=R):=by show _=_;rw[<-HE.o,hg1];rfl
   rw[hg1]at I
   gi_wp2_with (first|(refine⟨trivial,rfl,?_⟩;gi_at_call 138;refine(callsIn_wide.2 (I.o _ H)).mono ?_;rintro e U ⟨rfl,m⟩;have k3:=cLz m N;have kf:Ξ U (w+1) 0:=(by rw[m.frozen (p:=⟨w+1,0,none⟩) lX];exact j3))|refine⟨trivial,?_⟩)
   have B:(U.setCell ⟨w+1,0,none⟩ (.bool false)).heap[D]? =some (.deferred (some [])):=(heap_setCell_other _ _ _ _ ϥ).trans ((m.block _ lD).trans G);refine⟨ϡ,.inl ⟨_,_,rfl,run_takeDeferred B,?_⟩⟩;have y3:=Da (World.cell?_setCell_same _ _ (.bool false) k3) B rfl (.deferred none);exact⟨.bool false,(by simp[results,results76,go_sem,y3]),Ab ac.o,CY ((bT H m).setCell ϥ _) ϟ B _⟩
  |true=>
   have ac:ϝ (G2=R):=by show _=_;rw[<-HE.o,hg1];rfl
   rw[hg1]at I
   gi_wp2_with (first
    |(refine⟨trivial,rfl,?_⟩;gi_at_call 138;refine(callsIn_wide.2 (I.o _ H)).mono ?_;rintro e U ⟨rfl,m⟩;have k0:=cLz m c0;have k1:=cLz m c1;have k2:=cLz m c2;have k3:=cLz m N;have kf:Ξ U (w+1) 0:=(by rw[m.frozen (p:=⟨w.heap.size+1,0,none⟩) lX];exact j3);have j5:=bT H m)
    |(refine⟨trivial,rfl,?_⟩;gi_at_call 139;refine(callsIn_wide.2 (Z.o _ j5)).mono ?_;rintro e w3 ⟨rfl,aa⟩;have u3:=cLz aa k3;have uf:Ξ w3 (w+1) 0:=(by rw[aa.frozen (p:=⟨w.heap.size+1,0,none⟩) (Nat.lt_of_lt_of_le lX m.size)];exact kf)))
   have B:∀v,(w3.setCell ⟨w+1,0,none⟩ v).heap[D]? =some (.deferred (some [])):=λv=>(heap_setCell_other _ _ _ _ ϥ).trans ((aa.block _ (Nat.lt_of_lt_of_le lD m.size)).trans ((m.block _ lD).trans G));refine⟨ϡ,.inl ⟨_,_,rfl,run_takeDeferred (B _),?_⟩⟩;have y3:=Da (World.cell?_setCell_same _ _ (.bool G2) u3) (B _) rfl (.deferred none);exact⟨.bool G2,(by simp[results,results76,go_sem,y3]),Ab ac.o,CY ((bT j5 aa).setCell ϥ _) ϟ (B _) _⟩
 case stop=>
  rintro D c X hD ⟨rfl,hE,N,H⟩ G
  gi_wp2
  refine⟨ϡ,.inl ⟨_,_,rfl,run_takeDeferred G,?_⟩⟩;have y3:=Da N G rfl (.deferred none);exact⟨.bool false,(by simp[results,results76,go_sem,y3]),Ab hE,CY H ϟ G _⟩
noncomputable def Dy(b:Buf):Int:=if A8 b.lim 1 64=false then 3 else if countB b=false then 2 else if Fo b=false then 1 else 0
theorem Ce(b:Buf)(x:BX)(w:ϛ)(h:bufAt w b x)(L:∀y∈Aa b,wfE y/\wfP (Az y))(K:(Aa b).length<=4611686018427387904):
 η 39 #[AF b x] w (θ w (vI (Dy b))):=by
 have k:=hIz (λ(c:ϛ) (t:Ϟ w c)=>Fi b x c (Ag h t) K);have q:=hIz (λ(c:ϛ) (t:Ϟ w c)=>Ea b x c (Ag h t) L);have p:ϝ (∀c,CT 65 #[vI b.lim] c λe w'=>e= .returned (.bool (A8 b.lim 1 64))/\w'=c):=λc=>Il _ c;obtain⟨R,s⟩:=nM (Dy b);have j:ϝ ((if A8 b.lim 1 64=false then 3 else if countB b=false then 2 else if Fo b=false then 1 else 0)=R):=s;rw[s];clear s h L K;obtain⟨N,G⟩:=nM (A8 b.lim 1 64);obtain⟨O,H⟩:=nM (countB b);obtain⟨P,I⟩:=nM (Fo b);rw[G]at p j;rw[H]at k j;rw[I]at q j;clear G H I;obtain⟨D,E,⟨⟨A,B,C⟩,Y⟩,U⟩:=x;obtain⟨z,X,Z⟩:=b;unfold AF hdV at k q⊢;dsimp only at p k q⊢;obtain⟨n,J⟩:∃n,U.length=n:=⟨_,rfl⟩;rw[J]at k q⊢;clear J;have m:Ϟ w (ξ w (ν z A B C D n E) 29):=Ϫ
 cases N with
 |false=>
  have f:ϝ ((3:Int)=R):=j.o;go_enter func39,ntmps39;go_wp2_with (go_at_call 65;refine(p.o _).mono ?_;rintro e F ⟨rfl,rfl⟩);go_ret;exact⟨Af f.o,m⟩
 |true=>
  cases O with
  |false=>
   have f:ϝ ((2:Int)=R):=j.o;go_enter func39,ntmps39;go_wp2_with (first
    |(go_at_call 65;refine(p.o _).mono ?_;rintro e F ⟨rfl,rfl⟩)
    |(go_at_call 75;refine(k.o _ m).mono ?_;rintro e d ⟨rfl,a⟩))
   go_ret;exact⟨Af f.o,bT m a⟩
  |true=>
   cases P with
   |false=>
    have f:ϝ ((1:Int)=R):=j.o;go_enter func39,ntmps39;go_wp2_with (first
     |(go_at_call 65;refine(p.o _).mono ?_;rintro e F ⟨rfl,rfl⟩)
     |(go_at_call 75;refine(k.o _ m).mono ?_;rintro e d ⟨rfl,a⟩;have r:=bT m a;have Q:Δ d w 0 (vI z):=cLz a ϣ;have S:Δ d w 1 (vS A B C):=cLz a ϣ;have T:Δ d w 2 (vS D n E):=cLz a ϣ)
     |(go_at_call 76;refine(q.o _ r).mono ?_;rintro e V ⟨rfl,u⟩))
    go_ret;exact⟨Af f.o,bT r u⟩
   |true=>
    have f:ϝ ((0:Int)=R):=j.o;go_enter func39,ntmps39;go_wp2_with (first
     |(go_at_call 65;refine(p.o _).mono ?_;rintro e F ⟨rfl,rfl⟩)
     |(go_at_call 75;refine(k.o _ m).mono ?_;rintro e d ⟨rfl,a⟩;have r:=bT m a;have Q:Δ d w 0 (vI z):=cLz a ϣ;have S:Δ d w 1 (vS A B C):=cLz a ϣ;have T:Δ d w 2 (vS D n E):=cLz a ϣ)
     |(go_at_call 76;refine(q.o _ r).mono ?_;rintro e V ⟨rfl,u⟩))
    go_ret;exact⟨Af f.o,bT r u⟩
end bf
namespace bf
open vl
variable {w w' : ϛ} {base base' g n size : Nat} {e : TypeId} {v : Value} {xs : List Value} {x : Ent} {l : List Ent}
theorem Nk:(Tryz.prog.info? 63).map (λi=>(i.zero,i.size,i.bytes))=some (some (.agg #[ϊ,ω,ω,ψ,ϋ]),5,64):=Ϣ
theorem A2(h:w.ownsRow base e size v n xs)(m:∀g,v.ownBlock=some g->w'.heap[g]? =w.heap[g]?):w'.ownsRow base e size v n xs:=by
 refine⟨h.1,?_⟩;rcases h.2 with f|⟨g,c,d,a,j,p,k⟩
 ·exact .inl f
 ·exact .inr ⟨g,c,d,a,j,by rw[m g (by rw[a];rfl)];exact p,k⟩
theorem AM(h:w.ownsRow base e size v n xs)(a:v.ownBlock=some g):base<=g/\g<w.heap.size:=World.ownsRow.lt h g a
theorem own_below(h:w.ownsRow base e size v n xs)(a:Ϟ w w'):w'.ownsRow base e size v n xs:=
 A2 h (λg c=>a.block g (AM h c).2)
theorem CK(h:w.ownsRow base e size v n xs)(k:base'<=base):w.ownsRow base' e size v n xs:=by
 refine⟨h.1,?_⟩;rcases h.2 with d|⟨g,a,c,p,f,m,j⟩
 ·exact .inl d
 ·exact .inr ⟨g,a,c,p,Nat.le_trans k f,m,j⟩
theorem IF{a:TypeId}{s s':Nat}{v':Value}{r:Nat}{t:List Value}(h:w.ownsRow base e s v n xs)(m:w.ownsRow base' a s' v' r t)(q:e≠a)(d:v.ownBlock=some g):v'.ownBlock≠some g:=λf=>by
 rcases h.2 with⟨rfl,_⟩|⟨b,y,A,rfl,_,p,_⟩
 ·cases d
 ·rcases m.2 with⟨rfl,_⟩|⟨u,z,B,rfl,_,c,_⟩
  ·cases f
  ·cases d
   cases f
   rw[p]at c;injection c with j
   injection j with _ k _
   exact q k
theorem Ch(b a j:Nat):(⟨b,a,none⟩:Addr).add j=⟨b,a+j,none⟩:=by unfold Addr.add;split<;>simp_all
theorem DL{b d:Nat}{r:List Cel}(h:vl.rowAt w (some ⟨b,d,none⟩) r):∀j u,(celCells r)[j]? =some u->w.cell? ((⟨b,d,none⟩:Addr).add j)=some u:=by
 intro j u a;have k:j<(celCells r).length:=by
  rcases Nat.lt_or_ge j (celCells r).length with h|h
  ·exact h
  ·rw[getElem?_eq_none h]at a;cases a
 rw[Db]at k;have c:j/3<r.length:=ϟ;obtain⟨z,A,e,m,p,q⟩:=h (j/3) c
 cases e
 obtain⟨s,t,y⟩:=Iz r (j/3) c;rw[Ch];have f:j=j/3 * 3\/j=j/3 * 3+1\/j=j/3 * 3+1+1:=ϟ;rcases f with e|e|e
 ·rw[e]at a⊢;rw[s]at a;rw[<-a];exact m
 ·rw[e]at a⊢;rw[t]at a;rw[<-a];exact p
 ·rw[e]at a⊢;rw[y]at a;rw[<-a];exact q
theorem Dw(r:List Cel):∀u∈celCells r,u.oneCell'=true:=by
 intro u d;unfold celCells at d;obtain⟨c,_,a⟩:=mem_flatMap.1 d;simp at a;rcases a with rfl|rfl|rfl<;>rfl
def EM.to(e:EM)(h:Hdr):EM:=⟨e.key,e.time,e.seq,h,e.met⟩
def Aq(l:List EM):List Value:=l.flatMap λe=>[.string e.key,vI e.time,vI e.seq,hdV e.row,.bool e.met]
theorem E4(l:List EM):(Aq l).length=l.length * 5:=by
 induction l with
 |nil=>rfl
 |cons c r ih=>show([_,_,_,_,_]++Aq r).length=_;rw[lAp,ih,length_cons];simp;omega
theorem ET(l:List EM)(e:EM):Aq (l++[e])=Aq l++[.string e.key,vI e.time,vI e.seq,hdV e.row,.bool e.met]:=by
 unfold Aq;rw[flatMap_append];simp
theorem Fb(r:List EM)(i:Nat)(h:i<r.length):(Aq r)[i * 5]? =some (.string (r.getD i ϰ).key)/\(Aq r)[i * 5+1]? =some (vI (r.getD i ϰ).time)/\(Aq r)[i * 5+2]? =some (vI (r.getD i ϰ).seq)/\(Aq r)[i * 5+3]? =some (hdV (r.getD i ϰ).row)/\(Aq r)[i * 5+4]? =some (.bool (r.getD i ϰ).met):=by
 induction r generalizing i with
 |nil=>exact absurd h (Nat.not_lt_zero i)
 |cons c r ih=>
  have e:Aq (c::r)= .string c.key::vI c.time::vI c.seq::hdV c.row:: .bool c.met::Aq r:=rfl;rw[e]
  cases i with
  |zero=>exact⟨rfl,rfl,rfl,rfl,rfl⟩
  |succ i=>
   have:=ih i (by simpa using h);rw[show(i+1) * 5=i * 5+1+1+1+1+1 by omega];simpa using this
structure OR(w:World)(base:Nat)(e:EM)(x:Ent):Prop where
 key:e.key=x.key
 time:e.time=x.time
 seq:e.seq=x.seq
 met:e.met=x.met
 len:e.row.2.1=x.row.length
 row:A4 w base (hdV e.row) x.row
theorem OR.er{e:EM}(h:OR w base e x):ER w e x:=⟨h.key,h.time,h.seq,h.met,h.len,by
 have a:=h.row;have c:=h.len;obtain⟨j,q,p,⟨d,m,f⟩,k⟩:=e;unfold hdV at a;dsimp only at a c⊢;rw[c]at a;exact E6 a⟩
structure OE(w:World)(base:Nat)(v:Value)(es:List EM)(l:List Ent):Prop where
 low:base<=w.heap.size
 own:w.ownsRow base 63 5 v es.length (Aq es)
 len:es.length=l.length
 rows:∀i,i<l.length->OR w base (es.getD i ϰ) (l.getD i ϰ)
theorem BD(h:base<=w.heap.size):OE w base (vS none 0 0) [] []:=⟨h,World.ownsRow_nil _ _ _ _,rfl,λi a=>absurd a (Nat.not_lt_zero i)⟩
theorem OE.form{es:List EM}(h:OE w base v es l):∃c a,v=vS c es.length a:=by
 rcases h.own.2 with⟨rfl,d⟩|⟨g,a,f,rfl,_⟩
 ·exact⟨none,0,by rw[d]⟩
 ·exact⟨_,_,rfl⟩
theorem OE.ers{es:List EM}(h:OE w base v es l):ERs w es l:=⟨h.len,λi a=>(h.rows i a).er⟩
theorem OE.at{cap:Nat}{ad:Ϝ}{es:List EM}(h:OE w base (vS ad es.length cap) es l):BG w ad es:=by
 intro i d;rcases h.own.2 with⟨c,s⟩|⟨g,q,r,c,t,y,u⟩
 ·omega
 ·cases c
  have a:=World.ownsRow.cells h.own (g:=g) rfl;obtain⟨f,j,k,m,p⟩:=Fb es i d;refine⟨g,0,rfl,?_,?_,?_,?_,?_⟩
  ·have:=a _ _ f;rw[Ch]at this;exact this
  ·have:=a _ _ j;rw[Ch]at this;exact this
  ·have:=a _ _ k;rw[Ch]at this;exact this
  ·have:=a _ _ m;rw[Ch]at this;exact this
  ·have:=a _ _ p;rw[Ch]at this;exact this
theorem OE.below{es:List EM}(h:OE w base v es l)(a:Ϟ w w'):OE w' base v es l:=
 ⟨Nat.le_trans h.low a.size,own_below h.own a,h.len,λi p=>by
  obtain⟨c,d,f,j,k,m⟩:=h.rows i p;exact⟨c,d,f,j,k,own_below m a⟩⟩
theorem OE.mono{es:List EM}(h:OE w base v es l)(a:base'<=base):OE w base' v es l:=
 ⟨Nat.le_trans a h.low,CK h.own a,h.len,λi p=>by
  obtain⟨c,d,f,j,k,m⟩:=h.rows i p;exact⟨c,d,f,j,k,CK m a⟩⟩
theorem OE.same{es:List EM}(h:OE w base v es l)(y:w.heap.size<=w'.heap.size)(j:∀g c t,w.heap[g]? =some (.cells c t (0,0))->(v.ownBlock=some g/\t=63)\/t=103->w'.heap[g]? =w.heap[g]?):OE w' base v es l:=
 ⟨Nat.le_trans h.low y,A2 h.own (λg a=>by
  rcases h.own.2 with⟨rfl,_⟩|⟨b,s,c,rfl,_,d,_⟩
  ·cases a
  ·cases a
   exact j _ _ _ d (.inl ⟨rfl,rfl⟩)),h.len,λi u=>by
  obtain⟨k,m,p,q,r,f⟩:=h.rows i u;refine⟨k,m,p,q,r,A2 f (λg a=>?_)⟩;rcases f.2 with⟨e,_⟩|⟨b,s,c,e,_,d,_⟩
  ·rw[e]at a;cases a
  ·rw[e]at a;cases a;exact j _ _ _ d (.inr rfl)⟩
theorem IG{a w2:ϛ}{es:List EM}{e:EM}{cap2:Nat}{o:Obj}(h:OE w base v es l)(r:Ϟ w a)(H:OR a base e x)
 (E:w2.ownsRow base 63 5 (vS (τ g) (es.length+1) cap2) (es.length+1) (Aq es++[.string e.key,vI e.time,vI e.seq,hdV e.row,.bool e.met])) (m:(a.alloc o).grownBy w2 v.ownBlock):
 OE w2 base (vS (τ g) (es.length+1) cap2) (es++[e]) (l++[x])/\Below base w w2:=by
 have c:=h.below r;have F:a.heap.size<=w2.heap.size:=by have:=m.size;simp at this;omega
 have C:∀b,b<a.heap.size->v.ownBlock≠some b->w2.heap[b]? =a.heap[b]? :=λb d D=>by
  rw[m.block b Ϥ (λe=>D e.symm)];exact Below.heap_alloc _ _ b d
 have t:∀{j:EM} {q:Ent},OR a base j q->OR w2 base j q:=λ{j q} k=>by
  obtain⟨u,y,z,A,B,f⟩:=k;refine⟨u,y,z,A,B,A2 f (λb d=>C b (AM f d).2 (λG=>?_))⟩;exact IF c.own f Ϡ G d
 refine⟨⟨Nat.le_trans c.low F,?_,by rw[lAp,lAp,h.len];rfl,λi s=>?_⟩,?_⟩
 ·rw[lAp,ET];exact E
 ·rw[lAp]at s;by_cases p:i<l.length
  ·rw[AS (by rw[h.len];exact p),AS p];exact t (c.rows i p)
  ·have:i=l.length:=by simp at s;omega
   subst this;rw[AH (by rw[h.len];exact Nat.le_refl _),AH nR,h.len,Nat.sub_self];exact t H
 ·exact((r.mono h.low).alloc c.low o).grown m (by simp;have:=c.low;omega) (λb d=>(AM c.own d).1)
end bf
end Go.Proofs.YtdohnkkbkfhphaaGreat
