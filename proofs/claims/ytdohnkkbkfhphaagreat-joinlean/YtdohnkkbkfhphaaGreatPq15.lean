import Derived.Test.YtdohnkkbkfhphaaGreatPq14
set_option linter.all false
set_option maxHeartbeats 8000000
set_option maxRecDepth 100000
namespace Go.Proofs.YtdohnkkbkfhphaaGreat
open Go.Proofs.Tryz
namespace bf
open Go.ChangeShapes Go.WideShapes Go.ChangeAt Go.RowKit Go.Shelf
open vl
attribute [local go_sem] Oper.semAt_some
theorem Dm{F:Fence}{n:Nat}{ops:Array Oper}{o:Oper}{a:Act}{K:Act->World->Prop}{Q:Exit->Act->World->Prop}{E:Prop}{w w':World}{v vx v':Value}(s x:Operand)(t:TypeId)(hop:o.op=Op.call {callee:=Callee.builtin Builtin.append,args:=#[s,x],argTypes:=#[t,t]})
 (hs:a.eval s=v) (hx:a.eval x=vx) (hw:Region.wanted o (yielded ops a.tmps)=true) (hrun:(Builtin.append_ #[t,t] o.type #[v,vx]).run Tryz.prog w= .ok v' w') (h:K (a.put o.dst v') w'):
 if Region.wanted o (yielded ops a.tmps)=true then Oper.wpIn F n Tryz.prog o a w K Q else E:=by
 rw[if_pos hw]
 unfold Oper.wpIn
 refine⟨?_,?_⟩
 ·simp[Oper.about,hop,resolve,Target.leads,Sem.run_pure]
 ·rw[Oper.semAt_plain F _ _ (by rw[hop];intro c hc';cases hc')]
  simp[execOp,hop,resolve,invoke,builtin,hs,hx,hrun,Result.andThen]
  exact h
theorem L8(fn:FuncId)(eg:∀args w,(callFunc fn args).run Tryz.prog w= .ok (.enter fn args) w)(caps:Array Value)(P:Ent->Bool)(b:Buf)(x:BX)(w:World)(h:bufAt w b x)(hs:(Ab b).length<=100000)(hrow:∀y∈Ab b,y.row.length<=1000000)
 (H:∀e y w1,ER w1 e y->y∈Ab b->Bwz w w1->Calls Tryz.prog fn (#[e.val]++caps) w1 fun r w'=>r= .returned (.bool (P y))/\Bwz w1 w'):
 Calls Tryz.prog 58 #[AQ b x,.func (.func fn) #[] caps] w fun e w'=>(∃(hh:Hdr) (es':List EM) (l':List Ent),e= .returned (hdV hh)/\l'.Perm ((Ab b).filter P)/\(∀i j,i<j->j<l'.length->¬ltP (l'.getD j default) (l'.getD i default))/\OE w' w.heap.size (hdV hh) es' l')/\Bwz w w':=by
 obtain⟨i0,hi0,hz0,hz1,hz2⟩:=info_parts PO
 have HI:Hid (Tryz.prog.info? 63=some i0/\i0.zero=some (.agg #[.string ⟨#[]⟩,.int .i64 0,.int .i64 0,.slice none 0 0,.bool false])/\i0.size=5/\i0.bytes=64):=⟨hi0,hz0,hz1,hz2⟩
 clear hi0 hz0 hz1 hz2
 have HB:Hid (bufAt w b x):=h
 have HER:Hid (ERs w (ems (x.m::x.rs)) (Ab b)):=CR h
 obtain⟨L,hL⟩:=nM (Ab b)
 rw[hL]at HER hs hrow H⊢
 have HH:Hid (∀e y w1,ER w1 e y->y∈L->Bwz w w1->Calls Tryz.prog fn (#[e.val]++caps) w1 fun r w'=>r= .returned (.bool (P y))/\Bwz w1 w'):=H
 have HRO:Hid ((∀y∈L,y.row.length<=1000000)/\L.length<=100000):=⟨hrow,hs⟩
 clear hL h H hrow hs
 obtain⟨ra,rc,⟨⟨m1,m2,m3⟩,ml⟩,rs⟩:=x
 obtain⟨lim,mem,runs⟩:=b
 unfold AQ
 dsimp only at HER⊢
 rw[show hdV (m1,m2,m3)= .slice m1 m2 m3 from rfl]
 obtain⟨n,hn⟩:∃n,rs.length=n:=⟨_,rfl⟩
 have HN:Hid (rs.length=n):=hn
 rw[hn]
 clear hn
 refine(callsIn_wide (n:=0)).1 ?_
 refine callsIn_of_wp_marks func58 rfl trivial ?_ rfl
 simp only[ntmps58,List.size_toArray,List.length_cons,List.length_nil,Nat.reduceAdd,Nat.reduceSub,Array.replicate_succ,Array.replicate_zero,List.push_toArray,List.append_toArray,List.nil_append,List.cons_append]
 gi_wp2_with (refine⟨trivial,rfl,?_⟩;gi_at_call 113;refine(callsIn_wide.2 (FL _ _ _ rfl rfl rfl _)).mono ?_;rintro e w' ⟨rfl,rfl⟩)
 have V0:((((w.alloc (.cells #[.int .i64 lim,.slice m1 m2 m3,.slice ra n rc] 29)).alloc (.cells #[.func (.func fn) #[] caps] 110)).alloc (.cells #[.slice none 0 0] 26)).alloc (.cells #[.int .i64 lim,.slice m1 m2 m3,.slice ra n rc] 29)).cell? ⟨w.heap.size+1,0,none⟩=some (.func (.func fn) #[] caps):=by go_simp
 have V3:((((w.alloc (.cells #[.int .i64 lim,.slice m1 m2 m3,.slice ra n rc] 29)).alloc (.cells #[.func (.func fn) #[] caps] 110)).alloc (.cells #[.slice none 0 0] 26)).alloc (.cells #[.int .i64 lim,.slice m1 m2 m3,.slice ra n rc] 29)).cell? ⟨w.heap.size+1+1,0,none⟩=some (.slice none 0 0):=by go_simp
 have V4:((((w.alloc (.cells #[.int .i64 lim,.slice m1 m2 m3,.slice ra n rc] 29)).alloc (.cells #[.func (.func fn) #[] caps] 110)).alloc (.cells #[.slice none 0 0] 26)).alloc (.cells #[.int .i64 lim,.slice m1 m2 m3,.slice ra n rc] 29)).frozen? ⟨w.heap.size+1+1,0,none⟩=false:=by go_simp
 have V5:((((w.alloc (.cells #[.int .i64 lim,.slice m1 m2 m3,.slice ra n rc] 29)).alloc (.cells #[.func (.func fn) #[] caps] 110)).alloc (.cells #[.slice none 0 0] 26)).alloc (.cells #[.int .i64 lim,.slice m1 m2 m3,.slice ra n rc] 29)).cell? ⟨w.heap.size+1+1+1,0,none⟩=some (.int .i64 lim):=by go_simp
 have V6:((((w.alloc (.cells #[.int .i64 lim,.slice m1 m2 m3,.slice ra n rc] 29)).alloc (.cells #[.func (.func fn) #[] caps] 110)).alloc (.cells #[.slice none 0 0] 26)).alloc (.cells #[.int .i64 lim,.slice m1 m2 m3,.slice ra n rc] 29)).cell? ⟨w.heap.size+1+1+1,1,none⟩=some (.slice m1 m2 m3):=by go_simp
 have V7:((((w.alloc (.cells #[.int .i64 lim,.slice m1 m2 m3,.slice ra n rc] 29)).alloc (.cells #[.func (.func fn) #[] caps] 110)).alloc (.cells #[.slice none 0 0] 26)).alloc (.cells #[.int .i64 lim,.slice m1 m2 m3,.slice ra n rc] 29)).cell? ⟨w.heap.size+1+1+1,2,none⟩=some (.slice ra n rc):=by go_simp
 have V8:Bwz w ((((w.alloc (.cells #[.int .i64 lim,.slice m1 m2 m3,.slice ra n rc] 29)).alloc (.cells #[.func (.func fn) #[] caps] 110)).alloc (.cells #[.slice none 0 0] 26)).alloc (.cells #[.int .i64 lim,.slice m1 m2 m3,.slice ra n rc] 29)):=by
  repeat (first|exact bR|(refine Below.alloc ?_ (by simp<;>omega) _))
 have V9:((((w.alloc (.cells #[.int .i64 lim,.slice m1 m2 m3,.slice ra n rc] 29)).alloc (.cells #[.func (.func fn) #[] caps] 110)).alloc (.cells #[.slice none 0 0] 26)).alloc (.cells #[.int .i64 lim,.slice m1 m2 m3,.slice ra n rc] 29)).heap.size=w.heap.size+1+1+1+1:=by simp
 have T1:An ((((w.alloc (.cells #[.int .i64 lim,.slice m1 m2 m3,.slice ra n rc] 29)).alloc (.cells #[.func (.func fn) #[] caps] 110)).alloc (.cells #[.slice none 0 0] 26)).alloc (.cells #[.int .i64 lim,.slice m1 m2 m3,.slice ra n rc] 29)) (w.heap.size+1) 110:=Af (Af ⟨_,_,(by have h:=World.alloc_heap_new (w.alloc (.cells #[.int .i64 lim,.slice m1 m2 m3,.slice ra n rc] 29)) (.cells #[.func (.func fn) #[] caps] 110);rw[World.size_alloc]at h;exact h)⟩ (bR.alloc nR _)) (bR.alloc nR _)
 have T2:An ((((w.alloc (.cells #[.int .i64 lim,.slice m1 m2 m3,.slice ra n rc] 29)).alloc (.cells #[.func (.func fn) #[] caps] 110)).alloc (.cells #[.slice none 0 0] 26)).alloc (.cells #[.int .i64 lim,.slice m1 m2 m3,.slice ra n rc] 29)) (w.heap.size+1+1) 26:=Af ⟨_,_,(by have h:=World.alloc_heap_new ((w.alloc (.cells #[.int .i64 lim,.slice m1 m2 m3,.slice ra n rc] 29)).alloc (.cells #[.func (.func fn) #[] caps] 110)) (.cells #[.slice none 0 0] 26);rw[World.size_alloc,World.size_alloc]at h;exact h)⟩ (bR.alloc nR _)
 have T3:An ((((w.alloc (.cells #[.int .i64 lim,.slice m1 m2 m3,.slice ra n rc] 29)).alloc (.cells #[.func (.func fn) #[] caps] 110)).alloc (.cells #[.slice none 0 0] 26)).alloc (.cells #[.int .i64 lim,.slice m1 m2 m3,.slice ra n rc] 29)) (w.heap.size+1+1+1) 29:=⟨_,_,(by have h:=World.alloc_heap_new (((w.alloc (.cells #[.int .i64 lim,.slice m1 m2 m3,.slice ra n rc] 29)).alloc (.cells #[.func (.func fn) #[] caps] 110)).alloc (.cells #[.slice none 0 0] 26)) (.cells #[.int .i64 lim,.slice m1 m2 m3,.slice ra n rc] 29);rw[World.size_alloc,World.size_alloc,World.size_alloc]at h;exact h)⟩
 generalize ((((w.alloc (.cells #[.int .i64 lim,.slice m1 m2 m3,.slice ra n rc] 29)).alloc (.cells #[.func (.func fn) #[] caps] 110)).alloc (.cells #[.slice none 0 0] 26)).alloc (.cells #[.int .i64 lim,.slice m1 m2 m3,.slice ra n rc] 29))=V at *
 have N1:names (I5 w.heap.size (w.heap.size+1+1)) V (w.heap.size+1):=Nl T1 (by decide) (by omega)
 have N3:names (I5 w.heap.size (w.heap.size+1+1)) V (w.heap.size+1+1+1):=Nl T3 (by decide) (by omega)
 have hit:=EL HB.out V8 (w.heap.size+1+1+1) (I5 w.heap.size (w.heap.size+1+1)) V5 V6 (by rw[HN.out];exact V7) N3 (fun k hk=>Rd hk (by omega)) (fun k c f hk=>⟨by omega,fun c' f' e=>by injection e with _ e2 _;exact absurd e2 (by decide)⟩) (fun k c f hk=>⟨by omega,fun c' f' e=>by injection e with _ e2 _;exact absurd e2 (by decide)⟩)
 have HM0:Hid (Mk V w.heap.size (w.heap.size+1+1) (.slice none 0 0) [] []):=⟨De (by omega),V3,V4,T2⟩
 clear V3 V4 V5 V6 V7 T1 T2 T3
 dsimp only at hit
 obtain⟨E,hE⟩:=nM (ems ((((m1,m2,m3):Hdr),ml)::rs))
 rw[hE]at hit HER
 clear hE
 refine Cq (gf:=161) (lb:=#[.pointer (some ⟨w.heap.size+1+1+1,0,none⟩)]) rfl (enters_of func161 (by kernel_rfl) rfl) hit bR (fun x hx=>by obtain⟨p,_,rfl⟩:=List.mem_map.1 hx;rfl) (fun h k=>Aj.trans h k) (fun W l o o' _ h ho=>Aj.put W l o o' h ho)
  (fun i X=>(∃(v:Hdr) (es':List EM),Mk X w.heap.size (w.heap.size+1+1) (hdV v) es' ((L.take i).filter P))/\Aj (I5 w.heap.size (w.heap.size+1+1)) V X/\Bwz w X) (fun c X=>False)
  (fun i X X' row hs hg hr=>by
   obtain⟨⟨v,es',hm⟩,h2,h3⟩:=hs
   exact⟨⟨v,es',hm.row hg (fun r e=>(hr r e).2)⟩,h2.grown hg (fun r e=>(hr r e).2),Cj h3 nR (by omega) hg hr⟩)
  (fun c X X' row hs hg hr=>hs)
  ⟨⟨(none,0,0),[],HM0.out⟩,Aj.refl _ _,V8⟩
  (fun i a' X=> ∃B,a'={tmps:=#[.agg #[.int .i64 lim,.slice m1 m2 m3,.slice ra n rc],.func (.func fn) #[] caps,.pointer (some ⟨w.heap.size,0,none⟩),.pointer (some ⟨w.heap.size+1,0,none⟩),.slice none 0 0,.pointer (some ⟨w.heap.size+1+1,0,none⟩),.pointer (some ⟨B,0,none⟩),.agg #[.int .i64 lim,.slice m1 m2 m3,.slice ra n rc],.func (.func 161) #[] #[.pointer (some ⟨w.heap.size+1+1+1,0,none⟩)],(E.getD i default).val,undef,undef,undef,undef,undef,undef,undef,undef,undef,undef,undef],defers:=[]}/\X.cell? ⟨B,0,none⟩=some (.string (E.getD i default).key)/\X.cell? ⟨B,1,none⟩=some (.int .i64 (E.getD i default).time)/\X.cell? ⟨B,2,none⟩=some (.int .i64 (E.getD i default).seq)/\X.cell? ⟨B,3,none⟩=some (hdV (E.getD i default).row)/\X.cell? ⟨B,4,none⟩=some (.bool (E.getD i default).met))
  (fun i a' u X X' row hs hg hr=>by
   obtain⟨B,h1,h2,h3,h4,h5,h6⟩:=hs
   exact⟨B,h1,cell_kept h2 hg (fun r e=>(hr r e).2),cell_kept h3 hg (fun r e=>(hr r e).2),cell_kept h4 hg (fun r e=>(hr r e).2),cell_kept h5 hg (fun r e=>(hr r e).2),cell_kept h6 hg (fun r e=>(hr r e).2)⟩) ?assign ?body ?done ?stop
 case assign=>
  intro l' k x X K hx hi hK
  obtain⟨hk,hxe⟩:=List.getElem?_eq_some_iff.1 hx
  rw[lMp]at hk
  rw[List.getElem_map]at hxe
  subst hxe
  have hd:E.getD k default=E[k]:=by rw[gDe,gEe hk];rfl
  have hK2:=hK
  rw[hd]at hK2
  clear hK hd hx
  obtain⟨⟨ek,et,es,⟨r1,r2,r3⟩,em⟩,hz⟩:∃z,E[k]=z:=⟨_,rfl⟩
  rw[hz]at hK2⊢
  unfold EM.val hdV at hK2⊢
  dsimp only at hK2⊢
  obtain⟨⟨v,es',hm⟩,j2,j4⟩:=hi
  gi_wp2
  exact hK2 _ _ ((KeepsOthers.alloc _ _).from _) (Aj.alloc _ _) ⟨⟨v,es',hm.below (bR.alloc nR _)⟩,j2.trans (Aj.alloc _ _),j4.alloc j4.size _⟩ ⟨X.heap.size,rfl,by go_simp,by go_simp,by go_simp,by go_simp,by go_simp⟩
 case body=>
  intro l' i x a' X hx hl' hrec hIi hax
  obtain⟨⟨⟨v1,v2,v3⟩,es',hm⟩,j2,j4⟩:=hIi
  obtain⟨B,hax,b0,b1,b2,b3,b4⟩:=hax
  subst hax
  obtain⟨hi,_⟩:=List.getElem?_eq_some_iff.1 hx
  rw[lMp]at hi
  have hEL:=HER.out.1
  have hil:i<L.length:=by omega
  have her:=HER.out.2 i hil
  have hmem:L.getD i default∈L:=Bb hil
  have KK:Hid (∀w1,Bwz X w1->Calls Tryz.prog fn (#[(E.getD i default).val]++caps) w1 fun r w'=>r= .returned (.bool (P (L.getD i default)))/\Bwz w1 w'):=fun w1 hb=>HH.out _ _ w1 (her.below (j4.trans (hb.mono j4.size))) hmem (j4.trans (hb.mono j4.size))
  have KF:Hid (∀w1,Bwz X w1->Calls Tryz.prog 114 #[(E.getD i default).val] w1 fun r w'=>(∃ad c,r= .returned ((E.getD i default).to (ad,(L.getD i default).row.length,c)).val/\AM w' w1.heap.size (.slice ad (L.getD i default).row.length c) (L.getD i default).row)/\Bwz w1 w'):=fun w1 hb=>EH _ _ w1 (her.below (j4.trans (hb.mono j4.size))) (HRO.out.1 _ hmem)
  have HF:Hid ((L.take (i+1)).filter P=(L.take i).filter P++(if P (L.getD i default)=true then [L.getD i default]else [])):=IF hil
  have HER2:Hid (ER w (E.getD i default) (L.getD i default)):=her
  have HM:Hid (Mk X w.heap.size (w.heap.size+1+1) (hdV (v1,v2,v3)) es' ((L.take i).filter P)):=hm
  have hel:es'.length<=100000:=by
   have h1:=hm.oe.len
   have h2:=List.length_filter_le P (L.take i)
   have h3:=HRO.out.2
   rw[List.length_take]at h2
   omega
  have hv2:v2=es'.length:=by
   obtain⟨ad,cp,hf⟩:=hm.oe.form
   unfold hdV at hf
   injection hf with _ e2 _
  obtain⟨yy,hyy⟩:=nM (L.getD i default)
  rw[hyy]at KK KF HF HER2
  obtain⟨⟨ek,et,es1,⟨r1,r2,r3⟩,em⟩,hz⟩:∃z,E.getD i default=z:=⟨_,rfl⟩
  rw[hz]at KK KF b0 b1 b2 b3 b4 HER2⊢
  unfold EM.val EM.to hdV at KF
  unfold EM.val hdV at KK
  unfold hdV at b3
  dsimp only at KK KF b0 b1 b2 b3 b4
  have c0:=j2.cell N1 V0
  have cL:X.cell? ⟨w.heap.size+1+1,0,none⟩=some (.slice v1 v2 v3):=hm.c
  have lL:=Ba hm.ty
  have lB:B<X.heap.size:=bLt _ _ b0
  have hmx:Tryz.prog.follows .mixedOrders=true:=by kernel_rfl
  have HJ:Hid (Aj (I5 w.heap.size (w.heap.size+1+1)) V X):=j2
  clear hz hyy hx hm her hmem hEL j2
  obtain⟨rl,hrl⟩:=nM yy.row.length
  have HRL:Hid (yy.row.length=rl):=hrl
  rw[hrl]at KF
  clear hrl
  cases hp:P yy with
  |false=>
   rw[hp]at KK HF
   gi_wp2_with (refine⟨trivial,rfl,?_⟩;refine(CallsIn.inRound l' (callsIn_wide.2 (KK.out _ bR))).mono ?_;rintro e w2 ⟨rfl,hb2⟩)
   exact⟨Bs hb2,fun k ob h1 _ _=>(hb2.block k (Array.getElem?_eq_some_iff.1 h1).1).trans h1,⟨(v1,v2,v3),es',by rw[HF.out];simpa using HM.out.below hb2⟩,HJ.out.trans (fun k ob h1 _ _=>(hb2.block k (Array.getElem?_eq_some_iff.1 h1).1).trans h1),j4.trans (hb2.mono j4.size)⟩
  |true=>
   rw[hp]at KK HF
   subst hv2
   obtain⟨en,hen⟩:=nM es'.length
   have HEN:Hid (es'.length=en):=hen
   rw[hen]at hel cL
   clear hen
   gi_wp2_with (refine⟨trivial,rfl,?_⟩;refine(CallsIn.inRound l' (callsIn_wide.2 (KK.out _ bR))).mono ?_;rintro e w2 ⟨rfl,hb2⟩;have d0:=cLz hb2 b0;have d1:=cLz hb2 b1;have d2:=cLz hb2 b2;have d3:=cLz hb2 b3;have d4:=cLz hb2 b4;have dL:=cLz hb2 cL)
   have hbX2:Bwz X w2:=hb2
   have HAP:Hid (∀w3 ad3 c3,Bwz X w3->∃g c4 w4,(Builtin.append_ #[26,26] 26 #[.slice v1 en v3,.slice (some ⟨w3.heap.size,0,none⟩) 1 1]).run Tryz.prog (w3.alloc (.cells #[.string ek,.int .i64 et,.int .i64 es1,.slice ad3 rl c3,.bool em] 63))= .ok (.slice (some ⟨g,0,none⟩) (en+1) c4) w4/\
    w4.ownsRow w.heap.size 63 5 (.slice (some ⟨g,0,none⟩) (en+1) c4) (en+1) (Ar es'++[.string ek,.int .i64 et,.int .i64 es1,.slice ad3 rl c3,.bool em])/\(w3.alloc (.cells #[.string ek,.int .i64 et,.int .i64 es1,.slice ad3 rl c3,.bool em] 63)).grownBy w4 (Value.slice v1 en v3).ownBlock):=fun w3 ad3 c3 hb=>by
    have ho:=own_below HM.out.oe.own hb
    unfold hdV at ho
    rw[HEN.out]at ho
    have hsz:=Nat.le_trans j4.size hb.size
    obtain⟨v4,w4,q1,q2,q3,_⟩:=run_append_own (P:=Tryz.prog) (w3.alloc (.cells #[.string ek,.int .i64 et,.int .i64 es1,.slice ad3 rl c3,.bool em] 63)) w.heap.size 26 26 63 i0 (.agg #[.string ⟨#[]⟩,.int .i64 0,.int .i64 0,.slice none 0 0,.bool false]) 5 64 underlying26 HI.out.1 HI.out.2.1 HI.out.2.2.1 HI.out.2.2.2 rfl (by decide) _ en _ (World.ownsRow.alloc ho _) ⟨w3.heap.size,0,none⟩ 1 1 [.string ek,.int .i64 et,.int .i64 es1,.slice ad3 rl c3,.bool em] rfl (D7 _ _ _ _ _ _ _) (by intro u hu;simp at hu;rcases hu with rfl|rfl|rfl|rfl|rfl<;>rfl) (by unfold maxLen;omega) (by omega) (by simp;omega)
    obtain⟨g,c4,hv4⟩:=Ke q2
    subst hv4
    exact⟨g,c4,w4,q1,q2,q3⟩
   refine wpIn_region_any (by assumption) ?_
   try (change wpAnyIn _ _ _ _ _ _ _ _ _ (World.drew _))
   refine wpAnyIn_ready (rs:=[0,1]) (by kernel_rfl) (by simp) ?_
   refine AllReadyIn.cons rfl (fun K hK=>?_) ?_
   ·skip
    go_simp
    refine hK _ _ ?_
    clear hK K
    refine wpAnyIn_ready (rs:=[1]) (by kernel_rfl) (by simp) ?_
    refine AllReadyIn.cons rfl (fun K hK=>?_) ?_
    ·skip
     go_simp
     refine hK _ _ ?_
     clear hK K
     refine wpAnyIn_ready (rs:=[2]) (by kernel_rfl) (by simp) ?_
     refine AllReadyIn.cons rfl (fun K hK=>?_) ?_
     ·skip
      go_simp
      gi_wp2_with (refine⟨trivial,rfl,?_⟩;gi_at_call 114;refine(CallsIn.inRound l' (callsIn_wide.2 (KF.out _ hbX2.drew))).mono ?_;rintro e w3 ⟨⟨ad3,c3,rfl,hov⟩,hb3⟩;have hbX3:Bwz X w3:=hbX2.drew.trans (hb3.mono hbX2.size);have fL:=cLz hbX3 cL;have lL3:=Nat.lt_of_lt_of_le lL hbX3.size;obtain⟨g4,c4,w4,q1,q2,q3⟩:=HAP.out w3 ad3 c3 hbX3;have hmid:=OI HM.out hbX3 (by unfold hdV;dsimp only;rw[HEN.out];exact q3);unfold hdV at hmid;dsimp only at hmid;rw[HEN.out]at hmid;obtain⟨m4,mf⟩:=hmid)
      try (refine hK _ _ ?_;clear hK K)
      refine wpAnyIn_ready (rs:=[3]) (by kernel_rfl) (by simp) ?_
      refine AllReadyIn.cons rfl (fun K hK=>?_) ?_
      ·skip
       go_simp
       refine hK _ _ ?_
       clear hK K
       refine wpAnyIn_ready (rs:=[4]) (by kernel_rfl) (by simp) ?_
       refine AllReadyIn.cons rfl (fun K hK=>?_) ?_
       ·skip
        refine Dm (.tmp 13) (.tmp 16) 26 rfl rfl rfl rfl q1 ?_
        refine hK _ _ ?_
        clear hK K
        refine wpAnyIn_ready (rs:=[5]) (by kernel_rfl) (by simp) ?_
        refine AllReadyIn.cons rfl (fun K hK=>?_) ?_
        ·skip
         go_simp
         refine hK _ _ ?_
         clear hK K
         refine wpAnyIn_done (by kernel_rfl) ?_ _
         gi_wp2
         have HSN:=IP (e:=⟨ek,et,es1,(ad3,rl,c3),em⟩) (y:=yy) (g:=g4) (c4:=c4) HM.out hbX3 ⟨HER2.out.key,HER2.out.time,HER2.out.seq,HER2.out.met,HRL.out.symm,by unfold hdV;dsimp only;exact Cx hov (by have:=hbX2.size;have:=j4.size;show w.heap.size<=w2.heap.size;omega)⟩ (by omega) (by rw[HEN.out];exact q2) (by unfold hdV;dsimp only;rw[HEN.out];exact q3) V.heap.size
         rw[HEN.out]at HSN
         obtain⟨s1,s2,s3,s4⟩:=HSN
         exact⟨s4,s3,⟨(some ⟨g4,0,none⟩,en+1,c4),_,by rw[HF.out,if_pos (by trivial)];exact s1⟩,HJ.out.trans s3,j4.trans s2⟩
        exact AllReadyIn.nil
       exact AllReadyIn.nil
      exact AllReadyIn.nil
     exact AllReadyIn.nil
    exact AllReadyIn.nil
   refine AllReadyIn.cons rfl (fun K hK=>?_) ?_
   ·skip
    go_simp
    refine hK _ _ ?_
    clear hK K
    refine wpAnyIn_ready (rs:=[0,2]) (by kernel_rfl) (by simp) ?_
    refine AllReadyIn.cons rfl (fun K hK=>?_) ?_
    ·skip
     go_simp
     refine hK _ _ ?_
     clear hK K
     refine wpAnyIn_ready (rs:=[2]) (by kernel_rfl) (by simp) ?_
     refine AllReadyIn.cons rfl (fun K hK=>?_) ?_
     ·skip
      go_simp
      gi_wp2_with (refine⟨trivial,rfl,?_⟩;gi_at_call 114;refine(CallsIn.inRound l' (callsIn_wide.2 (KF.out _ hbX2.drew))).mono ?_;rintro e w3 ⟨⟨ad3,c3,rfl,hov⟩,hb3⟩;have hbX3:Bwz X w3:=hbX2.drew.trans (hb3.mono hbX2.size);have fL:=cLz hbX3 cL;have lL3:=Nat.lt_of_lt_of_le lL hbX3.size;obtain⟨g4,c4,w4,q1,q2,q3⟩:=HAP.out w3 ad3 c3 hbX3;have hmid:=OI HM.out hbX3 (by unfold hdV;dsimp only;rw[HEN.out];exact q3);unfold hdV at hmid;dsimp only at hmid;rw[HEN.out]at hmid;obtain⟨m4,mf⟩:=hmid)
      try (refine hK _ _ ?_;clear hK K)
      refine wpAnyIn_ready (rs:=[3]) (by kernel_rfl) (by simp) ?_
      refine AllReadyIn.cons rfl (fun K hK=>?_) ?_
      ·skip
       go_simp
       refine hK _ _ ?_
       clear hK K
       refine wpAnyIn_ready (rs:=[4]) (by kernel_rfl) (by simp) ?_
       refine AllReadyIn.cons rfl (fun K hK=>?_) ?_
       ·skip
        refine Dm (.tmp 13) (.tmp 16) 26 rfl rfl rfl rfl q1 ?_
        refine hK _ _ ?_
        clear hK K
        refine wpAnyIn_ready (rs:=[5]) (by kernel_rfl) (by simp) ?_
        refine AllReadyIn.cons rfl (fun K hK=>?_) ?_
        ·skip
         go_simp
         refine hK _ _ ?_
         clear hK K
         refine wpAnyIn_done (by kernel_rfl) ?_ _
         gi_wp2
         have HSN:=IP (e:=⟨ek,et,es1,(ad3,rl,c3),em⟩) (y:=yy) (g:=g4) (c4:=c4) HM.out hbX3 ⟨HER2.out.key,HER2.out.time,HER2.out.seq,HER2.out.met,HRL.out.symm,by unfold hdV;dsimp only;exact Cx hov (by have:=hbX2.size;have:=j4.size;show w.heap.size<=w2.heap.size;omega)⟩ (by omega) (by rw[HEN.out];exact q2) (by unfold hdV;dsimp only;rw[HEN.out];exact q3) V.heap.size
         rw[HEN.out]at HSN
         obtain⟨s1,s2,s3,s4⟩:=HSN
         exact⟨s4,s3,⟨(some ⟨g4,0,none⟩,en+1,c4),_,by rw[HF.out,if_pos (by trivial)];exact s1⟩,HJ.out.trans s3,j4.trans s2⟩
        exact AllReadyIn.nil
       exact AllReadyIn.nil
      exact AllReadyIn.nil
     exact AllReadyIn.nil
    refine AllReadyIn.cons rfl (fun K hK=>?_) ?_
    ·skip
     go_simp
     gi_wp2_with (refine⟨trivial,rfl,?_⟩;gi_at_call 114;refine(CallsIn.inRound l' (callsIn_wide.2 (KF.out _ hbX2.drew))).mono ?_;rintro e w3 ⟨⟨ad3,c3,rfl,hov⟩,hb3⟩;have hbX3:Bwz X w3:=hbX2.drew.trans (hb3.mono hbX2.size);have fL:=cLz hbX3 cL;have lL3:=Nat.lt_of_lt_of_le lL hbX3.size;obtain⟨g4,c4,w4,q1,q2,q3⟩:=HAP.out w3 ad3 c3 hbX3;have hmid:=OI HM.out hbX3 (by unfold hdV;dsimp only;rw[HEN.out];exact q3);unfold hdV at hmid;dsimp only at hmid;rw[HEN.out]at hmid;obtain⟨m4,mf⟩:=hmid)
     try (refine hK _ _ ?_;clear hK K)
     refine wpAnyIn_ready (rs:=[0,3]) (by kernel_rfl) (by simp) ?_
     refine AllReadyIn.cons rfl (fun K hK=>?_) ?_
     ·skip
      go_simp
      refine hK _ _ ?_
      clear hK K
      refine wpAnyIn_ready (rs:=[3]) (by kernel_rfl) (by simp) ?_
      refine AllReadyIn.cons rfl (fun K hK=>?_) ?_
      ·skip
       go_simp
       refine hK _ _ ?_
       clear hK K
       refine wpAnyIn_ready (rs:=[4]) (by kernel_rfl) (by simp) ?_
       refine AllReadyIn.cons rfl (fun K hK=>?_) ?_
       ·skip
        refine Dm (.tmp 13) (.tmp 16) 26 rfl rfl rfl rfl q1 ?_
        refine hK _ _ ?_
        clear hK K
        refine wpAnyIn_ready (rs:=[5]) (by kernel_rfl) (by simp) ?_
        refine AllReadyIn.cons rfl (fun K hK=>?_) ?_
        ·skip
         go_simp
         refine hK _ _ ?_
         clear hK K
         refine wpAnyIn_done (by kernel_rfl) ?_ _
         gi_wp2
         have HSN:=IP (e:=⟨ek,et,es1,(ad3,rl,c3),em⟩) (y:=yy) (g:=g4) (c4:=c4) HM.out hbX3 ⟨HER2.out.key,HER2.out.time,HER2.out.seq,HER2.out.met,HRL.out.symm,by unfold hdV;dsimp only;exact Cx hov (by have:=hbX2.size;have:=j4.size;show w.heap.size<=w2.heap.size;omega)⟩ (by omega) (by rw[HEN.out];exact q2) (by unfold hdV;dsimp only;rw[HEN.out];exact q3) V.heap.size
         rw[HEN.out]at HSN
         obtain⟨s1,s2,s3,s4⟩:=HSN
         exact⟨s4,s3,⟨(some ⟨g4,0,none⟩,en+1,c4),_,by rw[HF.out,if_pos (by trivial)];exact s1⟩,HJ.out.trans s3,j4.trans s2⟩
        exact AllReadyIn.nil
       exact AllReadyIn.nil
      exact AllReadyIn.nil
     refine AllReadyIn.cons rfl (fun K hK=>?_) ?_
     ·skip
      go_simp
      refine hK _ _ ?_
      clear hK K
      refine wpAnyIn_ready (rs:=[0]) (by kernel_rfl) (by simp) ?_
      refine AllReadyIn.cons rfl (fun K hK=>?_) ?_
      ·skip
       go_simp
       refine hK _ _ ?_
       clear hK K
       refine wpAnyIn_ready (rs:=[4]) (by kernel_rfl) (by simp) ?_
       refine AllReadyIn.cons rfl (fun K hK=>?_) ?_
       ·skip
        refine Dm (.tmp 13) (.tmp 16) 26 rfl rfl rfl rfl q1 ?_
        refine hK _ _ ?_
        clear hK K
        refine wpAnyIn_ready (rs:=[5]) (by kernel_rfl) (by simp) ?_
        refine AllReadyIn.cons rfl (fun K hK=>?_) ?_
        ·skip
         go_simp
         refine hK _ _ ?_
         clear hK K
         refine wpAnyIn_done (by kernel_rfl) ?_ _
         gi_wp2
         have HSN:=IP (e:=⟨ek,et,es1,(ad3,rl,c3),em⟩) (y:=yy) (g:=g4) (c4:=c4) HM.out hbX3 ⟨HER2.out.key,HER2.out.time,HER2.out.seq,HER2.out.met,HRL.out.symm,by unfold hdV;dsimp only;exact Cx hov (by have:=hbX2.size;have:=j4.size;show w.heap.size<=w2.heap.size;omega)⟩ (by omega) (by rw[HEN.out];exact q2) (by unfold hdV;dsimp only;rw[HEN.out];exact q3) V.heap.size
         rw[HEN.out]at HSN
         obtain⟨s1,s2,s3,s4⟩:=HSN
         exact⟨s4,s3,⟨(some ⟨g4,0,none⟩,en+1,c4),_,by rw[HF.out,if_pos (by trivial)];exact s1⟩,HJ.out.trans s3,j4.trans s2⟩
        exact AllReadyIn.nil
       exact AllReadyIn.nil
      exact AllReadyIn.nil
     exact AllReadyIn.nil
    exact AllReadyIn.nil
   exact AllReadyIn.nil
 case done=>
  rintro D X hD ⟨⟨⟨v1,v2,v3⟩,es',hm⟩,j2,j4⟩ hK
  rw[lMp,HER.out.1,List.take_length]at hm
  have hel:es'.length<=1000000:=by
   have h1:=hm.oe.len
   have h2:=List.length_filter_le P L
   have h3:=HRO.out.2
   omega
  have cL:X.cell? ⟨w.heap.size+1+1,0,none⟩=some (.slice v1 v2 v3):=hm.c
  have lL:=Ba hm.ty
  have lD:D<X.heap.size:=(Array.getElem?_eq_some_iff.1 hK).1
  have HOE:Hid (OE X w.heap.size (.slice v1 v2 v3) es' (L.filter P)):=hm.oe
  have KS:Hid (Calls Tryz.prog 115 #[.slice v1 v2 v3,.func (.func 116) #[] #[]] X fun e w'=>e= .returned (.tuple #[])/\∃es2 l2,l2.Perm (L.filter P)/\(∀i j,i<j->j<l2.length->¬ltP (l2.getD j default) (l2.getD i default))/\OE w' w.heap.size (.slice v1 v2 v3) es2 l2/\Below w.heap.size X w'/\(∀b,b<X.heap.size->(Value.slice v1 v2 v3).ownBlock≠some b->w'.heap[b]? =X.heap[b]?)):=Nk w.heap.size (.slice v1 v2 v3) es' (L.filter P) X hm.oe hel
  have HNL:Hid ((Value.slice v1 v2 v3).ownBlock≠some (w.heap.size+1+1)):=fun e=>tyAt_apart (A7 hm.oe.own e) hm.ty (by decide) rfl
  have HND:Hid ((Value.slice v1 v2 v3).ownBlock≠some D):=fun e=>by
   obtain⟨cc,ff,k⟩:=A7 hm.oe.own e
   rw[hK]at k;cases k
  clear hm j2
  gi_wp2_with (refine⟨trivial,rfl,?_⟩;gi_at_call 115;refine(callsIn_wide.2 KS.out).mono ?_;rintro e w2 ⟨rfl,es2,l2,hp,hs,hoe,hb,hk⟩;have dL:w2.cell? ⟨w.heap.size+1+1,0,none⟩=some (.slice v1 v2 v3):=(cOb (a:=⟨w.heap.size+1+1,0,none⟩) (hk _ lL HNL.out)).trans cL)
  have hK2:w2.heap[D]? =some (.deferred (some [])):=(hk D lD HND.out).trans hK
  refine⟨by simp,.inl ⟨_,_,rfl,run_takeDeferred hK2,?_⟩⟩
  refine⟨_,results_tmp rfl _ _ _,⟨(v1,v2,v3),es2,l2,rfl,hp,hs,?_⟩,BQ (j4.trans hb) (by omega) hK2 _⟩
  exact hoe.same (by simp) (fun g cur t hg _=>World.putObj_heap_other (fun e=>by rw[e]at hg;rw[hK2]at hg;cases hg))
 case stop=>
  rintro D c X hD h hK
  exact h.elim
end bf
namespace bf
open Go.ChangeShapes Go.WideShapes Go.ChangeAt Go.RowKit
open vl
attribute [local go_sem] Oper.semAt_some
def Kf(l:List Ent):Prop:=∀i j,i<j->j<l.length->¬ltP (l.getD j default) (l.getD i default)
theorem Iw(b:Buf)(x:BX)(w:World)(h:bufAt w b x)(hw:∀y∈Ab b,wfE y/\wfP (AS y))(hs:(Ab b).length<=4611686018427387904)(he:Ez b=0):
 Calls Tryz.prog 26 #[AQ b x] w fun e w'=>(∃(hh:Hdr) (es':List EM) (l':List Ent),e= .returned (.tuple #[hdV hh,.int .i64 0])/\l'.Perm (Ab b)/\Kf l'/\OE w' w.heap.size (hdV hh) es' l')/\Bwz w w':=by
 have KC:Hid (∀w1,Bwz w w1->Calls Tryz.prog 39 #[AQ b x] w1 fun e w'=>e= .returned (.int .i64 0)/\Bwz w1 w'):=fun w1 hb=>by
  have:=Bk b x w1 (Ak h hb) hw hs
  rwa[he]at this
 have hsm:=(E8 he).small
 have hal:=(E8 he).all
 have KS:Hid (∀w1,Bwz w w1->Calls Tryz.prog 58 #[AQ b x,.func (.func 59) #[] #[]] w1 fun e w'=>(∃(hh:Hdr) (es':List EM) (l':List Ent),e= .returned (hdV hh)/\l'.Perm (Ab b)/\Kf l'/\OE w' w1.heap.size (hdV hh) es' l')/\Bwz w1 w'):=fun w1 hb=>by
  have k:=L8 59 (enters_of func59 (by kernel_rfl) rfl) #[] (fun _=>true) b x w1 (Ak h hb) (by omega) hsm.2.2 (fun e y w2 _ _ _=>by rw[Array.append_empty];exact EY e w2)
  rw[List.filter_eq_self.2 (fun _ _=>rfl)]at k
  exact k
 clear h hw hs he hsm hal
 obtain⟨L,hL⟩:=nM (Ab b)
 rw[hL]at KS⊢
 clear hL
 obtain⟨ra,rc,⟨⟨m1,m2,m3⟩,ml⟩,rs⟩:=x
 obtain⟨lim,mem,runs⟩:=b
 rw[show AQ ⟨lim,mem,runs⟩ ⟨ra,rc,((m1,m2,m3),ml),rs⟩= .agg #[.int .i64 lim,.slice m1 m2 m3,.slice ra rs.length rc]from rfl]at KC KS⊢
 obtain⟨n,hn⟩:∃n,rs.length=n:=⟨_,rfl⟩
 rw[hn]at KC KS⊢
 clear hn
 have hb0:Bwz w (w.alloc (.cells #[.int .i64 lim,.slice m1 m2 m3,.slice ra n rc] 29)):=bR.alloc nR _
 go_enter func26,ntmps26
 go_wp2_with (first
  |(go_at_call 39;refine(KC.out _ hb0).mono ?_;rintro e w2 ⟨rfl,hb2⟩;have hbw:Bwz w w2:=hb0.trans (hb2.mono hb0.size);have k0:w2.cell? ⟨w.heap.size,0,none⟩=some (.int .i64 lim):=cLz hb2 (by go_simp);have k1:w2.cell? ⟨w.heap.size,1,none⟩=some (.slice m1 m2 m3):=cLz hb2 (by go_simp);have k2:w2.cell? ⟨w.heap.size,2,none⟩=some (.slice ra n rc):=cLz hb2 (by go_simp))
  |(go_at_call 58;refine(KS.out _ hbw).mono ?_;rintro e w3 ⟨⟨hh,es',l',rfl,hp,hy,hoe⟩,hb3⟩))
 go_ret2
 exact⟨⟨hh,es',l',rfl,hp,hy,hoe.mono hbw.size⟩,hbw.trans (hb3.mono hbw.size)⟩
def GD(k:ByteArray)(a z:Int)(y:Ent):Bool:=decide (y.key=k)&&(decide (a<=y.time)&&decide (y.time<=z))
theorem RS(e:EM)(k:ByteArray)(a z:Int)(B1 B2 B3:Nat)(w:World)(h1:w.cell? ⟨B1,0,none⟩=some (.string k))(h2:w.cell? ⟨B2,0,none⟩=some (.int .i64 a))(h3:w.cell? ⟨B3,0,none⟩=some (.int .i64 z)):
 Calls Tryz.prog 276 #[e.val,.pointer (some ⟨B1,0,none⟩),.pointer (some ⟨B2,0,none⟩),.pointer (some ⟨B3,0,none⟩)] w fun r w'=>r= .returned (.bool (decide (e.key=k)&&(decide (a<=e.time)&&decide (e.time<=z))))/\Bwz w w':=by
 obtain⟨ek,et,es,⟨r1,r2,r3⟩,em⟩:=e
 unfold EM.val hdV
 dsimp only
 have l1:B1<w.heap.size:=bLt _ _ h1
 have l2:B2<w.heap.size:=bLt _ _ h2
 have l3:B3<w.heap.size:=bLt _ _ h3
 obtain⟨R,hR⟩:∃z',(decide (ek=k)&&(decide (a<=et)&&decide (et<=z)))=z':=⟨_,rfl⟩
 rw[hR]
 by_cases c1:ek=k
 ·by_cases c2:a<=et
  ·by_cases c3:et<=z
   ·have HR:Hid (R=true):=by show _=_;rw[<-hR];simp[c1,c2,c3]
    clear hR
    subst c1
    go_enter func276,ntmps276
    go_wp2
    go_ret
    exact⟨Aa HR.out.symm,bR.alloc nR _⟩
   ·have HR:Hid (R=false):=by show _=_;rw[<-hR];simp[c3]
    clear hR
    subst c1
    go_enter func276,ntmps276
    go_wp2
    go_ret
    exact⟨Aa HR.out.symm,bR.alloc nR _⟩
  ·have HR:Hid (R=false):=by show _=_;rw[<-hR];simp[c2]
   clear hR
   subst c1
   go_enter func276,ntmps276
   go_wp2
   go_ret
   exact⟨Aa HR.out.symm,bR.alloc nR _⟩
 ·have HR:Hid (R=false):=by show _=_;rw[<-hR];simp[c1]
  clear hR
  have t1:¬ek.toList=k.toList:=fun e=>c1 (by have:=bytes_beq ek k;rw[e]at this;simpa using this.symm)
  go_enter func276,ntmps276
  go_wp2
  go_ret
  exact⟨Aa HR.out.symm,bR.alloc nR _⟩
theorem Qr(b:Buf)(x:BX)(k:ByteArray)(a z:Int)(w:World)(h:bufAt w b x)(hw:∀y∈Ab b,wfE y/\wfP (AS y))(hs:(Ab b).length<=4611686018427387904)(he:Ez b=0):
 Calls Tryz.prog 273 #[AQ b x,.string k,.int .i64 a,.int .i64 z] w fun e w'=>(∃(hh:Hdr) (es':List EM) (l':List Ent),e= .returned (.tuple #[hdV hh,.int .i64 0])/\l'.Perm ((Ab b).filter (GD k a z))/\Kf l'/\OE w' w.heap.size (hdV hh) es' l')/\Bwz w w':=by
 have KC:Hid (∀w1,Bwz w w1->Calls Tryz.prog 39 #[AQ b x] w1 fun e w'=>e= .returned (.int .i64 0)/\Bwz w1 w'):=fun w1 hb=>by
  have:=Bk b x w1 (Ak h hb) hw hs
  rwa[he]at this
 have hsm:=(E8 he).small
 have hal:=(E8 he).all
 have KS:Hid (∀w1,Bwz w w1->w1.cell? ⟨w.heap.size+1,0,none⟩=some (.string k)->w1.cell? ⟨w.heap.size+1+1,0,none⟩=some (.int .i64 a)->w1.cell? ⟨w.heap.size+1+1+1,0,none⟩=some (.int .i64 z)->Calls Tryz.prog 58 #[AQ b x,.func (.func 276) #[] #[.pointer (some ⟨w.heap.size+1,0,none⟩),.pointer (some ⟨w.heap.size+1+1,0,none⟩),.pointer (some ⟨w.heap.size+1+1+1,0,none⟩)]] w1 fun e w'=>(∃(hh:Hdr) (es':List EM) (l':List Ent),e= .returned (hdV hh)/\l'.Perm ((Ab b).filter (GD k a z))/\Kf l'/\OE w' w1.heap.size (hdV hh) es' l')/\Bwz w1 w'):=fun w1 hb c1 c2 c3=>
  L8 276 (enters_of func276 (by kernel_rfl) rfl) #[.pointer (some ⟨w.heap.size+1,0,none⟩),.pointer (some ⟨w.heap.size+1+1,0,none⟩),.pointer (some ⟨w.heap.size+1+1+1,0,none⟩)] (GD k a z) b x w1 (Ak h hb) (by omega) hsm.2.2 (fun e y w2 her _ hb2=>by
   have:=RS e k a z (w.heap.size+1) (w.heap.size+1+1) (w.heap.size+1+1+1) w2 (cLz hb2 c1) (cLz hb2 c2) (cLz hb2 c3)
   rw[her.key,her.time]at this
   exact this)
 clear h hw hs he hsm hal
 obtain⟨L,hL⟩:∃z',(Ab b).filter (GD k a z)=z':=⟨_,rfl⟩
 rw[hL]at KS⊢
 clear hL
 obtain⟨ra,rc,⟨⟨m1,m2,m3⟩,ml⟩,rs⟩:=x
 obtain⟨lim,mem,runs⟩:=b
 rw[show AQ ⟨lim,mem,runs⟩ ⟨ra,rc,((m1,m2,m3),ml),rs⟩= .agg #[.int .i64 lim,.slice m1 m2 m3,.slice ra rs.length rc]from rfl]at KC KS⊢
 obtain⟨n,hn⟩:∃n,rs.length=n:=⟨_,rfl⟩
 rw[hn]at KC KS⊢
 clear hn
 have hb0:Bwz w ((((w.alloc (.cells #[.int .i64 lim,.slice m1 m2 m3,.slice ra n rc] 29)).alloc (.cells #[.string k] 9)).alloc (.cells #[.int .i64 a] 3)).alloc (.cells #[.int .i64 z] 3)):=by
  repeat (first|exact bR|(refine Below.alloc ?_ (by simp<;>omega) _))
 go_enter func273,ntmps273
 go_wp2_with (first
  |(go_at_call 39;refine(KC.out _ hb0).mono ?_;rintro e w2 ⟨rfl,hb2⟩;have hbw:Bwz w w2:=hb0.trans (hb2.mono hb0.size);have k0:w2.cell? ⟨w.heap.size,0,none⟩=some (.int .i64 lim):=cLz hb2 (by go_simp);have k1:w2.cell? ⟨w.heap.size,1,none⟩=some (.slice m1 m2 m3):=cLz hb2 (by go_simp);have k2:w2.cell? ⟨w.heap.size,2,none⟩=some (.slice ra n rc):=cLz hb2 (by go_simp);have k3:w2.cell? ⟨w.heap.size+1,0,none⟩=some (.string k):=cLz hb2 (by go_simp);have k4:w2.cell? ⟨w.heap.size+1+1,0,none⟩=some (.int .i64 a):=cLz hb2 (by go_simp);have k5:w2.cell? ⟨w.heap.size+1+1+1,0,none⟩=some (.int .i64 z):=cLz hb2 (by go_simp))
  |(go_at_call 58;refine(KS.out _ hbw k3 k4 k5).mono ?_;rintro e w3 ⟨⟨hh,es',l',rfl,hp,hy,hoe⟩,hb3⟩))
 go_ret2
 exact⟨⟨hh,es',l',rfl,hp,hy,hoe.mono hbw.size⟩,hbw.trans (hb3.mono hbw.size)⟩
theorem WH(k:Int)(w:World)(h:Br k 1 64=true):Calls Tryz.prog 28 #[.int .i64 k] w fun e w'=>e= .returned (.tuple #[.agg #[.int .i64 k,.slice none 0 0,.slice none 0 0],.int .i64 0])/\Bwz w w':=by
 have KL:Hid (∀w1,Calls Tryz.prog 65 #[.int .i64 k] w1 fun e w'=>e= .returned (.bool true)/\w'=w1):=fun w1=>by have:=Fx k w1;rwa[h]at this
 clear h
 go_enter func28,ntmps28
 go_wp2_with (go_at_call 65;refine(KL.out _).mono ?_;rintro e w2 ⟨rfl,rfl⟩)
 exact bodyPost_ret (v:=.tuple #[.agg #[.int .i64 k,.slice none 0 0,.slice none 0 0],.int .i64 0]) (by simp[results,results28,go_sem]) rfl ⟨rfl,bR.alloc nR _⟩
end bf
namespace bf
open Go.ChangeShapes Go.WideShapes Go.ChangeAt Go.RowKit
open vl
variable {b : Buf} {W W' w w2 : World} {C NB base : Nat} {x : BX} {es' : List EM} {l' : List Ent}
theorem GE(h:okB b):BU (fun _=>true) b=b:=by
 obtain⟨lim,mem,runs⟩:=b
 have hf:=h.full
 unfold BU CZ
 dsimp only at hf⊢
 have e1:mem.filter (fun _=>true)=mem:=List.filter_eq_self.2 (fun _ _=>rfl)
 have e2:runs.map (·.filter (fun _=>true))=runs:=by
  conv=>rhs;rw[<-List.map_id runs]
  refine List.map_congr_left (fun r _=>?_)
  exact List.filter_eq_self.2 (fun _ _=>rfl)
 rw[e1,e2,List.filter_eq_self.2 (fun r hr=>decide_eq_true (hf r hr))]
theorem OB.run(h:OB w base x b){p:Part}(hp:p∈x.rs):∃i,i<b.runs.length/\x.rs.getD i default=p/\OE w base (hdV p.1) p.2 (b.runs.getD i default):=by
 obtain⟨i,hi,rfl⟩:=List.getElem_of_mem hp
 have e:x.rs.getD i default=x.rs[i]:=by rw[gDe,gEe hi];rfl
 have hi':i<b.runs.length:=by rw[<-h.rlen];exact hi
 have hr:=h.runs i hi'
 rw[e]at hr
 exact⟨i,hi',e,hr⟩
theorem TS{w':World}{h':Hdr}(h:OB w base x b)(ho:OE w' base (hdV h') es' l')(hs:w.heap.size<=w'.heap.size)(hk:∀k,k<w.heap.size->(hdV x.m.1).ownBlock≠some k->w'.heap[k]? =w.heap[k]?)
 (hat:∀g,(hdV h').ownBlock=some g->(hdV x.m.1).ownBlock=some g\/w.heap.size<=g):OB w' base ⟨x.ra,x.rc,(h',es'),x.rs⟩ ⟨b.lim,l',b.runs⟩:=by
 have htwo:=List.pairwise_cons.1 h.two
 refine⟨Nat.le_trans h.low hs,ho,A2 h.hds (fun g hg=>hk g (AG h.hds hg).2 (fun e=>FG h.mem.own h.hds (by decide) e hg)),h.rlen,fun i hi=>?_,?_⟩
 ·have hr:=h.runs i hi
  have hi2:i<x.rs.length:=by rw[h.rlen];exact hi
  have hap:apB (hdV x.m.1) (hdV (x.rs.getD i default).1):=htwo.1 _ (List.mem_map.2 ⟨_,Bb hi2,rfl⟩)
  refine hr.same hs (fun g cur t hg ht=>hk g (Array.getElem?_eq_some_iff.1 hg).1 (fun e=>?_))
  rcases ht with⟨hv,_⟩|ht
  ·exact hap g e hv
  ·subst ht
   exact tyAt_apart (A7 h.mem.own e) ⟨_,_,hg⟩ (by decide) rfl
 ·refine List.pairwise_cons.2 ⟨fun c hc g hg hg2=>?_,htwo.2⟩
  rcases hat g hg with h1|h1
  ·exact htwo.1 c hc g h1 hg2
  ·obtain⟨p,hp,rfl⟩:=List.mem_map.1 hc
   obtain⟨i,hi,_,hr⟩:=h.run hp
   have:=(AG hr.own hg2).2
   omega
theorem Vx{g cap2:Nat}(h:OB w base x b)(hown2:w2.ownsRow base 26 1 (.slice (some ⟨g,0,none⟩) (x.rs.length+1) cap2) (x.rs.length+1) ((x.rs.map fun p=>hdV p.1)++[hdV x.m.1]))(hs:w.heap.size<=w2.heap.size)
 (hch:∀k,An w k 63\/An w k 103->w2.heap[k]? =w.heap[k]?):OB w2 base ⟨some ⟨g,0,none⟩,cap2,((none,0,0),[]),x.rs++[x.m]⟩ ⟨b.lim,[],b.runs++[b.mem]⟩:=by
 have htwo:=List.pairwise_cons.1 h.two
 refine⟨Nat.le_trans h.low hs,De (Nat.le_trans h.low hs),?_,?_,fun i hi=>?_,?_⟩
 ·dsimp only
  rw[lAp,List.map_append]
  exact hown2
 ·dsimp only
  rw[lAp,lAp,h.rlen];rfl
 ·dsimp only at hi⊢
  rw[lAp]at hi
  by_cases hl:i<b.runs.length
  ·rw[AN (by rw[h.rlen];exact hl),AN hl]
   exact(h.runs i hl).other hs hch
  ·have:i=b.runs.length:=by simp at hi;omega
   subst this
   rw[AA (by rw[h.rlen];exact Nat.le_refl _),AA nR,h.rlen,Nat.sub_self]
   exact h.mem.other hs hch
 ·dsimp only
  rw[List.map_cons,List.map_append]
  refine List.pairwise_cons.2 ⟨fun c _ g' hg'=>(by cases hg'),List.pairwise_append.2 ⟨htwo.2,List.pairwise_singleton _ _,fun a ha c hc g' hg' hg2=>?_⟩⟩
  have hc':c=hdV x.m.1:=by simpa using hc
  subst hc'
  exact htwo.1 a ha g' hg2 hg'
structure PSt(W:World)(C NB base:Nat)(x:BX)(b:Buf):Prop where
 k:KSt W C NB base x b
 f1:W.frozen? ⟨NB,1,none⟩=false
theorem PSt.below(h:PSt W C NB base x b)(hb:Bwz W W'):PSt W' C NB base x b:=
 ⟨h.k.below hb,(hb.frozen (p:=⟨NB,1,none⟩) (Ba h.k.ty)).trans h.f1⟩
theorem WI(nb:nbAt w2 C)(h:OB w2 base x b)(hC:base<=C):
 PSt (w2.alloc (.cells #[.int .i64 b.lim,hdV x.m.1,.slice x.ra x.rs.length x.rc] 29)) C w2.heap.size base x b:=by
 have hbA:Bwz w2 (w2.alloc (.cells #[.int .i64 b.lim,hdV x.m.1,.slice x.ra x.rs.length x.rc] 29)):=bR.alloc nR _
 have nb2:=BM hbA nb
 have hlt:=Ba nb.ty
 refine⟨⟨h.below hbA,?_,?_,?_,?_,⟨_,_,World.alloc_heap_new _ _⟩,nb2.n0,nb2.n1,nb2.n2,nb2.o0,nb2.o1,nb2.o2,nb2.ty,hlt,hC⟩,?_⟩
 ·unfold hdV;go_simp
 ·unfold hdV;go_simp
 ·unfold hdV;go_simp
 ·unfold hdV;go_simp
 ·unfold hdV;go_simp
theorem Kg(h:PSt W C NB base x b)(hs:W.heap.size<=W'.heap.size)(hk:∀k,k<W.heap.size->(hdV x.m.1).ownBlock≠some k->W'.heap[k]? =W.heap[k]?):W'.heap[NB]? =W.heap[NB]? /\W'.heap[C]? =W.heap[C]? :=
 ⟨hk NB (Ba h.k.ty) (fun e=>tyAt_apart (A7 h.k.ob.mem.own e) h.k.ty (by decide) rfl),hk C (Ba h.k.rt) (fun e=>tyAt_apart (A7 h.k.ob.mem.own e) h.k.rt (by decide) rfl)⟩
theorem NQ(h:PSt W C NB base x b)(ho:OE W' base (hdV x.m.1) es' l')(hs:W.heap.size<=W'.heap.size)(hk:∀k,k<W.heap.size->(hdV x.m.1).ownBlock≠some k->W'.heap[k]? =W.heap[k]?):
 PSt W' C NB base ⟨x.ra,x.rc,(x.m.1,es'),x.rs⟩ ⟨b.lim,l',b.runs⟩:=by
 obtain⟨eN,eC⟩:=Kg h hs hk
 exact⟨⟨TS h.k.ob ho hs hk (fun g hg=>.inl hg),(cOb (a:=⟨NB,0,none⟩) eN).trans h.k.c0,(cOb (a:=⟨NB,1,none⟩) eN).trans h.k.c1,(cOb (a:=⟨NB,2,none⟩) eN).trans h.k.c2,(A6 (p:=⟨NB,2,none⟩) eN).trans h.k.f2,AD h.k.ty eN,
  (cOb (a:=⟨C,0,none⟩) eC).trans h.k.r0,(cOb (a:=⟨C,1,none⟩) eC).trans h.k.r1,(cOb (a:=⟨C,2,none⟩) eC).trans h.k.r2,(A6 (p:=⟨C,0,none⟩) eC).trans h.k.g0,(A6 (p:=⟨C,1,none⟩) eC).trans h.k.g1,(A6 (p:=⟨C,2,none⟩) eC).trans h.k.g2,AD h.k.rt eC,h.k.ne,h.k.up⟩,(A6 (p:=⟨NB,1,none⟩) eN).trans h.f1⟩
end bf
end Go.Proofs.YtdohnkkbkfhphaaGreat
