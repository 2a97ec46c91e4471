import Derived.Test.YtdohnkkbkfhphaaGreatPc35
set_option linter.all false
set_option maxHeartbeats 8000000
set_option maxRecDepth 100000
namespace Go.Proofs.YtdohnkkbkfhphaaGreat
open Go.Proofs.Tryz
namespace jn
open Go.ChangeShapes Go.WideShapes Go.ChangeAt Go.RowKit Go.Shelf
open vl bf
attribute [local go_sem] Oper.semAt_some
theorem GI(p:pl.Pln)(x:pl.PA)(side:Int)(b:Buf)(y:BX)(w:World)(hw:pl.wfPlan p)(hp:pl.planAt w p x)(h:bufAt w b y)(hwf:∀z∈Ab b,wfE z):
 Calls Tryz.prog 79 #[pl.Ap p x,.int .i64 side,AN b y] w fun e w'=>e= .returned (.bool (F9 p side b))/\Bwz w w':=by
 have HB:Hid (bufAt w b y):=h
 have HER:Hid (ERs w (ems (y.m::y.rs)) (Ab b)):=Dg h
 have HK:Hid (∀(r:List Cel) (n:Nat) (a:Option Addr) (c:Nat) (w1:World),n=r.length->Bwz w w1->vl.rowAt w a r->BE r->r.length<=9223372036854775807->CTz 56 #[pl.Ap p x,.int .i64 side,.slice a n c] w1 fun e w'=>e= .returned (.tuple #[.string (pl.Aq p side r),.bool (pl.hasB p side r),.int .i64 (pl.AB p side r)])/\Bwz w1 w'):=fun r n a c w1 hn hb h1 h2 h3=>by
  subst hn
  exact pl.MG p x side a c r w1 hw (pl.Af hp hb) (vl.Ac h1 hb) h2 h3
 obtain⟨L,hL⟩:=nM (Ab b)
 have HWF:Hid (∀z∈L,wfE z):=by rw[<-hL];exact hwf
 unfold F9
 rw[hL]at HER⊢
 clear hL h hwf hw hp
 obtain⟨R,hR⟩:=nM (L.all (DF p side))
 have HRR:Hid (L.all (DF p side)=R):=hR
 rw[hR]
 clear hR
 obtain⟨ra,rc,⟨⟨m1,m2,m3⟩,ml⟩,rs⟩:=y
 obtain⟨lim,mem,runs⟩:=b
 unfold AN hdV
 unfold pl.Ap at HK⊢
 dsimp only at HER⊢
 obtain⟨n,hn⟩:∃n,rs.length=n:=⟨_,rfl⟩
 have HN:Hid (rs.length=n):=hn
 rw[hn]
 clear hn
 refine(callsIn_wide (n:=0)).1 ?_
 refine callsIn_of_wp_marks func79 rfl trivial ?_ rfl
 simp only[ntmps79,List.size_toArray,List.length_cons,List.length_nil,Nat.reduceAdd,Nat.reduceSub,Array.replicate_succ,Array.replicate_zero,List.push_toArray,List.append_toArray,List.nil_append,List.cons_append]
 gi_wp2_with (refine⟨trivial,rfl,?_⟩;gi_at_call 113;refine(callsIn_wide.2 (Gh _ _ _ rfl rfl rfl _)).mono ?_;rintro e w' ⟨rfl,rfl⟩)
 have V0:Br (((((w.alloc (.cells #[.int .i64 p.kind,.int .i64 p.mode,.int .i64 p.low,.int .i64 p.high,.int .i64 p.size,.int .i64 p.limit,.slice x.l p.left.length x.lc,.slice x.r p.right.length x.rc,.slice x.lk p.lkeys.length x.lkc,.slice x.rk p.rkeys.length x.rkc,.bool p.grouped,.slice x.g p.group.length x.gc,.slice x.a p.aggs.length x.ac] 25)).alloc (.cells #[.int .i64 side] 3)).alloc (.cells #[.int .i64 lim,.slice m1 m2 m3,.slice ra n rc] 29)).alloc (.cells #[.bool false] 4)).alloc (.cells #[.int .i64 lim,.slice m1 m2 m3,.slice ra n rc] 29)) w.heap.size p x:=by
  unfold Br
  refine⟨?_,?_,?_,?_,?_,?_,?_,?_,?_,?_,?_,?_,?_⟩<;>go_simp
 have V2:(((((w.alloc (.cells #[.int .i64 p.kind,.int .i64 p.mode,.int .i64 p.low,.int .i64 p.high,.int .i64 p.size,.int .i64 p.limit,.slice x.l p.left.length x.lc,.slice x.r p.right.length x.rc,.slice x.lk p.lkeys.length x.lkc,.slice x.rk p.rkeys.length x.rkc,.bool p.grouped,.slice x.g p.group.length x.gc,.slice x.a p.aggs.length x.ac] 25)).alloc (.cells #[.int .i64 side] 3)).alloc (.cells #[.int .i64 lim,.slice m1 m2 m3,.slice ra n rc] 29)).alloc (.cells #[.bool false] 4)).alloc (.cells #[.int .i64 lim,.slice m1 m2 m3,.slice ra n rc] 29)).cell? ⟨w.heap.size+1,0,none⟩=some (.int .i64 side):=by go_simp
 have V3:(((((w.alloc (.cells #[.int .i64 p.kind,.int .i64 p.mode,.int .i64 p.low,.int .i64 p.high,.int .i64 p.size,.int .i64 p.limit,.slice x.l p.left.length x.lc,.slice x.r p.right.length x.rc,.slice x.lk p.lkeys.length x.lkc,.slice x.rk p.rkeys.length x.rkc,.bool p.grouped,.slice x.g p.group.length x.gc,.slice x.a p.aggs.length x.ac] 25)).alloc (.cells #[.int .i64 side] 3)).alloc (.cells #[.int .i64 lim,.slice m1 m2 m3,.slice ra n rc] 29)).alloc (.cells #[.bool false] 4)).alloc (.cells #[.int .i64 lim,.slice m1 m2 m3,.slice ra n rc] 29)).cell? ⟨w.heap.size+1+1+1,0,none⟩=some (.bool false):=by go_simp
 have V4:(((((w.alloc (.cells #[.int .i64 p.kind,.int .i64 p.mode,.int .i64 p.low,.int .i64 p.high,.int .i64 p.size,.int .i64 p.limit,.slice x.l p.left.length x.lc,.slice x.r p.right.length x.rc,.slice x.lk p.lkeys.length x.lkc,.slice x.rk p.rkeys.length x.rkc,.bool p.grouped,.slice x.g p.group.length x.gc,.slice x.a p.aggs.length x.ac] 25)).alloc (.cells #[.int .i64 side] 3)).alloc (.cells #[.int .i64 lim,.slice m1 m2 m3,.slice ra n rc] 29)).alloc (.cells #[.bool false] 4)).alloc (.cells #[.int .i64 lim,.slice m1 m2 m3,.slice ra n rc] 29)).frozen? ⟨w.heap.size+1+1+1,0,none⟩=false:=by go_simp
 have V5:(((((w.alloc (.cells #[.int .i64 p.kind,.int .i64 p.mode,.int .i64 p.low,.int .i64 p.high,.int .i64 p.size,.int .i64 p.limit,.slice x.l p.left.length x.lc,.slice x.r p.right.length x.rc,.slice x.lk p.lkeys.length x.lkc,.slice x.rk p.rkeys.length x.rkc,.bool p.grouped,.slice x.g p.group.length x.gc,.slice x.a p.aggs.length x.ac] 25)).alloc (.cells #[.int .i64 side] 3)).alloc (.cells #[.int .i64 lim,.slice m1 m2 m3,.slice ra n rc] 29)).alloc (.cells #[.bool false] 4)).alloc (.cells #[.int .i64 lim,.slice m1 m2 m3,.slice ra n rc] 29)).cell? ⟨w.heap.size+1+1+1+1,0,none⟩=some (.int .i64 lim):=by go_simp
 have V6:(((((w.alloc (.cells #[.int .i64 p.kind,.int .i64 p.mode,.int .i64 p.low,.int .i64 p.high,.int .i64 p.size,.int .i64 p.limit,.slice x.l p.left.length x.lc,.slice x.r p.right.length x.rc,.slice x.lk p.lkeys.length x.lkc,.slice x.rk p.rkeys.length x.rkc,.bool p.grouped,.slice x.g p.group.length x.gc,.slice x.a p.aggs.length x.ac] 25)).alloc (.cells #[.int .i64 side] 3)).alloc (.cells #[.int .i64 lim,.slice m1 m2 m3,.slice ra n rc] 29)).alloc (.cells #[.bool false] 4)).alloc (.cells #[.int .i64 lim,.slice m1 m2 m3,.slice ra n rc] 29)).cell? ⟨w.heap.size+1+1+1+1,1,none⟩=some (.slice m1 m2 m3):=by go_simp
 have V7:(((((w.alloc (.cells #[.int .i64 p.kind,.int .i64 p.mode,.int .i64 p.low,.int .i64 p.high,.int .i64 p.size,.int .i64 p.limit,.slice x.l p.left.length x.lc,.slice x.r p.right.length x.rc,.slice x.lk p.lkeys.length x.lkc,.slice x.rk p.rkeys.length x.rkc,.bool p.grouped,.slice x.g p.group.length x.gc,.slice x.a p.aggs.length x.ac] 25)).alloc (.cells #[.int .i64 side] 3)).alloc (.cells #[.int .i64 lim,.slice m1 m2 m3,.slice ra n rc] 29)).alloc (.cells #[.bool false] 4)).alloc (.cells #[.int .i64 lim,.slice m1 m2 m3,.slice ra n rc] 29)).cell? ⟨w.heap.size+1+1+1+1,2,none⟩=some (.slice ra n rc):=by go_simp
 have V8:Bwz w (((((w.alloc (.cells #[.int .i64 p.kind,.int .i64 p.mode,.int .i64 p.low,.int .i64 p.high,.int .i64 p.size,.int .i64 p.limit,.slice x.l p.left.length x.lc,.slice x.r p.right.length x.rc,.slice x.lk p.lkeys.length x.lkc,.slice x.rk p.rkeys.length x.rkc,.bool p.grouped,.slice x.g p.group.length x.gc,.slice x.a p.aggs.length x.ac] 25)).alloc (.cells #[.int .i64 side] 3)).alloc (.cells #[.int .i64 lim,.slice m1 m2 m3,.slice ra n rc] 29)).alloc (.cells #[.bool false] 4)).alloc (.cells #[.int .i64 lim,.slice m1 m2 m3,.slice ra n rc] 29)):=by
  repeat (first|exact bR|(refine Below.alloc ?_ (by simp<;>omega) _))
 have V9:(((((w.alloc (.cells #[.int .i64 p.kind,.int .i64 p.mode,.int .i64 p.low,.int .i64 p.high,.int .i64 p.size,.int .i64 p.limit,.slice x.l p.left.length x.lc,.slice x.r p.right.length x.rc,.slice x.lk p.lkeys.length x.lkc,.slice x.rk p.rkeys.length x.rkc,.bool p.grouped,.slice x.g p.group.length x.gc,.slice x.a p.aggs.length x.ac] 25)).alloc (.cells #[.int .i64 side] 3)).alloc (.cells #[.int .i64 lim,.slice m1 m2 m3,.slice ra n rc] 29)).alloc (.cells #[.bool false] 4)).alloc (.cells #[.int .i64 lim,.slice m1 m2 m3,.slice ra n rc] 29)).heap.size=w.heap.size+1+1+1+1+1:=by simp
 generalize (((((w.alloc (.cells #[.int .i64 p.kind,.int .i64 p.mode,.int .i64 p.low,.int .i64 p.high,.int .i64 p.size,.int .i64 p.limit,.slice x.l p.left.length x.lc,.slice x.r p.right.length x.rc,.slice x.lk p.lkeys.length x.lkc,.slice x.rk p.rkeys.length x.rkc,.bool p.grouped,.slice x.g p.group.length x.gc,.slice x.a p.aggs.length x.ac] 25)).alloc (.cells #[.int .i64 side] 3)).alloc (.cells #[.int .i64 lim,.slice m1 m2 m3,.slice ra n rc] 29)).alloc (.cells #[.bool false] 4)).alloc (.cells #[.int .i64 lim,.slice m1 m2 m3,.slice ra n rc] 29))=V at *
 have hit:=Fk HB.out V8 (w.heap.size+1+1+1+1) EC V5 V6 (by rw[HN.out];exact V7) Ae (fun _ _=>Ae) (fun _ _ _ _=>trivial) (fun _ _ _ _=>trivial)
 dsimp only at hit
 obtain⟨E,hE⟩:=nM (ems ((((m1,m2,m3):Hdr),ml)::rs))
 rw[hE]at hit HER
 clear hE
 refine C8 (gf:=161) (lb:=#[.pointer (some ⟨w.heap.size+1+1+1+1,0,none⟩)]) rfl (enters_of func161 (by kernel_rfl) rfl) hit bR (fun x hx=>by obtain⟨p,_,rfl⟩:=List.mem_map.1 hx;rfl) (fun h k=>Ao.trans h k) (fun W l o o' _ h ho=>Ao.put W l o o' h ho)
  (fun i X=>(∀j,j<i->DF p side (L.getD j default)=true)/\Ao EC V X/\X.frozen? ⟨w.heap.size+1+1+1,0,none⟩=false/\Bwz w X) (fun c X=>c= .ret/\false=R/\X.cell? ⟨w.heap.size+1+1+1,0,none⟩=some (.bool false)/\Bwz w X)
  (fun i X X' row hs hg hr=>⟨hs.1,hs.2.1.grown hg (fun r e=>(hr r e).2),(frozen_kept (hs.2.1.cell Ae V3) hg (fun r e=>(hr r e).2)).trans hs.2.2.1,Cx hs.2.2.2 nR (by omega) hg hr⟩)
  (fun c X X' row hs hg hr=>⟨hs.1,hs.2.1,cell_kept hs.2.2.1 hg (fun r e=>(hr r e).2),Cx hs.2.2.2 nR (by omega) hg hr⟩)
  ⟨fun j hj=>absurd hj (Nat.not_lt_zero j),Ao.refl _ _,V4,V8⟩
  (fun i a' X=> ∃B,a'={tmps:=#[.agg #[.int .i64 p.kind,.int .i64 p.mode,.int .i64 p.low,.int .i64 p.high,.int .i64 p.size,.int .i64 p.limit,.slice x.l p.left.length x.lc,.slice x.r p.right.length x.rc,.slice x.lk p.lkeys.length x.lkc,.slice x.rk p.rkeys.length x.rkc,.bool p.grouped,.slice x.g p.group.length x.gc,.slice x.a p.aggs.length x.ac],.int .i64 side,.agg #[.int .i64 lim,.slice m1 m2 m3,.slice ra n rc],.pointer (some ⟨w.heap.size,0,none⟩),.pointer (some ⟨w.heap.size+1,0,none⟩),.pointer (some ⟨w.heap.size+1+1,0,none⟩),.pointer (some ⟨w.heap.size+1+1+1,0,none⟩),.pointer (some ⟨B,0,none⟩),undef,undef,undef,.agg #[.int .i64 lim,.slice m1 m2 m3,.slice ra n rc],.func (.func 161) #[] #[.pointer (some ⟨w.heap.size+1+1+1+1,0,none⟩)],(E.getD i default).val,undef,undef,undef,undef,undef,undef,undef,undef,undef,undef,undef,undef,undef,undef,undef,undef,undef,undef,undef,undef,undef],defers:=[]}/\X.cell? ⟨B,0,none⟩=some (.string (E.getD i default).key)/\X.cell? ⟨B,1,none⟩=some (.int .i64 (E.getD i default).time)/\X.cell? ⟨B,2,none⟩=some (.int .i64 (E.getD i default).seq)/\X.cell? ⟨B,3,none⟩=some (hdV (E.getD i default).row)/\X.cell? ⟨B,4,none⟩=some (.bool (E.getD i default).met))
  (fun i a' u X X' row hs hg hr=>by
   obtain⟨B,h1,h2,h3,h4,h5,h6⟩:=hs
   exact⟨B,h1,cell_kept h2 hg (fun r e=>(hr r e).2),cell_kept h3 hg (fun r e=>(hr r e).2),cell_kept h4 hg (fun r e=>(hr r e).2),cell_kept h5 hg (fun r e=>(hr r e).2),cell_kept h6 hg (fun r e=>(hr r e).2)⟩) ?assign ?body ?done ?stop
 case assign=>
  intro l' k z X K hx hi hK
  obtain⟨hk,hxe⟩:=List.getElem?_eq_some_iff.1 hx
  rw[lMp]at hk
  rw[List.getElem_map]at hxe
  subst hxe
  have hd:E.getD k default=E[k]:=by rw[gDe,gEe hk];rfl
  have hK2:=hK
  rw[hd]at hK2
  clear hK hd hx
  obtain⟨⟨ek,et,es,⟨r1,r2,r3⟩,em⟩,hz⟩:∃z,E[k]=z:=⟨_,rfl⟩
  rw[hz]at hK2⊢
  unfold EM.val hdV at hK2⊢
  dsimp only at hK2⊢
  obtain⟨j1,j2,j3,j4⟩:=hi
  gi_wp2
  have lX:w.heap.size+1+1+1<X.heap.size:=bLt _ _ (j2.cell Ae V3)
  exact hK2 _ _ ((KeepsOthers.alloc _ _).from _) (Ao.alloc _ _) ⟨j1,j2.trans (Ao.alloc _ _),by go_simp,j4.alloc j4.size _⟩ ⟨X.heap.size,rfl,by go_simp,by go_simp,by go_simp,by go_simp,by go_simp⟩
 case body=>
  intro l' i z a' X hx hl' hrec hIi hax
  obtain⟨j1,j2,j3,j4⟩:=hIi
  obtain⟨B,hax,b0,b1,b2,b3,b4⟩:=hax
  subst hax
  obtain⟨hi,_⟩:=List.getElem?_eq_some_iff.1 hx
  rw[lMp]at hi
  have hEL:=HER.out.1
  have her:=HER.out.2 i (by omega)
  have HMEM:Hid (L.getD i default∈L):=by show _∈_;rw[gDe,gEe (by omega)];simp
  have KK:Hid (∀w1,Bwz w w1->CTz 56 #[pl.Ap p x,.int .i64 side,hdV (E.getD i default).row] w1 fun e w'=>e= .returned (.tuple #[.string (pl.Aq p side (L.getD i default).row),.bool (pl.hasB p side (L.getD i default).row),.int .i64 (pl.AB p side (L.getD i default).row)])/\Bwz w1 w'):=fun w1 hb=>HK.out (L.getD i default).row _ _ _ w1 her.len hb her.row (HWF.out _ HMEM.out).row (HWF.out _ HMEM.out).len
  have HKY:Hid ((E.getD i default).key=(L.getD i default).key):=her.key
  obtain⟨kb,hkb⟩:=nM (pl.Aq p side (L.getD i default).row)
  obtain⟨hb',hhb⟩:=nM (pl.hasB p side (L.getD i default).row)
  obtain⟨re,hre⟩:=nM (pl.AB p side (L.getD i default).row)
  have HRB:Hid (DF p side (L.getD i default)=(decide (re=0)&&hb'&&decide (kb=(L.getD i default).key))):=by
   show _=_
   unfold DF
   rw[hkb,hhb,hre]
  rw[hkb,hhb,hre]at KK
  clear hkb hhb hre
  obtain⟨⟨ek,et,es,⟨r1,r2,r3⟩,em⟩,hz⟩:∃z,E.getD i default=z:=⟨_,rfl⟩
  rw[hz]at KK b0 b1 b2 b3 b4 HKY⊢
  unfold hdV at KK b3
  dsimp only at KK b0 b1 b2 b3 b4 HKY
  rw[<-HKY.out]at HRB
  have c3:=j2.cell Ae V3
  have c2:=j2.cell Ae V2
  have c0:Br X w.heap.size p x:=by
   obtain⟨v0,v1,v2,v3,v4,v5,v6,v7,v8,v9,v10,v11,v12⟩:=V0
   exact⟨j2.cell Ae v0,j2.cell Ae v1,j2.cell Ae v2,j2.cell Ae v3,j2.cell Ae v4,j2.cell Ae v5,j2.cell Ae v6,j2.cell Ae v7,j2.cell Ae v8,j2.cell Ae v9,j2.cell Ae v10,j2.cell Ae v11,j2.cell Ae v12⟩
  obtain⟨v0,v1,v2,v3,v4,v5,v6,v7,v8,v9,v10,v11,v12⟩:=c0
  have lX:w.heap.size+1+1+1<X.heap.size:=bLt _ _ c3
  have HOUT:Hid (DF p side (L.getD i default)=false->false=R):=fun hb=>by
   rw[<-HRR.out]
   symm
   rw[List.all_eq_false]
   exact⟨_,HMEM.out,by rw[hb];decide⟩
  clear hz her hEL hx HKY
  by_cases h1:re=0
  ·subst h1
   cases hb' with
   |true=>
    by_cases t1:kb.toList=ek.toList
    ·have hY:Hid (DF p side (L.getD i default)=true):=by
      show _=_
      rw[HRB.out]
      have e1:kb=ek:=by have:=bytes_beq kb ek;rw[t1]at this;simpa using this.symm
      simp[e1]
     gi_wp2_with (refine⟨trivial,rfl,?_⟩;gi_at_call 56;refine(CallsIn.inRound l' (callsIn_wide.2 (KK.out _ j4))).mono ?_;rintro e w2 ⟨rfl,hb2⟩;have k0:=cLz hb2 b0)
     exact⟨B8 hb2,bf.BM hb2 nR,fun j hj=>by
      rcases Nat.lt_succ_iff_lt_or_eq.1 hj with h|h
      ·exact j1 j h
      ·rw[h];exact hY.out,j2.trans (bf.BM hb2 nR),by rw[hb2.frozen (p:=⟨w.heap.size+1+1+1,0,none⟩) lX];exact j3,j4.trans (hb2.mono j4.size)⟩
    ·have HE:Hid (false=R):=HOUT.out (by
      rw[HRB.out]
      have e1:kb≠ek:=fun e=>t1 (by rw[e])
      simp[e1])
     have t2:(kb.toList==ek.toList)=false:=by simpa using t1
     have t3:(kb.toList !=ek.toList)=true:=by simpa using t1
     gi_wp2_with (refine⟨trivial,rfl,?_⟩;gi_at_call 56;refine(CallsIn.inRound l' (callsIn_wide.2 (KK.out _ j4))).mono ?_;rintro e w2 ⟨rfl,hb2⟩;have k0:=cLz hb2 b0;have k3:=cLz hb2 c3;have kf:w2.frozen? ⟨w.heap.size+1+1+1,0,none⟩=false:=(by rw[hb2.frozen (p:=⟨w.heap.size+1+1+1,0,none⟩) lX];exact j3))
     exact⟨(B8 hb2).trans ((KeepsOthers.setCell _ _ _).from _),rfl,HE.out,World.cell?_setCell_same _ _ _ k3,(j4.trans (hb2.mono j4.size)).setCell (by dsimp only;omega) _⟩
   |false=>
    have HE:Hid (false=R):=HOUT.out (by rw[HRB.out];simp)
    gi_wp2_with (refine⟨trivial,rfl,?_⟩;gi_at_call 56;refine(CallsIn.inRound l' (callsIn_wide.2 (KK.out _ j4))).mono ?_;rintro e w2 ⟨rfl,hb2⟩;have k0:=cLz hb2 b0;have k3:=cLz hb2 c3;have kf:w2.frozen? ⟨w.heap.size+1+1+1,0,none⟩=false:=(by rw[hb2.frozen (p:=⟨w.heap.size+1+1+1,0,none⟩) lX];exact j3))
    exact⟨(B8 hb2).trans ((KeepsOthers.setCell _ _ _).from _),rfl,HE.out,World.cell?_setCell_same _ _ _ k3,(j4.trans (hb2.mono j4.size)).setCell (by dsimp only;omega) _⟩
  ·have HE:Hid (false=R):=HOUT.out (by rw[HRB.out];simp[h1])
   have h2:(re !=0)=true:=by simpa using h1
   gi_wp2_with (refine⟨trivial,rfl,?_⟩;gi_at_call 56;refine(CallsIn.inRound l' (callsIn_wide.2 (KK.out _ j4))).mono ?_;rintro e w2 ⟨rfl,hb2⟩;have k0:=cLz hb2 b0;have k3:=cLz hb2 c3;have kf:w2.frozen? ⟨w.heap.size+1+1+1,0,none⟩=false:=(by rw[hb2.frozen (p:=⟨w.heap.size+1+1+1,0,none⟩) lX];exact j3))
   exact⟨(B8 hb2).trans ((KeepsOthers.setCell _ _ _).from _),rfl,HE.out,World.cell?_setCell_same _ _ _ k3,(j4.trans (hb2.mono j4.size)).setCell (by dsimp only;omega) _⟩
 case done=>
  rintro D X hD ⟨j1,j2,j3,j4⟩ hK
  have c3:=j2.cell Ae V3
  have HE:Hid (true=R):=by
   show _=_
   rw[<-HRR.out]
   symm
   rw[lMp]at j1
   refine List.all_eq_true.2 (fun z hz=>?_)
   obtain⟨j,hj,rfl⟩:=List.getElem_of_mem hz
   have:=j1 j (by rw[HER.out.1];exact hj)
   rw[gDe,gEe hj]at this
   exact this
  gi_wp2
  have hK2:(X.setCell ⟨w.heap.size+1+1+1,0,none⟩ (.bool true)).heap[D]? =some (.deferred (some [])):=(heap_setCell_other _ _ _ _ (by dsimp only;omega)).trans hK
  refine⟨by simp,.inl ⟨_,_,rfl,run_takeDeferred hK2,?_⟩⟩
  have y3:=Cj (World.cell?_setCell_same _ _ (.bool true) c3) hK2 rfl (.deferred none)
  exact⟨.bool true,(by simp[results,results79,go_sem,y3]),Aa HE.out,Ci (j4.setCell (by dsimp only;omega) _) (by omega) hK2 _⟩
 case stop=>
  rintro D c X hD ⟨rfl,hE,c3,j4⟩ hK
  gi_wp2
  refine⟨by simp,.inl ⟨_,_,rfl,run_takeDeferred hK,?_⟩⟩
  have y3:=Cj c3 hK rfl (.deferred none)
  exact⟨.bool false,(by simp[results,results79,go_sem,y3]),Aa hE,Ci j4 (by omega) hK _⟩
end jn
namespace jn
open Go.ChangeShapes Go.WideShapes Go.ChangeAt Go.RowKit
open vl
attribute [local go_sem] Oper.semAt_some
theorem Eb(s:Jn)(y:JX)(w:World):Calls Tryz.prog 40 #[joinV s y] w fun e w'=>e= .returned (.bool (De s))/\Bwz w w':=by
 have K1:Hid (∀w1,CTz 77 #[.int .i64 s.lm] w1 fun e w'=>e= .returned (.bool (CH s.lm))/\Bwz w1 w'):=fun w1=>GE _ w1
 have K2:Hid (∀w1,CTz 77 #[.int .i64 s.rm] w1 fun e w'=>e= .returned (.bool (CH s.rm))/\Bwz w1 w'):=fun w1=>GE _ w1
 obtain⟨R,hR⟩:=nM (De s)
 have HR:Hid (De s=R):=hR
 rw[hR]
 clear hR
 unfold De at HR
 obtain⟨M1,h1⟩:=nM (CH s.lm)
 obtain⟨M2,h2⟩:=nM (CH s.rm)
 rw[h1]at K1 HR
 rw[h2]at K2 HR
 clear h1 h2
 rw[A6]
 obtain⟨⟨lra,lrc,⟨⟨a1,a2,a3⟩,al⟩,lrs⟩,⟨rra,rrc,⟨⟨b1,b2,b3⟩,bl⟩,rrs⟩⟩:=y
 obtain⟨⟨l0,lmem,lruns⟩,⟨r0,rmem,rruns⟩,lm,rm,sq⟩:=s
 dsimp only at *
 obtain⟨ln,hln⟩:∃n,lrs.length=n:=⟨_,rfl⟩
 obtain⟨rn,hrn⟩:∃n,rrs.length=n:=⟨_,rfl⟩
 rw[hln,hrn]
 clear hln hrn
 go_enter func40,ntmps40
 go_wp2_with fail
 generalize hV:(World.alloc w _)=V
 have hb0:Bwz w V:=by rw[<-hV];exact bR.alloc nR _
 have c7:V.cell? ⟨w.heap.size,7,none⟩=some (.int .i64 rm):=by subst hV;go_simp
 have c8:V.cell? ⟨w.heap.size,8,none⟩=some (.int .i64 sq):=by subst hV;go_simp
 clear hV
 refine(K1.out _).mono ?_
 rintro e w1 ⟨rfl,hb1⟩
 have hbw:Bwz w w1:=hb0.trans (hb1.mono hb0.size)
 have d7:=cLz hb1 c7
 have d8:=cLz hb1 c8
 clear c7 c8 hb1 hb0 K1
 cases M1 with
 |false=>
  have HE:Hid (false=R):=by show _=_;rw[<-HR.out];rfl
  go_wp2
  go_ret
  exact⟨Aa HE.out,hbw⟩
 |true=>
  go_wp2_with fail
  refine(K2.out _).mono ?_
  rintro e w2 ⟨rfl,hb2⟩
  have hbw2:Bwz w w2:=hbw.trans (hb2.mono hbw.size)
  have e8:=cLz hb2 d8
  clear d7 d8 hb2 hbw K2
  cases M2 with
  |false=>
   have HE:Hid (false=R):=by show _=_;rw[<-HR.out];rfl
   go_wp2
   go_ret
   exact⟨Aa HE.out,hbw2⟩
  |true=>
   have HE:Hid (R=bf.Az sq 0 1099511627776):=by show _=_;rw[<-HR.out];rfl
   by_cases h1:0<=sq
   ·by_cases h2:sq<=1099511627776
    ·have HT:Hid (true=R):=by show _=_;rw[HE.out];exact((bf.AJ _ _ _).2 ⟨h1,h2⟩).symm
     go_wp2
     go_ret
     exact⟨Aa HT.out,hbw2⟩
    ·have HT:Hid (false=R):=by show _=_;rw[HE.out];exact((bf.BZ _ _ _).2 (fun k=>h2 k.2)).symm
     go_wp2
     go_ret
     exact⟨Aa (by rw[decide_eq_false (by omega)];exact HT.out),hbw2⟩
   ·have HT:Hid (false=R):=by show _=_;rw[HE.out];exact((bf.BZ _ _ _).2 (fun k=>h1 k.1)).symm
    go_wp2
    go_ret
    exact⟨Aa HT.out,hbw2⟩
theorem CW(p:pl.Pln)(x:pl.PA)(s:Jn)(y:JX)(w:World)(hw:pl.wfPlan p)(hp:pl.planAt w p x)(h:joinAt w s y)(hwf:wfJ s)(hl:(bf.Ab s.L).length<=100000)(hr:(bf.Ab s.R).length<=100000):
 Calls Tryz.prog 41 #[pl.Ap p x,joinV s y] w fun e w'=>e= .returned (.bool (Bx p s))/\Bwz w w':=by
 have KS:Hid (∀w1,Bwz w w1->CTz 78 #[joinV s y] w1 fun e w'=>e= .returned (.bool (GJ s))/\Bwz w1 w'):=fun w1 hb=>LM s y w1 (h.below hb) (fun z hz=>(by
  rcases List.mem_append.1 hz with k|k
  ·exact(hwf.l.ents z k).2.seq
  ·exact(hwf.r.ents z k).2.seq)) hl hr
 have KL:=hIz (fun(w1:World) (hb:Bwz w w1)=>GI p x 1 s.L y.l w1 hw (pl.Af hp hb) (bf.Ai h.l hb) (fun z hz=>(hwf.l.ents z hz).1))
 have KR:=hIz (fun(w1:World) (hb:Bwz w w1)=>GI p x 2 s.R y.r w1 hw (pl.Af hp hb) (bf.Ai h.r hb) (fun z hz=>(hwf.r.ents z hz).1))
 obtain⟨R,hR⟩:=nM (Bx p s)
 have HR:Hid (Bx p s=R):=hR
 rw[hR]
 clear hR hw hp h hwf hl hr
 unfold Bx at HR
 obtain⟨S,h1⟩:=nM (GJ s)
 obtain⟨B1,h2⟩:=nM (F9 p 1 s.L)
 obtain⟨B2,h3⟩:=nM (F9 p 2 s.R)
 rw[h1]at KS HR
 rw[h2]at KL HR
 rw[h3]at KR HR
 clear h1 h2 h3
 unfold pl.Ap at KL KR⊢
 rw[A6]at KS⊢
 unfold bf.AN bf.hdV at KL KR
 go_enter func41,ntmps41
 by_cases e1:s.L.lim=p.limit
 rotate_left
 ·have e1':(s.L.lim==p.limit)=false:=by simpa using e1
  have HE:Hid (false=R):=by show _=_;rw[<-HR.out,decide_eq_false e1];rfl
  go_wp2
  go_ret
  exact⟨Aa HE.out,(bR.alloc nR _).alloc (by simp) _⟩
 have e1':(s.L.lim==p.limit)=true:=by simpa using e1
 by_cases e2:s.R.lim=p.limit
 rotate_left
 ·have e2':(s.R.lim==p.limit)=false:=by simpa using e2
  have HE:Hid (false=R):=by show _=_;rw[<-HR.out,decide_eq_false e2,decide_eq_true e1];rfl
  go_wp2
  go_ret
  exact⟨Aa HE.out,(bR.alloc nR _).alloc (by simp) _⟩
 have e2':(s.R.lim==p.limit)=true:=by simpa using e2
 rw[decide_eq_true e1,decide_eq_true e2]at HR
 clear e1 e2
 go_wp2_with fail
 generalize hV:(World.alloc (World.alloc w _) _)=V
 have hb0:Bwz w V:=by rw[<-hV];exact(bR.alloc nR _).alloc (by simp) _
 have HP:Hid (Br V w.heap.size p x):=by
  subst hV
  exact Aj (CM ..) (bR.alloc nR _)
 have HJ:Hid (AU V (w.heap.size+1) s y):=by
  subst hV
  have:=Bo (w.alloc (.cells #[.int .i64 p.kind,.int .i64 p.mode,.int .i64 p.low,.int .i64 p.high,.int .i64 p.size,.int .i64 p.limit,.slice x.l p.left.length x.lc,.slice x.r p.right.length x.rc,.slice x.lk p.lkeys.length x.lkc,.slice x.rk p.rkeys.length x.rkc,.bool p.grouped,.slice x.g p.group.length x.gc,.slice x.a p.aggs.length x.ac] 25)) s y 31
  rw[World.size_alloc]at this
  exact this
 clear hV
 refine(KS.out _ hb0).mono ?_
 rintro e w1 ⟨rfl,hb1⟩
 have hbw:Bwz w w1:=hb0.trans (hb1.mono hb0.size)
 replace HP:Hid (Br w1 w.heap.size p x):=Aj HP.out hb1
 replace HJ:Hid (AU w1 (w.heap.size+1) s y):=Ag HJ.out hb1
 clear hb1 hb0 KS
 cases S with
 |false=>
  have HE:Hid (false=R):=by show _=_;rw[<-HR.out];rfl
  go_wp2
  go_ret
  exact⟨Aa HE.out,hbw⟩
 |true=>
  obtain⟨v0,v1,v2,v3,v4,v5,v6,v7,v8,v9,v10,v11,v12⟩:=HP.out
  obtain⟨u0,u1,u2,u3,u4,u5,u6,u7,u8⟩:=HJ.out
  go_wp2_with fail
  refine(KL.out _ hbw).mono ?_
  rintro e w2 ⟨rfl,hb2⟩
  replace hbw:Bwz w w2:=hbw.trans (hb2.mono hbw.size)
  replace HP:Hid (Br w2 w.heap.size p x):=Aj HP.out hb2
  replace HJ:Hid (AU w2 (w.heap.size+1) s y):=Ag HJ.out hb2
  clear v0 v1 v2 v3 v4 v5 v6 v7 v8 v9 v10 v11 v12 u0 u1 u2 u3 u4 u5 u6 u7 u8 hb2 KL
  cases B1 with
  |false=>
   have HE:Hid (false=R):=by show _=_;rw[<-HR.out];rfl
   go_wp2
   go_ret
   exact⟨Aa HE.out,hbw⟩
  |true=>
   obtain⟨v0,v1,v2,v3,v4,v5,v6,v7,v8,v9,v10,v11,v12⟩:=HP.out
   obtain⟨u0,u1,u2,u3,u4,u5,u6,u7,u8⟩:=HJ.out
   go_wp2_with fail
   refine(KR.out _ hbw).mono ?_
   rintro e w3 ⟨rfl,hb3⟩
   replace hbw:Bwz w w3:=hbw.trans (hb3.mono hbw.size)
   have HE:Hid (B2=R):=by show _=_;rw[<-HR.out];rfl
   clear v0 v1 v2 v3 v4 v5 v6 v7 v8 v9 v10 v11 v12 u0 u1 u2 u3 u4 u5 u6 u7 u8 hb3 KR
   go_wp2
   go_ret
   exact⟨Aa HE.out,hbw⟩
theorem Bn(p:pl.Pln)(x:pl.PA)(s:Jn)(y:JX)(w:World)(hw:pl.wfPlan p)(hp:pl.planAt w p x)(h:joinAt w s y)(hwf:wfJ s):
 Calls Tryz.prog 14 #[pl.Ap p x,joinV s y] w fun e w'=>e= .returned (.int .i64 (BB p s))/\Bwz w w':=by
 have KP:=hIz (fun(w1:World) (hb:Bwz w w1)=>pl.DV p x w1 hw (pl.Af hp hb))
 have KL:=hIz (fun(w1:World) (hb:Bwz w w1)=>bf.Bn s.L y.l w1 (bf.Ai h.l hb) hwf.l.ents hwf.l.size)
 have KR:=hIz (fun(w1:World) (hb:Bwz w w1)=>bf.Bn s.R y.r w1 (bf.Ai h.r hb) hwf.r.ents hwf.r.size)
 have KG:=hIz (fun(w1:World)=>Eb s y w1)
 have KF:Hid (bf.C4 s.L=0->bf.C4 s.R=0->∀w1,Bwz w w1->CTz 41 #[pl.Ap p x,joinV s y] w1 fun e w'=>e= .returned (.bool (Bx p s))/\Bwz w1 w'):=fun h1 h2 w1 hb=>CW p x s y w1 hw (pl.Af hp hb) (h.below hb) hwf (by have:=(bf.Df h1).all;omega) (by have:=(bf.Df h2).all;omega)
 obtain⟨R,hR⟩:=nM (BB p s)
 have HR:Hid (BB p s=R):=hR
 rw[hR]
 clear hR hw hp h hwf
 unfold BB at HR
 obtain⟨E1,h1⟩:=nM (pl.Al p)
 obtain⟨E2,h2⟩:=nM (bf.C4 s.L)
 obtain⟨E3,h3⟩:=nM (bf.C4 s.R)
 obtain⟨G,h4⟩:=nM (De s)
 obtain⟨F,h5⟩:=nM (Bx p s)
 rw[h1]at KP HR
 rw[h2]at KL KF HR
 rw[h3]at KR KF HR
 rw[h4]at KG HR
 rw[h5]at KF HR
 clear h1 h2 h3 h4 h5
 unfold pl.Ap at KP KF⊢
 rw[A6]at KG KF⊢
 unfold bf.AN bf.hdV at KL KR
 go_enter func14,ntmps14
 go_wp2_with fail
 generalize hV:(World.alloc (World.alloc w _) _)=V
 have hb0:Bwz w V:=by rw[<-hV];exact(bR.alloc nR _).alloc (by simp) _
 have HP:Hid (Br V w.heap.size p x):=by
  subst hV
  exact Aj (CM ..) (bR.alloc nR _)
 have HJ:Hid (AU V (w.heap.size+1) s y):=by
  subst hV
  have:=Bo (w.alloc (.cells #[.int .i64 p.kind,.int .i64 p.mode,.int .i64 p.low,.int .i64 p.high,.int .i64 p.size,.int .i64 p.limit,.slice x.l p.left.length x.lc,.slice x.r p.right.length x.rc,.slice x.lk p.lkeys.length x.lkc,.slice x.rk p.rkeys.length x.rkc,.bool p.grouped,.slice x.g p.group.length x.gc,.slice x.a p.aggs.length x.ac] 25)) s y 31
  rw[World.size_alloc]at this
  exact this
 clear hV
 refine(KP.out _ hb0).mono ?_
 rintro e w1 ⟨rfl,hb1⟩
 have hbw:Bwz w w1:=hb0.trans (hb1.mono hb0.size)
 replace HP:Hid (Br w1 w.heap.size p x):=Aj HP.out hb1
 replace HJ:Hid (AU w1 (w.heap.size+1) s y):=Ag HJ.out hb1
 clear hb1 hb0 KP
 by_cases k1:E1=0
 rotate_left
 ·have k1':(E1 !=0)=true:=by simpa using k1
  have HE:Hid (E1=R):=by show _=_;rw[<-HR.out,if_pos k1]
  go_wp2
  go_ret
  exact⟨Ad HE.out,hbw⟩
 subst k1
 rw[if_neg (by decide)]at HR
 obtain⟨u0,u1,u2,u3,u4,u5,u6,u7,u8⟩:=HJ.out
 go_wp2_with fail
 refine(KL.out _ hbw).mono ?_
 rintro e w2 ⟨rfl,hb2⟩
 replace hbw:Bwz w w2:=hbw.trans (hb2.mono hbw.size)
 replace HP:Hid (Br w2 w.heap.size p x):=Aj HP.out hb2
 replace HJ:Hid (AU w2 (w.heap.size+1) s y):=Ag HJ.out hb2
 clear u0 u1 u2 u3 u4 u5 u6 u7 u8 hb2 KL
 by_cases k2:E2=0
 rotate_left
 ·have k2':(E2 !=0)=true:=by simpa using k2
  have HE:Hid (E2=R):=by show _=_;rw[<-HR.out,if_pos k2]
  go_wp2
  go_ret
  exact⟨Ad HE.out,hbw⟩
 subst k2
 rw[if_neg (by decide)]at HR
 obtain⟨u0,u1,u2,u3,u4,u5,u6,u7,u8⟩:=HJ.out
 go_wp2_with fail
 refine(KR.out _ hbw).mono ?_
 rintro e w3 ⟨rfl,hb3⟩
 replace hbw:Bwz w w3:=hbw.trans (hb3.mono hbw.size)
 replace HP:Hid (Br w3 w.heap.size p x):=Aj HP.out hb3
 replace HJ:Hid (AU w3 (w.heap.size+1) s y):=Ag HJ.out hb3
 clear u0 u1 u2 u3 u4 u5 u6 u7 u8 hb3 KR
 by_cases k3:E3=0
 rotate_left
 ·have k3':(E3 !=0)=true:=by simpa using k3
  have HE:Hid (E3=R):=by show _=_;rw[<-HR.out,if_pos k3]
  go_wp2
  go_ret
  exact⟨Ad HE.out,hbw⟩
 subst k3
 rw[if_neg (by decide)]at HR
 obtain⟨u0,u1,u2,u3,u4,u5,u6,u7,u8⟩:=HJ.out
 go_wp2_with fail
 refine(KG.out _).mono ?_
 rintro e w4 ⟨rfl,hb4⟩
 replace hbw:Bwz w w4:=hbw.trans (hb4.mono hbw.size)
 replace HP:Hid (Br w4 w.heap.size p x):=Aj HP.out hb4
 replace HJ:Hid (AU w4 (w.heap.size+1) s y):=Ag HJ.out hb4
 clear u0 u1 u2 u3 u4 u5 u6 u7 u8 hb4 KG
 cases G with
 |false=>
  have HE:Hid ((3:Int)=R):=by show _=_;rw[<-HR.out,if_pos rfl]
  go_wp2
  go_ret
  exact⟨Ad HE.out,hbw⟩
 |true=>
  rw[if_neg (by decide)]at HR
  obtain⟨v0,v1,v2,v3,v4,v5,v6,v7,v8,v9,v10,v11,v12⟩:=HP.out
  obtain⟨u0,u1,u2,u3,u4,u5,u6,u7,u8⟩:=HJ.out
  go_wp2_with fail
  refine(KF.out (by trivial) (by trivial) _ hbw).mono ?_
  rintro e w5 ⟨rfl,hb5⟩
  replace hbw:Bwz w w5:=hbw.trans (hb5.mono hbw.size)
  clear v0 v1 v2 v3 v4 v5 v6 v7 v8 v9 v10 v11 v12 u0 u1 u2 u3 u4 u5 u6 u7 u8 hb5 KF
  cases F with
  |false=>
   have HE:Hid ((1:Int)=R):=by show _=_;rw[<-HR.out,if_pos rfl]
   go_wp2
   go_ret
   exact⟨Ad HE.out,hbw⟩
  |true=>
   have HE:Hid ((0:Int)=R):=by show _=_;rw[<-HR.out,if_neg (by decide)]
   go_wp2
   go_ret
   exact⟨Ad HE.out,hbw⟩
end jn
end Go.Proofs.YtdohnkkbkfhphaaGreat
