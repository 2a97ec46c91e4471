import Derived.Test.YtfkihidbnfkbaaaGreatDoorPv13
set_option linter.all false
set_option maxHeartbeats 8000000
set_option maxRecDepth 100000
open Go.ChangeShapes Go.WideShapes Go.ChangeAt Go.RowKit Go.Shelf Go.Maps List
open Inhabited renaming default->ϰ
namespace Go.Proofs.YtfkihidbnfkbaaaGreatDoor
open Go.Proofs.Tryz
namespace jn
open vl bf
attribute [local go_sem] Oper.semAt_some
variable {l : List Ent} {t : Nat} {n : Int}
def Il(n:Int)(l:List Ent)(t:Nat):Prop:=Fy n (l.take t)
def sqT(l:List Ent)(t:Nat):List Int:=(l.take t).map (·.seq)
theorem Kh(h:t<l.length):sqT l (t+1)=sqT l t++[(l.getD t ϰ).seq]:=by
 unfold sqT;rw[take_succ_eq_append_getElem h,map_append,gDe,gEe h];rfl
theorem W9(l:List Ent)(t:Nat):(sqT l t).length<=l.length:=by unfold sqT;rw[lMp,length_take];omega
theorem Sq(h:t<l.length)(h1:Il n l t)(f:(l.getD t ϰ).seq<n)(g:(sqT l t).count (l.getD t ϰ).seq=0):Il n l (t+1):=by
 obtain⟨i,j⟩:=h1;have e:l.take (t+1)=l.take t++[l.getD t ϰ]:=by rw[take_succ_eq_append_getElem h,gDe,gEe h];rfl
 unfold Il Fy;rw[e];refine⟨λy hy=>?_,?_⟩
 ·rcases mem_append.1 hy with hy|hy
  ·exact i y hy
  ·rw[mem_singleton.1 hy];exact f
 ·rw[map_append];refine nodup_append.2 ⟨j,Ϧ,λa ha b c=>?_⟩;have c:b=(l.getD t ϰ).seq:=by simpa using c
  subst c;intro d;subst d;exact absurd g (by have:=count_pos_iff.2 ha;unfold sqT;omega)
theorem Sr(h:t<l.length)(a:¬(l.getD t ϰ).seq<n):decide (Fy n l)=false:=by
 refine decide_eq_false λk=>a (k.1 _ ?_);rw[gDe,gEe h];simp
theorem PD(h:t<l.length)(c:(sqT l t).count (l.getD t ϰ).seq≠0):decide (Fy n l)=false:=by
 refine decide_eq_false λk=>?_;have a:=k.2;have e:l.map (·.seq)=sqT l (t+1)++(l.drop (t+1)).map (·.seq):=by unfold sqT;rw[<-map_append,take_append_drop]
 rw[e,Kh h]at a;have b:(l.getD t ϰ).seq∈sqT l t:=count_pos_iff.1 Ϥ;exact(nodup_append.1 (nodup_append.1 a).1).2.2 _ b _ (mem_singleton.2 rfl) rfl
theorem AcK(h:Il n l l.length):decide (Fy n l)=true:=by
 unfold Il at h;rw[take_length]at h;exact decide_eq_true h
theorem OY(s:Jn)(y:JX)(w:Ϡ)(h:joinAt w s y)(hw:∀z∈Ab s.L++Ab s.R,pl.i64 z.seq)(hl:(Ab s.L).length<=100000)(b:(Ab s.R).length<=100000):
 χ 170 #[joinV s y] w (ψ w (.bool (J4 s))):=by
 have b0:Ϣ (bufAt w s.L y.l):=h.l;have b4:Ϣ (bufAt w s.R y.r):=h.r;have az:=E7 h.l;have a0:=E7 h.r;unfold J4;obtain⟨L,hL⟩:=nM (Ab s.L++Ab s.R);obtain⟨m,a7⟩:=nM ((Ab s.L).length);have HW:Ϣ (∀t,t<L.length->pl.i64 (L.getD t ϰ).seq):=λt ht=>by
  rw[hL]at hw;exact hw _ (by rw[gDe,gEe ht];simp)
 have ak:Ϣ (L.length<=200000):=by
  show _<=_;rw[<-hL,lAp];omega
 have b5:Ϣ (L.length=m+(Ab s.R).length):=by show _=_;rw[<-hL,lAp,a7]
 have bn:Ϣ (∀i,i<(ems (y.l.m::y.l.rs)).length->0+i<L.length/\((ems (y.l.m::y.l.rs)).getD i ϰ).seq=(L.getD (0+i) ϰ).seq):=λi Z=>by
  have a5:i<(Ab s.L).length:=by rw[<-az.1];exact Z
  refine⟨by rw[<-hL,lAp];omega,?_⟩;rw[(az.2 i a5).seq,<-hL,Nat.zero_add,AQ a5]
 have bo:Ϣ (∀i,i<(ems (y.r.m::y.r.rs)).length->m+i<L.length/\((ems (y.r.m::y.r.rs)).getD i ϰ).seq=(L.getD (m+i) ϰ).seq):=λi Z=>by
  have a5:i<(Ab s.R).length:=by rw[<-a0.1];exact Z
  refine⟨by rw[<-hL,lAp];omega,?_⟩;rw[(a0.2 i a5).seq,<-hL,AW Ϥ,a7,Nat.add_sub_cancel_left]
 have bp:Ϣ ((ems (y.l.m::y.l.rs)).length=m):=by show _=_;rw[az.1,a7]
 have bq:Ϣ ((ems (y.r.m::y.r.rs)).length=(Ab s.R).length):=a0.1;rw[hL];obtain⟨R,hR⟩:=nM (decide (Fy s.seq L));have ao:=hV0 hR;rw[hR];clear hR hL hw hl b h az a0 a7;obtain⟨⟨ac,ad,⟨⟨S,T,U⟩,al⟩,bv⟩,⟨aa,ab,⟨⟨M,N,O⟩,bl⟩,bw⟩⟩:=y;obtain⟨⟨l0,cs,ct⟩,⟨r0,cu,cv⟩,lm,rm,G⟩:=s;rw[AY];dsimp only at *;obtain⟨ln,bg⟩:∃n,bv.length=n:=⟨_,rfl⟩;have b6:=hV0 bg;obtain⟨rn,bh⟩:∃n,bw.length=n:=⟨_,rfl⟩;have b7:=hV0 bh;rw[bg,bh];clear bg bh;have cf:=@run_makeMap Tryz.prog;refine(callsIn_wide (n:=0)).1 ?_;refine callsIn_of_wp_marks func170 rfl trivial ?_ rfl;simp only[ntmps170,size_toArray,length_cons,length_nil,Nat.reduceAdd,Nat.reduceSub,Array.replicate_succ,Array.replicate_zero,push_toArray,append_toArray,nil_append,cons_append]
 gi_wp2
 refine wpIn_loop_rounds 3 ?_;rw[roundsIn_succ]
 gi_wp2_with (refine⟨trivial,rfl,?_⟩;gi_at_call 237;refine(callsIn_wide.2 (Jp _ _ _ rfl rfl rfl _)).mono ?_;rintro e w' ⟨rfl,rfl⟩)
 generalize P:(((((((w.alloc (.cells #[vI l0,vS S T U,vS ac ln ad,vI r0,vS M N O,vS aa rn ab,vI lm,vI rm,vI G] 38)).alloc (.cells #[ϑ] 4)).alloc (.map #[] 0)).alloc (.cells #[.map (some (w.heap.size+1+1))] 298)).alloc (.cells #[vI l0,vS S T U,vS ac ln ad,vI r0,vS M N O,vS aa rn ab] 36)).alloc (.cells (τ l0 S T U ac ln ad) 36)).alloc (.cells (τ l0 S T U ac ln ad) 36))=D at *;have a8:Δ D (w+1+1+1) 0 (.map (some (w.heap.size+1+1))):=by subst P;go_simp
 have G2:EJ D (w.heap.size+1+1) 0 []:=by
  subst P;have h:=Ty (ϊ (ϊ w #[vI l0,vS S T U,vS ac ln ad,vI r0,vS M N O,vS aa rn ab,vI lm,vI rm,vI G] 38) #[ϑ] 4);rw[World.size_alloc,World.size_alloc]at h;exact C8 h (by repeat (first|exact bR|(refine Below.alloc ?_ ϫ _)))
 have ap:Δ D (w+1) 0 (.bool false):=by subst P;go_simp
 have G4:Ξ D (w+1) 0:=by subst P;go_simp
 have a9:Δ D w 8 (vI G):=by subst P;go_simp
 have G5:Δ D (w+1+1+1+1+1+1) 0 (vI l0):=by subst P;go_simp
 have G6:Δ D (w+1+1+1+1+1+1) 1 (vS S T U):=by subst P;go_simp
 have G7:Δ D (w+1+1+1+1+1+1) 2 (vS ac ln ad):=by subst P;go_simp
 have R3:Δ D (w+1+1+1+1) 3 (vI r0):=by subst P;go_simp
 have R4:Δ D (w+1+1+1+1) 4 (vS M N O):=by subst P;go_simp
 have R5:Δ D (w+1+1+1+1) 5 (vS aa rn ab):=by subst P;go_simp
 have G8:ϣ w D:=by
  subst P
  repeat (first|exact bR|(refine Below.alloc ?_ ϫ _))
 have G9:D.heap.size=w.heap.size+1+1+1+1+1+1+1:=by subst P;simp
 clear P;have a6:=Hm b0.o G8 (w.heap.size+1+1+1+1+1+1) Gu G5 G6 (by rw[b6.o];exact G7) Ai (λ_ _=>Ai) (λ_ _ _ _=>trivial) (λ_ _ _ _=>trivial);dsimp only at a6;obtain⟨E1,br⟩:=nM (ems ((((S,T,U):Hdr),al)::bv));rw[br]at a6 bn bp;obtain⟨E2,ba⟩:=nM (ems ((((M,N,O):Hdr),bl)::bw));rw[ba]at bo bq;clear br cf;refine DD (gf:=276) (lb:=#[.pointer (some ⟨w+1+1+1+1+1+1,0,none⟩)]) rfl (enters_of func276 ϧ rfl) a6 bR (λx J=>by obtain⟨p,_,rfl⟩:=mem_map.1 J;rfl) (λh k=>A0.trans h k) (λW l o o' _ h ho=>A0.put W l o o' h ho)
  (λi X=>Il G L (0+i)/\EJ X (w.heap.size+1+1) (0+i) (sqT L (0+i))/\A0 Gu D X/\Ξ X (w+1) 0/\ϣ w X/\True) (λc X=>c= .ret/\false=R/\Δ X (w+1) 0 (.bool false)/\ϣ w X/\True)
  (λi X X' ay d g b=>⟨d.1,LU d.2.1 g (λe=>by have:=(b _ e.symm).1;omega),d.2.2.1.grown g (λr e=>(b r e).2),(frozen_kept (d.2.2.1.cell Ai ap) g (λr e=>(b r e).2)).trans d.2.2.2.1,D4 d.2.2.2.2.1 nR Ϥ g b,trivial⟩)
  (λc X X' ay d g b=>⟨d.1,d.2.1,cell_kept d.2.2.1 g (λr e=>(b r e).2),D4 d.2.2.2.1 nR Ϥ g b,trivial⟩)
  ⟨⟨λy hy=>absurd hy not_mem_nil,nodup_nil⟩,G2,A0.refl _ _,G4,G8,trivial⟩
  (λi a' X=> ∃B,a'={tmps:=#[.agg #[vI l0,vS S T U,vS ac ln ad,vI r0,vS M N O,vS aa rn ab,vI lm,vI rm,vI G],.pointer (some ⟨w,0,none⟩),.pointer (some ⟨w+1,0,none⟩),.pointer (some ⟨w+1+1+1,0,none⟩),undef,.pointer (some ⟨w+1+1+1+1+1,0,none⟩),.pointer (some ⟨B,0,none⟩),.map (some (w.heap.size+1+1)),.pointer (some ⟨w,0,none⟩),.agg #[vI l0,vS S T U,vS ac ln ad],.pointer (some ⟨w,3,none⟩),.agg #[vI r0,vS M N O,vS aa rn ab],vS (some ⟨w+1+1+1+1,0,none⟩) 2 2,vI 2,vI 0,.bool true,.pointer (some ⟨w+1+1+1+1,0,none⟩),.agg #[vI l0,vS S T U,vS ac ln ad],.agg #[vI l0,vS S T U,vS ac ln ad],.func (.func 276) #[] #[.pointer (some ⟨w+1+1+1+1+1+1,0,none⟩)],(E1.getD i ϰ).val,undef,undef,undef,undef,undef,undef,undef,undef,undef,undef,undef,undef,undef,undef,undef,undef,undef,undef],defers:=[]}/\ϖ X B (.string (E1.getD i ϰ).key) (vI (E1.getD i ϰ).time) (vI (E1.getD i ϰ).seq) (hdV (E1.getD i ϰ).row) (.bool (E1.getD i ϰ).met))
  (λi a' u X X' ay d g b=>by
   obtain⟨B,h1,h2,h3,h4,h5,h6⟩:=d;exact⟨B,h1,cell_kept h2 g (λr e=>(b r e).2),cell_kept h3 g (λr e=>(b r e).2),cell_kept h4 g (λr e=>(b r e).2),cell_kept h5 g (λr e=>(b r e).2),cell_kept h6 g (λr e=>(b r e).2)⟩) ?_ ?_ ?_ ?_
 ·intro l' k z X K J Z hK;obtain⟨hk,ax⟩:=List.getElem?_eq_some_iff.1 J;rw[lMp]at hk;rw[getElem_map]at ax;subst ax;have hd:E1.getD k ϰ=E1[k]:=by rw[gDe,gEe hk];rfl
  have E:=hK;rw[hd]at E;clear hK hd J;obtain⟨⟨ek,et,C,⟨r1,r2,r3⟩,em⟩,hz⟩:∃z,E1[k]=z:=⟨_,rfl⟩;rw[hz]at E⊢;unfold EM.val hdV at E⊢;dsimp only at E⊢;obtain⟨j1,j0,j,j3,F,j5⟩:=Z
  gi_wp2
  have lX:w.heap.size+1<X.heap.size:=bLt _ _ (j.cell Ai ap);exact E _ _ ((KeepsOthers.alloc _ _).from _) (A0.alloc _ _) ⟨j1,C8 j0 ϯ,j.trans (A0.alloc _ _),Ϩ,F.alloc F.size _,trivial⟩ ⟨X.heap.size,rfl,Ϩ,Ϩ,Ϩ,Ϩ,Ϩ⟩
 ·intro l' i z a' X J cc cg bb ah;obtain⟨j1,j0,j,j3,F,j5⟩:=bb;obtain⟨B,ah,e0,e1,e2,e3,e4⟩:=ah;subst ah;obtain⟨Z,_⟩:=List.getElem?_eq_some_iff.1 J;rw[lMp]at Z;obtain⟨aj,ae⟩:=bn.o i Z;have aw:=HW.o _ aj;obtain⟨⟨ek,et,C,⟨r1,r2,r3⟩,em⟩,hz⟩:∃z,E1.getD i ϰ=z:=⟨_,rfl⟩;rw[hz]at e0 e1 e2 e3 e4 ae⊢;dsimp only at e0 e1 e2 e3 e4 ae;have ai:pl.i64 C:=by rw[ae];exact aw
  have c0:=j.cell Ai a8;have V:=j.cell Ai ap;have c8:=j.cell Ai a9;have lX:w.heap.size+1<X.heap.size:=bLt _ _ V;have au:=Fz j0 ai;have cd:=W9 L (0+i);obtain⟨q,av,q0,v⟩:=Oc j0 ai (by have:=ak.o;unfold maxLen;omega) (by have:=ak.o;omega);have af:=Fz q0 ai;rw[Od]at af;have aq:=Le j0;have A:Ϣ (0+i<L.length/\C=(L.getD (0+i) ϰ).seq):=⟨aj,ae⟩;have bd:=count_le_length (a:=C) (l:=sqT L (0+i));obtain⟨c,hc⟩:=nM ((sqT L (0+i)).count C);have an:=hV0 hc;rw[hc]at au av af bd;have bk:IntKind.i64.wrap ((c:Int)+1)=(c:Int)+1:=by rw[IntKind.wrap_i64];have:=ak.o;omega
  rw[Int.natCast_add,show((1:Nat):Int)=1 from rfl]at af;have I:∀r,(some (w.heap.size+1+1):Option Nat)=some r->∃o:Obj,X.heap[r]? =some o/\o.isCells=false:=λr e=>by cases e;exact aq
  have d0:=cell_kept c0 v I;have d3:=cell_kept V v I;have d8:=cell_kept c8 v I;have d2:=cell_kept e2 v I;have df:=(frozen_kept V v I).trans j3;have f:Ϣ (A0 Gu X q/\KeepsFrom D.heap.size X q/\ϣ w q/\True):=⟨(A0.refl _ _).grown v I,⟨v.size,λk o hk h _=>(v.block k (Array.getElem?_eq_some_iff.1 h).1 (λe=>by cases e;omega)).trans h⟩,F.grown v F.size (λr e=>by cases e;omega),trivial⟩;have HJ:Ϣ (Il G L (0+i)/\A0 Gu D X):=⟨j1,j⟩;have HQ:Ϣ (EJ q (w.heap.size+1+1) (0+i+1) (sqT L (0+i)++[C])):=q0;clear hz J hc aq I q0 j0 j1 j aw ae aj;by_cases h1:C<G
  ·by_cases h2:c=0
   ·subst h2;have z0:((0:Nat):Int)=0:=rfl;rw[z0]at au;rw[z0,Int.zero_add]at av af bk
    gi_wp2
    have bj:sqT L (0+i+1)=sqT L (0+i)++[C]:=by rw[Kh A.o.1,<-A.o.2]
    have bi:Il G L (0+i+1):=Sq A.o.1 HJ.o.1 (by rw[<-A.o.2];exact h1) (by rw[<-A.o.2];exact an.o);exact⟨f.o.2.1,f.o.1,by rw[show 0+(i+1)=0+i+1 by omega];exact bi,by rw[show 0+(i+1)=0+i+1 by omega,bj];exact HQ.o,HJ.o.2.trans f.o.1,df,f.o.2.2.1,f.o.2.2.2⟩
   ·have h3:(1:Int)<(c:Int)+1:=Ϥ;have Q:Ϣ (false=R):=by
     show _=_;rw[<-ao.o];exact(PD A.o.1 (by rw[<-A.o.2,an.o];exact h2)).symm
    gi_wp2
    exact⟨f.o.2.1.trans ((KeepsOthers.setCell _ _ _).from _),rfl,Q.o,World.cell?_setCell_same _ _ _ d3,f.o.2.2.1.setCell Ϫ _,trivial⟩
  ·have Q:Ϣ (false=R):=by
    show _=_;rw[<-ao.o];exact(Sr A.o.1 (by rw[<-A.o.2];exact h1)).symm
   have h3:G<=C:=Ϥ
   gi_wp2
   first
    |exact⟨f.o.2.1.trans ((KeepsOthers.setCell _ _ _).from _),rfl,Q.o,World.cell?_setCell_same _ _ _ d3,f.o.2.2.1.setCell Ϫ _,trivial⟩
    |exact⟨by rw[<-G9];exact f.o.2.1.trans ((KeepsOthers.setCell _ _ _).from _),rfl,Q.o.symm,World.cell?_setCell_same _ _ _ d3,f.o.2.2.1.setCell Ϫ _⟩
    |exact⟨by rw[<-G9];exact f.o.2.1.trans ((KeepsOthers.setCell _ _ _).from _),rfl,Q.o.symm,World.cell?_setCell_same _ _ _ d3,f.o.2.2.1.setCell Ϫ _,trivial⟩
 ·rintro D1 q ca ⟨j1,j0,j,j3,F,_⟩ am;rw[lMp,bp.o,Nat.zero_add]at j1 j0;have k3:=j.cell Ai R3;have k4:=j.cell Ai R4;have k5:=j.cell Ai R5;have cr:w.heap.size+1+1+1+1+1+1<q.heap.size:=bLt _ _ (j.cell Ai G5);have J1:Ϣ (Il G L m/\A0 Gu D q):=⟨j1,j⟩;have ci:=j.cell Ai a8;have cj:=j.cell Ai ap;have ck:=j.cell Ai a9;clear a6 G5 G6 G7 j1 j R3 R4 R5 a8 ap a9
  gi_wp2
  rw[roundsIn_succ]
  gi_wp2_with (refine⟨trivial,rfl,?_⟩;gi_at_call 237;refine(callsIn_wide.2 (Jp _ _ _ rfl rfl rfl _)).mono ?_;rintro e w' ⟨rfl,rfl⟩)
  generalize Y:((q.alloc (.cells (τ r0 M N O aa rn ab) 36)).alloc (.cells (τ r0 M N O aa rn ab) 36))=H at *;have ar:ϣ q H:=by subst Y;repeat (first|exact bR|(refine Below.alloc ?_ ϫ _))
  have b8:Δ H (w+1+1+1) 0 (.map (some (w.heap.size+1+1))):=by subst Y;exact cLz ar ci
  have a4:Δ H (w+1) 0 (.bool false):=by subst Y;exact cLz ar cj
  have b9:Δ H w 8 (vI G):=by subst Y;exact cLz ar ck
  have bx:EJ H (w.heap.size+1+1) m (sqT L m):=by subst Y;exact C8 j0 (by repeat (first|exact bR|(refine Below.alloc ?_ ϫ _)))
  have bz:Ξ H (w+1) 0:=by subst Y;exact(ar.frozen (p:=⟨w+1,0,none⟩) Ϫ).trans j3
  have H5:Δ H (q+1) 0 (vI r0):=by subst Y;go_simp
  have H6:Δ H (q+1) 1 (vS M N O):=by subst Y;go_simp
  have H7:Δ H (q+1) 2 (vS aa rn ab):=by subst Y;go_simp
  have bm:ϣ w H:=by subst Y;exact bT F ar
  have G9:H.heap.size=q.heap.size+1+1:=by subst Y;simp
  have bs:H.heap[D1]? =some (.deferred (some [])):=by
   subst Y;have:=(Array.getElem?_eq_some_iff.1 am).1;rw[Below.heap_alloc _ _ _ ϩ,Below.heap_alloc _ _ _ this];exact am
  clear Y;have be:=Hm b4.o bm (q.heap.size+1) Gu H5 H6 (by rw[b7.o];exact H7) Ai (λ_ _=>Ai) (λ_ _ _ _=>trivial) (λ_ _ _ _=>trivial);dsimp only at be;have cq:=(Array.getElem?_eq_some_iff.1 bs).1;rw[ba]at be;clear ba;refine DD (gf:=276) (lb:=#[.pointer (some ⟨q+1,0,none⟩)]) rfl (enters_of func276 ϧ rfl) be bR (λx J=>by obtain⟨p,_,rfl⟩:=mem_map.1 J;rfl) (λh k=>A0.trans h k) (λW l o o' _ h ho=>A0.put W l o o' h ho)
   (λi X=>Il G L (m+i)/\EJ X (w.heap.size+1+1) (m+i) (sqT L (m+i))/\A0 Gu H X/\Ξ X (w+1) 0/\ϣ w X/\X.heap[D1]? =some (.deferred (some []))) (λc X=>c= .ret/\false=R/\Δ X (w+1) 0 (.bool false)/\ϣ w X/\X.heap[D1]? =some (.deferred (some [])))
   (λi X X' ay d g b=>⟨d.1,LU d.2.1 g (λe=>by have:=(b _ e.symm).1;omega),d.2.2.1.grown g (λr e=>(b r e).2),(frozen_kept (d.2.2.1.cell Ai a4) g (λr e=>(b r e).2)).trans d.2.2.2.1,D4 d.2.2.2.2.1 nR Ϥ g b,(g.block D1 (Array.getElem?_eq_some_iff.1 d.2.2.2.2.2).1 (λe=>by have:=(b _ e.symm).1;omega)).trans d.2.2.2.2.2⟩)
   (λc X X' ay d g b=>⟨d.1,d.2.1,cell_kept d.2.2.1 g (λr e=>(b r e).2),D4 d.2.2.2.1 nR Ϥ g b,(g.block D1 (Array.getElem?_eq_some_iff.1 d.2.2.2.2).1 (λe=>by have:=(b _ e.symm).1;omega)).trans d.2.2.2.2⟩)
   ⟨by rw[Nat.add_zero];exact J1.o.1,by rw[Nat.add_zero];exact bx,A0.refl _ _,bz,bm,bs⟩
   (λi a' X=> ∃B,a'={tmps:=#[.agg #[vI l0,vS S T U,vS ac ln ad,vI r0,vS M N O,vS aa rn ab,vI lm,vI rm,vI G],.pointer (some ⟨w,0,none⟩),.pointer (some ⟨w+1,0,none⟩),.pointer (some ⟨w+1+1+1,0,none⟩),undef,.pointer (some ⟨q,0,none⟩),.pointer (some ⟨B,0,none⟩),.map (some (w.heap.size+1+1)),.pointer (some ⟨w,0,none⟩),.agg #[vI l0,vS S T U,vS ac ln ad],.pointer (some ⟨w,3,none⟩),.agg #[vI r0,vS M N O,vS aa rn ab],vS (some ⟨w+1+1+1+1,0,none⟩) 2 2,vI 2,vI 1,.bool true,.pointer (some ⟨w+1+1+1+1,3,none⟩),.agg #[vI r0,vS M N O,vS aa rn ab],.agg #[vI r0,vS M N O,vS aa rn ab],.func (.func 276) #[] #[.pointer (some ⟨q+1,0,none⟩)],(E2.getD i ϰ).val,undef,undef,undef,undef,undef,undef,undef,undef,undef,undef,undef,undef,undef,undef,undef,undef,undef,vI 1],defers:=[]}/\ϖ X B (.string (E2.getD i ϰ).key) (vI (E2.getD i ϰ).time) (vI (E2.getD i ϰ).seq) (hdV (E2.getD i ϰ).row) (.bool (E2.getD i ϰ).met))
   (λi a' u X X' ay d g b=>by
    obtain⟨B,h1,h2,h3,h4,h5,h6⟩:=d;exact⟨B,h1,cell_kept h2 g (λr e=>(b r e).2),cell_kept h3 g (λr e=>(b r e).2),cell_kept h4 g (λr e=>(b r e).2),cell_kept h5 g (λr e=>(b r e).2),cell_kept h6 g (λr e=>(b r e).2)⟩) ?_ ?_ ?_ ?_
  ·intro l' k z X K J Z hK;obtain⟨hk,ax⟩:=List.getElem?_eq_some_iff.1 J;rw[lMp]at hk;rw[getElem_map]at ax;subst ax;have hd:E2.getD k ϰ=E2[k]:=by rw[gDe,gEe hk];rfl
   have E:=hK;rw[hd]at E;clear hK hd J;obtain⟨⟨ek,et,C,⟨r1,r2,r3⟩,em⟩,hz⟩:∃z,E2[k]=z:=⟨_,rfl⟩;rw[hz]at E⊢;unfold EM.val hdV at E⊢;dsimp only at E⊢;obtain⟨j1,j0,j,j3,F,j5⟩:=Z
   gi_wp2
   have lX:w.heap.size+1<X.heap.size:=bLt _ _ (j.cell Ai a4);exact E _ _ ((KeepsOthers.alloc _ _).from _) (A0.alloc _ _) ⟨j1,C8 j0 ϯ,j.trans (A0.alloc _ _),Ϩ,F.alloc F.size _,(Below.heap_alloc _ _ _ (Array.getElem?_eq_some_iff.1 j5).1).trans j5⟩ ⟨X.heap.size,rfl,Ϩ,Ϩ,Ϩ,Ϩ,Ϩ⟩
  ·intro l' i z a' X J cc cg bb ah;obtain⟨j1,j0,j,j3,F,j5⟩:=bb;obtain⟨B,ah,e0,e1,e2,e3,e4⟩:=ah;subst ah;obtain⟨Z,_⟩:=List.getElem?_eq_some_iff.1 J;rw[lMp]at Z;obtain⟨aj,ae⟩:=bo.o i Z;have aw:=HW.o _ aj;obtain⟨⟨ek,et,C,⟨r1,r2,r3⟩,em⟩,hz⟩:∃z,E2.getD i ϰ=z:=⟨_,rfl⟩;rw[hz]at e0 e1 e2 e3 e4 ae⊢;dsimp only at e0 e1 e2 e3 e4 ae;have ai:pl.i64 C:=by rw[ae];exact aw
   have c0:=j.cell Ai b8;have V:=j.cell Ai a4;have c8:=j.cell Ai b9;have lX:w.heap.size+1<X.heap.size:=bLt _ _ V;have au:=Fz j0 ai;have cd:=W9 L (m+i);obtain⟨q,av,q0,v⟩:=Oc j0 ai (by have:=ak.o;unfold maxLen;omega) (by have:=ak.o;omega);have af:=Fz q0 ai;rw[Od]at af;have aq:=Le j0;have A:Ϣ (m+i<L.length/\C=(L.getD (m+i) ϰ).seq):=⟨aj,ae⟩;have bd:=count_le_length (a:=C) (l:=sqT L (m+i));obtain⟨c,hc⟩:=nM ((sqT L (m+i)).count C);have an:=hV0 hc;rw[hc]at au av af bd;have bk:IntKind.i64.wrap ((c:Int)+1)=(c:Int)+1:=by rw[IntKind.wrap_i64];have:=ak.o;omega
   rw[Int.natCast_add,show((1:Nat):Int)=1 from rfl]at af;have I:∀r,(some (w.heap.size+1+1):Option Nat)=some r->∃o:Obj,X.heap[r]? =some o/\o.isCells=false:=λr e=>by cases e;exact aq
   have d0:=cell_kept c0 v I;have d3:=cell_kept V v I;have d8:=cell_kept c8 v I;have d2:=cell_kept e2 v I;have df:=(frozen_kept V v I).trans j3;have f:Ϣ (A0 Gu X q/\KeepsFrom H.heap.size X q/\ϣ w q/\q.heap[D1]? =some (.deferred (some []))):=⟨(A0.refl _ _).grown v I,⟨v.size,λk o hk h _=>(v.block k (Array.getElem?_eq_some_iff.1 h).1 (λe=>by cases e;omega)).trans h⟩,F.grown v F.size (λr e=>by cases e;omega),(v.block D1 (Array.getElem?_eq_some_iff.1 j5).1 (λe=>by cases e;omega)).trans j5⟩;have HJ:Ϣ (Il G L (m+i)/\A0 Gu H X):=⟨j1,j⟩;have HQ:Ϣ (EJ q (w.heap.size+1+1) (m+i+1) (sqT L (m+i)++[C])):=q0;clear hz J hc aq I q0 j0 j1 j aw ae aj;by_cases h1:C<G
   ·by_cases h2:c=0
    ·subst h2;have z0:((0:Nat):Int)=0:=rfl;rw[z0]at au;rw[z0,Int.zero_add]at av af bk
     gi_wp2
     have bj:sqT L (m+i+1)=sqT L (m+i)++[C]:=by rw[Kh A.o.1,<-A.o.2]
     have bi:Il G L (m+i+1):=Sq A.o.1 HJ.o.1 (by rw[<-A.o.2];exact h1) (by rw[<-A.o.2];exact an.o);exact⟨f.o.2.1,f.o.1,by rw[show m+(i+1)=m+i+1 by omega];exact bi,by rw[show m+(i+1)=m+i+1 by omega,bj];exact HQ.o,HJ.o.2.trans f.o.1,df,f.o.2.2.1,f.o.2.2.2⟩
    ·have h3:(1:Int)<(c:Int)+1:=Ϥ;have Q:Ϣ (false=R):=by
      show _=_;rw[<-ao.o];exact(PD A.o.1 (by rw[<-A.o.2,an.o];exact h2)).symm
     gi_wp2
     exact⟨f.o.2.1.trans ((KeepsOthers.setCell _ _ _).from _),rfl,Q.o,World.cell?_setCell_same _ _ _ d3,f.o.2.2.1.setCell Ϫ _,(heap_setCell_other _ _ _ _ Ϫ).trans f.o.2.2.2⟩
   ·have Q:Ϣ (false=R):=by
     show _=_;rw[<-ao.o];exact(Sr A.o.1 (by rw[<-A.o.2];exact h1)).symm
    have h3:G<=C:=Ϥ
    gi_wp2
    first
     |exact⟨f.o.2.1.trans ((KeepsOthers.setCell _ _ _).from _),rfl,Q.o,World.cell?_setCell_same _ _ _ d3,f.o.2.2.1.setCell Ϫ _,(heap_setCell_other _ _ _ _ Ϫ).trans f.o.2.2.2⟩
     |exact⟨by rw[<-G9];exact f.o.2.1.trans ((KeepsOthers.setCell _ _ _).from _),rfl,Q.o.symm,World.cell?_setCell_same _ _ _ d3,f.o.2.2.1.setCell Ϫ _⟩
     |exact⟨by rw[<-G9];exact f.o.2.1.trans ((KeepsOthers.setCell _ _ _).from _),rfl,Q.o.symm,World.cell?_setCell_same _ _ _ d3,f.o.2.2.1.setCell Ϫ _,(heap_setCell_other _ _ _ _ Ϫ).trans f.o.2.2.2⟩
  ·rintro D2 X2 cb ⟨bu,co,cl,cp,cm,cn⟩ E;have V:=cl.cell Ai a4;have Q:Ϣ (true=R):=by
    show _=_;rw[<-ao.o]
    symm
    refine AcK ?_;rw[lMp,bq.o,<-b5.o]at bu;exact bu
   gi_wp2
   rw[roundsIn_succ]
   gi_wp2
   have bc:(X2.setCell ⟨w+1,0,none⟩ (.bool true)).heap[D2]? =some (.deferred (some [])):=(heap_setCell_other _ _ _ _ Ϫ).trans E;refine⟨Ϧ,.inl ⟨_,_,rfl,run_takeDeferred bc,?_⟩⟩;have ag:((X2.setCell ⟨w+1,0,none⟩ (.bool true)).putObj D2 (.deferred none)).heap[D1]? =some (.deferred (some [])):=(World.putObj_heap_other Ϥ).trans ((heap_setCell_other _ _ _ _ Ϫ).trans cn);refine⟨Ϧ,.inl ⟨_,_,rfl,run_takeDeferred ag,?_⟩⟩;have y3:=CZ (CZ (World.cell?_setCell_same _ _ (.bool true) V) bc rfl (.deferred none)) ag rfl (.deferred none);exact⟨.bool true,(by simp[results,results170,go_sem,y3]),Aa Q.o,CY (CY (cm.setCell Ϫ _) Ϥ bc _) Ϥ ag _⟩
  ·rintro D2 c X2 cb ⟨rfl,hE,V,F,j5⟩ E
   gi_wp2
   refine⟨Ϧ,.inl ⟨_,_,rfl,run_takeDeferred E,?_⟩⟩;have ag:(X2.putObj D2 (.deferred none)).heap[D1]? =some (.deferred (some [])):=(World.putObj_heap_other Ϥ).trans j5;refine⟨Ϧ,.inl ⟨_,_,rfl,run_takeDeferred ag,?_⟩⟩;have y3:=CZ (CZ V E rfl (.deferred none)) ag rfl (.deferred none);exact⟨.bool false,(by simp[results,results170,go_sem,y3]),Aa hE,CY (CY F Ϥ E _) Ϥ ag _⟩
 ·rintro D1 c q ca ⟨rfl,hE,V,F,j5⟩ am
  gi_wp2
  refine⟨Ϧ,.inl ⟨_,_,rfl,run_takeDeferred am,?_⟩⟩;have y3:=CZ V am rfl (.deferred none);exact⟨.bool false,(by simp[results,results170,go_sem,y3]),Aa hE,CY F Ϥ am _⟩
end jn
end Go.Proofs.YtfkihidbnfkbaaaGreatDoor
