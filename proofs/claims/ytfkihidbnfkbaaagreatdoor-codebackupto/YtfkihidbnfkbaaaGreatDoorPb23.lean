import Derived.Test.YtfkihidbnfkbaaaGreatDoorPb16
set_option linter.all false
set_option maxHeartbeats 8000000
set_option maxRecDepth 100000
open Go.ChangeShapes Go.WideShapes Go.ChangeAt Go.RowKit Go.Shelf Go.Maps List
open Inhabited renaming default->ϰ
namespace Go.Proofs.YtfkihidbnfkbaaaGreatDoor
open Go.Proofs.Tryz
namespace jn
open vl bf
attribute [local go_sem] Oper.semAt_some
variable {l : List Ent} {t : Nat} {n : Int}
def GZ(n:Int)(l:List Ent)(t:Nat):Prop:=EO n (l.take t)
def sqT(l:List Ent)(t:Nat):List Int:=(l.take t).map (·.seq)
theorem Kh(h:t<l.length):sqT l (t+1)=sqT l t++[(l.getD t ϰ).seq]:=by
 unfold sqT;rw[take_succ_eq_append_getElem h,map_append,gDe,gEe h];rfl
theorem Vg(l:List Ent)(t:Nat):(sqT l t).length<=l.length:=by unfold sqT;rw[lMp,length_take];omega
theorem Si(h:t<l.length)(f:GZ n l t)(g:(l.getD t ϰ).seq<n)(i:(sqT l t).count (l.getD t ϰ).seq=0):GZ n l (t+1):=by
 obtain⟨j,k⟩:=f;have e:l.take (t+1)=l.take t++[l.getD t ϰ]:=by rw[take_succ_eq_append_getElem h,gDe,gEe h];rfl
 unfold GZ EO;rw[e];refine⟨λy hy=>?_,?_⟩
 ·rcases mem_append.1 hy with hy|hy
  ·exact j y hy
  ·rw[mem_singleton.1 hy];exact g
 ·rw[map_append];refine nodup_append.2 ⟨k,ϟ,λa ha b c=>?_⟩;have c:b=(l.getD t ϰ).seq:=by simpa using c
  subst c;intro d;subst d;exact absurd i (by have:=count_pos_iff.2 ha;unfold sqT;omega)
theorem Sj(h:t<l.length)(a:¬(l.getD t ϰ).seq<n):decide (EO n l)=false:=by
 refine decide_eq_false λk=>a (k.1 _ ?_);rw[gDe,gEe h];simp
theorem OT(h:t<l.length)(c:(sqT l t).count (l.getD t ϰ).seq≠0):decide (EO n l)=false:=by
 refine decide_eq_false λk=>?_;have a:=k.2;have e:l.map (·.seq)=sqT l (t+1)++(l.drop (t+1)).map (·.seq):=by unfold sqT;rw[<-map_append,take_append_drop]
 rw[e,Kh h]at a;have b:(l.getD t ϰ).seq∈sqT l t:=count_pos_iff.1 ϝ;exact(nodup_append.1 (nodup_append.1 a).1).2.2 _ b _ (mem_singleton.2 rfl) rfl
theorem Ack(h:GZ n l l.length):decide (EO n l)=true:=by
 unfold GZ at h;rw[take_length]at h;exact decide_eq_true h
theorem Of(s:Jn)(y:JX)(w:ϙ)(h:joinAt w s y)(hw:∀z∈Ac s.L++Ac s.R,pl.i64 z.seq)(hl:(Ac s.L).length<=100000)(I:(Ac s.R).length<=100000):
 η 170 #[joinV s y] w (θ w (.bool (MN s))):=by
 have bw:ϛ (bufAt w s.L y.l):=h.l;have bx:ϛ (bufAt w s.R y.r):=h.r;have aw:=D8 h.l;have ax:=D8 h.r;unfold MN;obtain⟨L,hL⟩:=nM (Ac s.L++Ac s.R);obtain⟨Q,a4⟩:=nM ((Ac s.L).length);have HW:ϛ (∀t,t<L.length->pl.i64 (L.getD t ϰ).seq):=λt ht=>by
  rw[hL]at hw;exact hw _ (by rw[gDe,gEe ht];simp)
 have ah:ϛ (L.length<=200000):=by
  show _<=_;rw[<-hL,lAp];omega
 have bz:ϛ (L.length=Q+(Ac s.R).length):=by show _=_;rw[<-hL,lAp,a4]
 have bj:ϛ (∀i,i<(ems (y.l.m::y.l.rs)).length->0+i<L.length/\((ems (y.l.m::y.l.rs)).getD i ϰ).seq=(L.getD (0+i) ϰ).seq):=λi hi=>by
  have az:i<(Ac s.L).length:=by rw[<-aw.1];exact hi
  refine⟨by rw[<-hL,lAp];omega,?_⟩;rw[(aw.2 i az).seq,<-hL,Nat.zero_add,Bc az]
 have bk:ϛ (∀i,i<(ems (y.r.m::y.r.rs)).length->Q+i<L.length/\((ems (y.r.m::y.r.rs)).getD i ϰ).seq=(L.getD (Q+i) ϰ).seq):=λi hi=>by
  have az:i<(Ac s.R).length:=by rw[<-ax.1];exact hi
  refine⟨by rw[<-hL,lAp];omega,?_⟩;rw[(ax.2 i az).seq,<-hL,AP ϝ,a4,Nat.add_sub_cancel_left]
 have bm:ϛ ((ems (y.l.m::y.l.rs)).length=Q):=by show _=_;rw[aw.1,a4]
 have bn:ϛ ((ems (y.r.m::y.r.rs)).length=(Ac s.R).length):=ax.1;rw[hL];obtain⟨R,hR⟩:=nM (decide (EO s.seq L));have ak:=hqz hR;rw[hR];clear hR hL hw hl I h aw ax a4;obtain⟨⟨A,C,⟨⟨b,d,f⟩,al⟩,br⟩,⟨F,G,⟨⟨g,j,m⟩,bl⟩,bs⟩⟩:=y;obtain⟨⟨q,cp,cq⟩,⟨D,cr,cs⟩,Z,rm,N⟩:=s;rw[AK];dsimp only at *;obtain⟨v,bc⟩:∃n,br.length=n:=⟨_,rfl⟩;have b0:=hqz bc;obtain⟨E,bd⟩:∃n,bs.length=n:=⟨_,rfl⟩;have b4:=hqz bd;rw[bc,bd];clear bc bd;have cb:=@run_makeMap Tryz.prog;refine(callsIn_wide (n:=0)).1 ?_;refine callsIn_of_wp_marks func170 rfl trivial ?_ rfl;simp only[ntmps170,size_toArray,length_cons,length_nil,Nat.reduceAdd,Nat.reduceSub,Array.replicate_succ,Array.replicate_zero,push_toArray,append_toArray,nil_append,cons_append]
 gi_wp2
 refine wpIn_loop_rounds 3 ?_;rw[roundsIn_succ]
 gi_wp2_with (refine⟨trivial,rfl,?_⟩;gi_at_call 237;refine(callsIn_wide.2 (Ir _ _ _ rfl rfl rfl _)).mono ?_;rintro e w' ⟨rfl,rfl⟩)
 have a5:Δ (ξ (ξ (ξ (ξ (((w.alloc (.cells #[vI q,vS b d f,vS A v C,vI D,vS g j m,vS F E G,vI Z,vI rm,vI N] 38)).alloc (.cells #[ϋ] 4)).alloc (.map #[] 0)) #[.map (some (w.heap.size+1+1))] 298) #[vI q,vS b d f,vS A v C,vI D,vS g j m,vS F E G] 36) (ν q b d f A v C) 36) (ν q b d f A v C) 36) (w+1+1+1) 0 (.map (some (w.heap.size+1+1))):=ϡ;have G2:DR (ξ (ξ (ξ (ξ (((w.alloc (.cells #[vI q,vS b d f,vS A v C,vI D,vS g j m,vS F E G,vI Z,vI rm,vI N] 38)).alloc (.cells #[ϋ] 4)).alloc (.map #[] 0)) #[.map (some (w.heap.size+1+1))] 298) #[vI q,vS b d f,vS A v C,vI D,vS g j m,vS F E G] 36) (ν q b d f A v C) 36) (ν q b d f A v C) 36) (w.heap.size+1+1) 0 []:=by
  have h:=Rt (ξ (ξ w #[vI q,vS b d f,vS A v C,vI D,vS g j m,vS F E G,vI Z,vI rm,vI N] 38) #[ϋ] 4);rw[World.size_alloc,World.size_alloc]at h;exact Ch h (by repeat (first|exact bR|(refine Below.alloc ?_ Ϥ _)))
 have am:Δ (ξ (ξ (ξ (ξ (((w.alloc (.cells #[vI q,vS b d f,vS A v C,vI D,vS g j m,vS F E G,vI Z,vI rm,vI N] 38)).alloc (.cells #[ϋ] 4)).alloc (.map #[] 0)) #[.map (some (w.heap.size+1+1))] 298) #[vI q,vS b d f,vS A v C,vI D,vS g j m,vS F E G] 36) (ν q b d f A v C) 36) (ν q b d f A v C) 36) (w+1) 0 (.bool false):=ϡ;have G4:Ξ (ξ (ξ (ξ (ξ (((w.alloc (.cells #[vI q,vS b d f,vS A v C,vI D,vS g j m,vS F E G,vI Z,vI rm,vI N] 38)).alloc (.cells #[ϋ] 4)).alloc (.map #[] 0)) #[.map (some (w.heap.size+1+1))] 298) #[vI q,vS b d f,vS A v C,vI D,vS g j m,vS F E G] 36) (ν q b d f A v C) 36) (ν q b d f A v C) 36) (w+1) 0:=ϡ;have a6:Δ (ξ (ξ (ξ (ξ (((w.alloc (.cells #[vI q,vS b d f,vS A v C,vI D,vS g j m,vS F E G,vI Z,vI rm,vI N] 38)).alloc (.cells #[ϋ] 4)).alloc (.map #[] 0)) #[.map (some (w.heap.size+1+1))] 298) #[vI q,vS b d f,vS A v C,vI D,vS g j m,vS F E G] 36) (ν q b d f A v C) 36) (ν q b d f A v C) 36) w 8 (vI N):=ϡ;have G5:Δ (ξ (ξ (ξ (ξ (((w.alloc (.cells #[vI q,vS b d f,vS A v C,vI D,vS g j m,vS F E G,vI Z,vI rm,vI N] 38)).alloc (.cells #[ϋ] 4)).alloc (.map #[] 0)) #[.map (some (w.heap.size+1+1))] 298) #[vI q,vS b d f,vS A v C,vI D,vS g j m,vS F E G] 36) (ν q b d f A v C) 36) (ν q b d f A v C) 36) (w+1+1+1+1+1+1) 0 (vI q):=ϡ;have G6:Δ (ξ (ξ (ξ (ξ (((w.alloc (.cells #[vI q,vS b d f,vS A v C,vI D,vS g j m,vS F E G,vI Z,vI rm,vI N] 38)).alloc (.cells #[ϋ] 4)).alloc (.map #[] 0)) #[.map (some (w.heap.size+1+1))] 298) #[vI q,vS b d f,vS A v C,vI D,vS g j m,vS F E G] 36) (ν q b d f A v C) 36) (ν q b d f A v C) 36) (w+1+1+1+1+1+1) 1 (vS b d f):=ϡ
 have G7:Δ (ξ (ξ (ξ (ξ (((w.alloc (.cells #[vI q,vS b d f,vS A v C,vI D,vS g j m,vS F E G,vI Z,vI rm,vI N] 38)).alloc (.cells #[ϋ] 4)).alloc (.map #[] 0)) #[.map (some (w.heap.size+1+1))] 298) #[vI q,vS b d f,vS A v C,vI D,vS g j m,vS F E G] 36) (ν q b d f A v C) 36) (ν q b d f A v C) 36) (w+1+1+1+1+1+1) 2 (vS A v C):=ϡ;have R3:Δ (ξ (ξ (ξ (ξ (((w.alloc (.cells #[vI q,vS b d f,vS A v C,vI D,vS g j m,vS F E G,vI Z,vI rm,vI N] 38)).alloc (.cells #[ϋ] 4)).alloc (.map #[] 0)) #[.map (some (w.heap.size+1+1))] 298) #[vI q,vS b d f,vS A v C,vI D,vS g j m,vS F E G] 36) (ν q b d f A v C) 36) (ν q b d f A v C) 36) (w+1+1+1+1) 3 (vI D):=ϡ;have R4:Δ (ξ (ξ (ξ (ξ (((w.alloc (.cells #[vI q,vS b d f,vS A v C,vI D,vS g j m,vS F E G,vI Z,vI rm,vI N] 38)).alloc (.cells #[ϋ] 4)).alloc (.map #[] 0)) #[.map (some (w.heap.size+1+1))] 298) #[vI q,vS b d f,vS A v C,vI D,vS g j m,vS F E G] 36) (ν q b d f A v C) 36) (ν q b d f A v C) 36) (w+1+1+1+1) 4 (vS g j m):=ϡ;have R5:Δ (ξ (ξ (ξ (ξ (((w.alloc (.cells #[vI q,vS b d f,vS A v C,vI D,vS g j m,vS F E G,vI Z,vI rm,vI N] 38)).alloc (.cells #[ϋ] 4)).alloc (.map #[] 0)) #[.map (some (w.heap.size+1+1))] 298) #[vI q,vS b d f,vS A v C,vI D,vS g j m,vS F E G] 36) (ν q b d f A v C) 36) (ν q b d f A v C) 36) (w+1+1+1+1) 5 (vS F E G):=ϡ;have G8:Ϝ w (ξ (ξ (ξ (ξ (((w.alloc (.cells #[vI q,vS b d f,vS A v C,vI D,vS g j m,vS F E G,vI Z,vI rm,vI N] 38)).alloc (.cells #[ϋ] 4)).alloc (.map #[] 0)) #[.map (some (w.heap.size+1+1))] 298) #[vI q,vS b d f,vS A v C,vI D,vS g j m,vS F E G] 36) (ν q b d f A v C) 36) (ν q b d f A v C) 36):=by
  repeat (first|exact bR|(refine Below.alloc ?_ Ϥ _))
 have G9:(((((((w.alloc (.cells #[vI q,vS b d f,vS A v C,vI D,vS g j m,vS F E G,vI Z,vI rm,vI N] 38)).alloc (.cells #[ϋ] 4)).alloc (.map #[] 0)).alloc (.cells #[.map (some (w.heap.size+1+1))] 298)).alloc (.cells #[vI q,vS b d f,vS A v C,vI D,vS g j m,vS F E G] 36)).alloc (.cells (ν q b d f A v C) 36)).alloc (.cells (ν q b d f A v C) 36)).heap.size=w.heap.size+1+1+1+1+1+1+1:=ϟ;generalize (((((((w.alloc (.cells #[vI q,vS b d f,vS A v C,vI D,vS g j m,vS F E G,vI Z,vI rm,vI N] 38)).alloc (.cells #[ϋ] 4)).alloc (.map #[] 0)).alloc (.cells #[.map (some (w.heap.size+1+1))] 298)).alloc (.cells #[vI q,vS b d f,vS A v C,vI D,vS g j m,vS F E G] 36)).alloc (.cells (ν q b d f A v C) 36)).alloc (.cells (ν q b d f A v C) 36))=V1 at *;have a0:=Gs bw.o G8 (w.heap.size+1+1+1+1+1+1) Fy G5 G6 (by rw[b0.o];exact G7) Af (λ_ _=>Af) (λ_ _ _ _=>trivial) (λ_ _ _ _=>trivial);dsimp only at a0;obtain⟨E1,bo⟩:=nM (ems ((((b,d,f):Hdr),al)::br));rw[bo]at a0 bj bm;obtain⟨E2,a7⟩:=nM (ems ((((g,j,m):Hdr),bl)::bs));rw[a7]at bk bn;clear bo cb;refine Db (gf:=276) (lb:=#[.pointer (some ⟨w+1+1+1+1+1+1,0,none⟩)]) rfl (enters_of func276 Ϡ rfl) a0 bR (λx hx=>by obtain⟨p,_,rfl⟩:=mem_map.1 hx;rfl) (λh k=>Aq.trans h k) (λW l o o' _ h ho=>Aq.put W l o o' h ho)
  (λi X=>GZ N L (0+i)/\DR X (w.heap.size+1+1) (0+i) (sqT L (0+i))/\Aq Fy V1 X/\Ξ X (w+1) 0/\Ϝ w X/\True) (λc X=>c= .ret/\false=R/\Δ X (w+1) 0 (.bool false)/\Ϝ w X/\True)
  (λi X X' av J O I=>⟨J.1,Lc J.2.1 O (λe=>by have:=(I _ e.symm).1;omega),J.2.2.1.grown O (λr e=>(I r e).2),(frozen_kept (J.2.2.1.cell Af am) O (λr e=>(I r e).2)).trans J.2.2.2.1,CU J.2.2.2.2.1 nR ϝ O I,trivial⟩)
  (λc X X' av J O I=>⟨J.1,J.2.1,cell_kept J.2.2.1 O (λr e=>(I r e).2),CU J.2.2.2.1 nR ϝ O I,trivial⟩)
  ⟨⟨λy hy=>absurd hy not_mem_nil,nodup_nil⟩,G2,Aq.refl _ _,G4,G8,trivial⟩
  (λi a' X=> ∃B,a'={tmps:=#[.agg #[vI q,vS b d f,vS A v C,vI D,vS g j m,vS F E G,vI Z,vI rm,vI N],.pointer (some ⟨w,0,none⟩),.pointer (some ⟨w+1,0,none⟩),.pointer (some ⟨w+1+1+1,0,none⟩),undef,.pointer (some ⟨w+1+1+1+1+1,0,none⟩),.pointer (some ⟨B,0,none⟩),.map (some (w.heap.size+1+1)),.pointer (some ⟨w,0,none⟩),.agg #[vI q,vS b d f,vS A v C],.pointer (some ⟨w,3,none⟩),.agg #[vI D,vS g j m,vS F E G],vS (some ⟨w+1+1+1+1,0,none⟩) 2 2,vI 2,vI 0,.bool true,.pointer (some ⟨w+1+1+1+1,0,none⟩),.agg #[vI q,vS b d f,vS A v C],.agg #[vI q,vS b d f,vS A v C],.func (.func 276) #[] #[.pointer (some ⟨w+1+1+1+1+1+1,0,none⟩)],(E1.getD i ϰ).val,undef,undef,undef,undef,undef,undef,undef,undef,undef,undef,undef,undef,undef,undef,undef,undef,undef,undef],defers:=[]}/\ώ X B (.string (E1.getD i ϰ).key) (vI (E1.getD i ϰ).time) (vI (E1.getD i ϰ).seq) (hdV (E1.getD i ϰ).row) (.bool (E1.getD i ϰ).met))
  (λi a' u X X' av J O I=>by
   obtain⟨B,h1,h2,h3,h4,h5,h6⟩:=J;exact⟨B,h1,cell_kept h2 O (λr e=>(I r e).2),cell_kept h3 O (λr e=>(I r e).2),cell_kept h4 O (λr e=>(I r e).2),cell_kept h5 O (λr e=>(I r e).2),cell_kept h6 O (λr e=>(I r e).2)⟩) ?_ ?_ ?_ ?_
 ·intro l' k z X K hx hi hK;obtain⟨hk,au⟩:=List.getElem?_eq_some_iff.1 hx;rw[lMp]at hk;rw[getElem_map]at au;subst au;have hd:E1.getD k ϰ=E1[k]:=by rw[gDe,gEe hk];rfl
  have V:=hK;rw[hd]at V;clear hK hd hx;obtain⟨⟨ek,et,U,⟨r1,r2,r3⟩,em⟩,hz⟩:∃z,E1[k]=z:=⟨_,rfl⟩;rw[hz]at V⊢;unfold EM.val hdV at V⊢;dsimp only at V⊢;obtain⟨j1,j0,P,j3,Y,j5⟩:=hi
  gi_wp2
  have lX:w.heap.size+1<X.heap.size:=bLt _ _ (P.cell Af am);exact V _ _ ((KeepsOthers.alloc _ _).from _) (Aq.alloc _ _) ⟨j1,Ch j0 Ϩ,P.trans (Aq.alloc _ _),ϡ,Y.alloc Y.size _,trivial⟩ ⟨X.heap.size,rfl,ϡ,ϡ,ϡ,ϡ,ϡ⟩
 ·intro l' i z a' X hx b9 cc a8 ae;obtain⟨j1,j0,P,j3,Y,j5⟩:=a8;obtain⟨B,ae,e0,e1,e2,e3,e4⟩:=ae;subst ae;obtain⟨hi,_⟩:=List.getElem?_eq_some_iff.1 hx;rw[lMp]at hi;obtain⟨ag,ab⟩:=bj.o i hi;have ar:=HW.o _ ag;obtain⟨⟨ek,et,U,⟨r1,r2,r3⟩,em⟩,hz⟩:∃z,E1.getD i ϰ=z:=⟨_,rfl⟩;rw[hz]at e0 e1 e2 e3 e4 ab⊢;dsimp only at e0 e1 e2 e3 e4 ab;have af:pl.i64 U:=by rw[ab];exact ar
  have c0:=P.cell Af a5;have c3:=P.cell Af am;have c8:=P.cell Af a6;have lX:w.heap.size+1<X.heap.size:=bLt _ _ c3;have ap:=Ex j0 af;have ca:=Vg L (0+i);obtain⟨H,aq,q0,S⟩:=MQ j0 af (by have:=ah.o;unfold maxLen;omega) (by have:=ah.o;omega);have ac:=Ex q0 af;rw[MR]at ac;have an:=JQ j0;have T:ϛ (0+i<L.length/\U=(L.getD (0+i) ϰ).seq):=⟨ag,ab⟩;have ba:=count_le_length (a:=U) (l:=sqT L (0+i));obtain⟨c,hc⟩:=nM ((sqT L (0+i)).count U);have aj:=hqz hc;rw[hc]at ap aq ac ba;have bh:IntKind.i64.wrap ((c:Int)+1)=(c:Int)+1:=by rw[IntKind.wrap_i64];have:=ah.o;omega
  rw[Int.natCast_add,show((1:Nat):Int)=1 from rfl]at ac;have aa:∀r,(some (w.heap.size+1+1):Option Nat)=some r->∃o:Obj,X.heap[r]? =some o/\o.isCells=false:=λr e=>by cases e;exact an
  have d0:=cell_kept c0 S aa;have d3:=cell_kept c3 S aa;have d8:=cell_kept c8 S aa;have d2:=cell_kept e2 S aa;have df:=(frozen_kept c3 S aa).trans j3;have M:ϛ (Aq Fy X H/\KeepsFrom V1.heap.size X H/\Ϝ w H/\True):=⟨(Aq.refl _ _).grown S aa,⟨S.size,λk o hk h _=>(S.block k (Array.getElem?_eq_some_iff.1 h).1 (λe=>by cases e;omega)).trans h⟩,Y.grown S Y.size (λr e=>by cases e;omega),trivial⟩;have HJ:ϛ (GZ N L (0+i)/\Aq Fy V1 X):=⟨j1,P⟩;have HQ:ϛ (DR H (w.heap.size+1+1) (0+i+1) (sqT L (0+i)++[U])):=q0;clear hz hx hc an aa q0 j0 j1 P ar ab ag;by_cases h1:U<N
  ·by_cases h2:c=0
   ·subst h2;have z0:((0:Nat):Int)=0:=rfl;rw[z0]at ap;rw[z0,Int.zero_add]at aq ac bh
    gi_wp2
    have bg:sqT L (0+i+1)=sqT L (0+i)++[U]:=by rw[Kh T.o.1,<-T.o.2]
    have be:GZ N L (0+i+1):=Si T.o.1 HJ.o.1 (by rw[<-T.o.2];exact h1) (by rw[<-T.o.2];exact aj.o);exact⟨M.o.2.1,M.o.1,by rw[show 0+(i+1)=0+i+1 by omega];exact be,by rw[show 0+(i+1)=0+i+1 by omega,bg];exact HQ.o,HJ.o.2.trans M.o.1,df,M.o.2.2.1,M.o.2.2.2⟩
   ·have h3:(1:Int)<(c:Int)+1:=ϝ;have HE:ϛ (false=R):=by
     show _=_;rw[<-ak.o];exact(OT T.o.1 (by rw[<-T.o.2,aj.o];exact h2)).symm
    gi_wp2
    exact⟨M.o.2.1.trans ((KeepsOthers.setCell _ _ _).from _),rfl,HE.o,World.cell?_setCell_same _ _ _ d3,M.o.2.2.1.setCell ϣ _,trivial⟩
  ·have HE:ϛ (false=R):=by
    show _=_;rw[<-ak.o];exact(Sj T.o.1 (by rw[<-T.o.2];exact h1)).symm
   have h3:N<=U:=ϝ
   gi_wp2
   first
    |exact⟨M.o.2.1.trans ((KeepsOthers.setCell _ _ _).from _),rfl,HE.o,World.cell?_setCell_same _ _ _ d3,M.o.2.2.1.setCell ϣ _,trivial⟩
    |exact⟨by rw[<-G9];exact M.o.2.1.trans ((KeepsOthers.setCell _ _ _).from _),rfl,HE.o.symm,World.cell?_setCell_same _ _ _ d3,M.o.2.2.1.setCell ϣ _⟩
    |exact⟨by rw[<-G9];exact M.o.2.1.trans ((KeepsOthers.setCell _ _ _).from _),rfl,HE.o.symm,World.cell?_setCell_same _ _ _ d3,M.o.2.2.1.setCell ϣ _,trivial⟩
 ·rintro D1 H b7 ⟨j1,j0,P,j3,Y,_⟩ ai;rw[lMp,bm.o,Nat.zero_add]at j1 j0;have k3:=P.cell Af R3;have k4:=P.cell Af R4;have k5:=P.cell Af R5;have co:w.heap.size+1+1+1+1+1+1<H.heap.size:=bLt _ _ (P.cell Af G5);have J1:ϛ (GZ N L Q/\Aq Fy V1 H):=⟨j1,P⟩;have cd:=P.cell Af a5;have cf:=P.cell Af am;have cg:=P.cell Af a6;clear a0 G5 G6 G7 j1 P R3 R4 R5 a5 am a6
  gi_wp2
  rw[roundsIn_succ]
  gi_wp2_with (refine⟨trivial,rfl,?_⟩;gi_at_call 237;refine(callsIn_wide.2 (Ir _ _ _ rfl rfl rfl _)).mono ?_;rintro e w' ⟨rfl,rfl⟩)
  have ao:Ϝ H (ξ (ξ H (ν D g j m F E G) 36) (ν D g j m F E G) 36):=by repeat (first|exact bR|(refine Below.alloc ?_ Ϥ _))
  have b5:Δ (ξ (ξ H (ν D g j m F E G) 36) (ν D g j m F E G) 36) (w+1+1+1) 0 (.map (some (w.heap.size+1+1))):=cLz ao cd;have ay:Δ (ξ (ξ H (ν D g j m F E G) 36) (ν D g j m F E G) 36) (w+1) 0 (.bool false):=cLz ao cf;have b6:Δ (ξ (ξ H (ν D g j m F E G) 36) (ν D g j m F E G) 36) w 8 (vI N):=cLz ao cg;have bu:DR (ξ (ξ H (ν D g j m F E G) 36) (ν D g j m F E G) 36) (w.heap.size+1+1) Q (sqT L Q):=Ch j0 (by repeat (first|exact bR|(refine Below.alloc ?_ Ϥ _)));have bv:Ξ (ξ (ξ H (ν D g j m F E G) 36) (ν D g j m F E G) 36) (w+1) 0:=(ao.frozen (p:=⟨w+1,0,none⟩) ϣ).trans j3;have H5:Δ (ξ (ξ H (ν D g j m F E G) 36) (ν D g j m F E G) 36) (H+1) 0 (vI D):=ϡ;have H6:Δ (ξ (ξ H (ν D g j m F E G) 36) (ν D g j m F E G) 36) (H+1) 1 (vS g j m):=ϡ;have H7:Δ (ξ (ξ H (ν D g j m F E G) 36) (ν D g j m F E G) 36) (H+1) 2 (vS F E G):=ϡ;have bi:Ϝ w (ξ (ξ H (ν D g j m F E G) 36) (ν D g j m F E G) 36):=bT Y ao;have G9:((H.alloc (.cells (ν D g j m F E G) 36)).alloc (.cells (ν D g j m F E G) 36)).heap.size=H.heap.size+1+1:=ϟ;have bp:((H.alloc (.cells (ν D g j m F E G) 36)).alloc (.cells (ν D g j m F E G) 36)).heap[D1]? =some (.deferred (some [])):=by
   have:=(Array.getElem?_eq_some_iff.1 ai).1;rw[Below.heap_alloc _ _ _ Ϣ,Below.heap_alloc _ _ _ this];exact ai
  generalize ((H.alloc (.cells (ν D g j m F E G) 36)).alloc (.cells (ν D g j m F E G) 36))=V2 at *;have bb:=Gs bx.o bi (H.heap.size+1) Fy H5 H6 (by rw[b4.o];exact H7) Af (λ_ _=>Af) (λ_ _ _ _=>trivial) (λ_ _ _ _=>trivial);dsimp only at bb;have cn:=(Array.getElem?_eq_some_iff.1 bp).1;rw[a7]at bb;clear a7;refine Db (gf:=276) (lb:=#[.pointer (some ⟨H+1,0,none⟩)]) rfl (enters_of func276 Ϡ rfl) bb bR (λx hx=>by obtain⟨p,_,rfl⟩:=mem_map.1 hx;rfl) (λh k=>Aq.trans h k) (λW l o o' _ h ho=>Aq.put W l o o' h ho)
   (λi X=>GZ N L (Q+i)/\DR X (w.heap.size+1+1) (Q+i) (sqT L (Q+i))/\Aq Fy V2 X/\Ξ X (w+1) 0/\Ϝ w X/\X.heap[D1]? =some (.deferred (some []))) (λc X=>c= .ret/\false=R/\Δ X (w+1) 0 (.bool false)/\Ϝ w X/\X.heap[D1]? =some (.deferred (some [])))
   (λi X X' av J O I=>⟨J.1,Lc J.2.1 O (λe=>by have:=(I _ e.symm).1;omega),J.2.2.1.grown O (λr e=>(I r e).2),(frozen_kept (J.2.2.1.cell Af ay) O (λr e=>(I r e).2)).trans J.2.2.2.1,CU J.2.2.2.2.1 nR ϝ O I,(O.block D1 (Array.getElem?_eq_some_iff.1 J.2.2.2.2.2).1 (λe=>by have:=(I _ e.symm).1;omega)).trans J.2.2.2.2.2⟩)
   (λc X X' av J O I=>⟨J.1,J.2.1,cell_kept J.2.2.1 O (λr e=>(I r e).2),CU J.2.2.2.1 nR ϝ O I,(O.block D1 (Array.getElem?_eq_some_iff.1 J.2.2.2.2).1 (λe=>by have:=(I _ e.symm).1;omega)).trans J.2.2.2.2⟩)
   ⟨by rw[Nat.add_zero];exact J1.o.1,by rw[Nat.add_zero];exact bu,Aq.refl _ _,bv,bi,bp⟩
   (λi a' X=> ∃B,a'={tmps:=#[.agg #[vI q,vS b d f,vS A v C,vI D,vS g j m,vS F E G,vI Z,vI rm,vI N],.pointer (some ⟨w,0,none⟩),.pointer (some ⟨w+1,0,none⟩),.pointer (some ⟨w+1+1+1,0,none⟩),undef,.pointer (some ⟨H,0,none⟩),.pointer (some ⟨B,0,none⟩),.map (some (w.heap.size+1+1)),.pointer (some ⟨w,0,none⟩),.agg #[vI q,vS b d f,vS A v C],.pointer (some ⟨w,3,none⟩),.agg #[vI D,vS g j m,vS F E G],vS (some ⟨w+1+1+1+1,0,none⟩) 2 2,vI 2,vI 1,.bool true,.pointer (some ⟨w+1+1+1+1,3,none⟩),.agg #[vI D,vS g j m,vS F E G],.agg #[vI D,vS g j m,vS F E G],.func (.func 276) #[] #[.pointer (some ⟨H+1,0,none⟩)],(E2.getD i ϰ).val,undef,undef,undef,undef,undef,undef,undef,undef,undef,undef,undef,undef,undef,undef,undef,undef,undef,vI 1],defers:=[]}/\ώ X B (.string (E2.getD i ϰ).key) (vI (E2.getD i ϰ).time) (vI (E2.getD i ϰ).seq) (hdV (E2.getD i ϰ).row) (.bool (E2.getD i ϰ).met))
   (λi a' u X X' av J O I=>by
    obtain⟨B,h1,h2,h3,h4,h5,h6⟩:=J;exact⟨B,h1,cell_kept h2 O (λr e=>(I r e).2),cell_kept h3 O (λr e=>(I r e).2),cell_kept h4 O (λr e=>(I r e).2),cell_kept h5 O (λr e=>(I r e).2),cell_kept h6 O (λr e=>(I r e).2)⟩) ?_ ?_ ?_ ?_
  ·intro l' k z X K hx hi hK;obtain⟨hk,au⟩:=List.getElem?_eq_some_iff.1 hx;rw[lMp]at hk;rw[getElem_map]at au;subst au;have hd:E2.getD k ϰ=E2[k]:=by rw[gDe,gEe hk];rfl
   have V:=hK;rw[hd]at V;clear hK hd hx;obtain⟨⟨ek,et,U,⟨r1,r2,r3⟩,em⟩,hz⟩:∃z,E2[k]=z:=⟨_,rfl⟩;rw[hz]at V⊢;unfold EM.val hdV at V⊢;dsimp only at V⊢;obtain⟨j1,j0,P,j3,Y,j5⟩:=hi
   gi_wp2
   have lX:w.heap.size+1<X.heap.size:=bLt _ _ (P.cell Af ay);exact V _ _ ((KeepsOthers.alloc _ _).from _) (Aq.alloc _ _) ⟨j1,Ch j0 Ϩ,P.trans (Aq.alloc _ _),ϡ,Y.alloc Y.size _,(Below.heap_alloc _ _ _ (Array.getElem?_eq_some_iff.1 j5).1).trans j5⟩ ⟨X.heap.size,rfl,ϡ,ϡ,ϡ,ϡ,ϡ⟩
  ·intro l' i z a' X hx b9 cc a8 ae;obtain⟨j1,j0,P,j3,Y,j5⟩:=a8;obtain⟨B,ae,e0,e1,e2,e3,e4⟩:=ae;subst ae;obtain⟨hi,_⟩:=List.getElem?_eq_some_iff.1 hx;rw[lMp]at hi;obtain⟨ag,ab⟩:=bk.o i hi;have ar:=HW.o _ ag;obtain⟨⟨ek,et,U,⟨r1,r2,r3⟩,em⟩,hz⟩:∃z,E2.getD i ϰ=z:=⟨_,rfl⟩;rw[hz]at e0 e1 e2 e3 e4 ab⊢;dsimp only at e0 e1 e2 e3 e4 ab;have af:pl.i64 U:=by rw[ab];exact ar
   have c0:=P.cell Af b5;have c3:=P.cell Af ay;have c8:=P.cell Af b6;have lX:w.heap.size+1<X.heap.size:=bLt _ _ c3;have ap:=Ex j0 af;have ca:=Vg L (Q+i);obtain⟨H,aq,q0,S⟩:=MQ j0 af (by have:=ah.o;unfold maxLen;omega) (by have:=ah.o;omega);have ac:=Ex q0 af;rw[MR]at ac;have an:=JQ j0;have T:ϛ (Q+i<L.length/\U=(L.getD (Q+i) ϰ).seq):=⟨ag,ab⟩;have ba:=count_le_length (a:=U) (l:=sqT L (Q+i));obtain⟨c,hc⟩:=nM ((sqT L (Q+i)).count U);have aj:=hqz hc;rw[hc]at ap aq ac ba;have bh:IntKind.i64.wrap ((c:Int)+1)=(c:Int)+1:=by rw[IntKind.wrap_i64];have:=ah.o;omega
   rw[Int.natCast_add,show((1:Nat):Int)=1 from rfl]at ac;have aa:∀r,(some (w.heap.size+1+1):Option Nat)=some r->∃o:Obj,X.heap[r]? =some o/\o.isCells=false:=λr e=>by cases e;exact an
   have d0:=cell_kept c0 S aa;have d3:=cell_kept c3 S aa;have d8:=cell_kept c8 S aa;have d2:=cell_kept e2 S aa;have df:=(frozen_kept c3 S aa).trans j3;have M:ϛ (Aq Fy X H/\KeepsFrom V2.heap.size X H/\Ϝ w H/\H.heap[D1]? =some (.deferred (some []))):=⟨(Aq.refl _ _).grown S aa,⟨S.size,λk o hk h _=>(S.block k (Array.getElem?_eq_some_iff.1 h).1 (λe=>by cases e;omega)).trans h⟩,Y.grown S Y.size (λr e=>by cases e;omega),(S.block D1 (Array.getElem?_eq_some_iff.1 j5).1 (λe=>by cases e;omega)).trans j5⟩;have HJ:ϛ (GZ N L (Q+i)/\Aq Fy V2 X):=⟨j1,P⟩;have HQ:ϛ (DR H (w.heap.size+1+1) (Q+i+1) (sqT L (Q+i)++[U])):=q0;clear hz hx hc an aa q0 j0 j1 P ar ab ag;by_cases h1:U<N
   ·by_cases h2:c=0
    ·subst h2;have z0:((0:Nat):Int)=0:=rfl;rw[z0]at ap;rw[z0,Int.zero_add]at aq ac bh
     gi_wp2
     have bg:sqT L (Q+i+1)=sqT L (Q+i)++[U]:=by rw[Kh T.o.1,<-T.o.2]
     have be:GZ N L (Q+i+1):=Si T.o.1 HJ.o.1 (by rw[<-T.o.2];exact h1) (by rw[<-T.o.2];exact aj.o);exact⟨M.o.2.1,M.o.1,by rw[show Q+(i+1)=Q+i+1 by omega];exact be,by rw[show Q+(i+1)=Q+i+1 by omega,bg];exact HQ.o,HJ.o.2.trans M.o.1,df,M.o.2.2.1,M.o.2.2.2⟩
    ·have h3:(1:Int)<(c:Int)+1:=ϝ;have HE:ϛ (false=R):=by
      show _=_;rw[<-ak.o];exact(OT T.o.1 (by rw[<-T.o.2,aj.o];exact h2)).symm
     gi_wp2
     exact⟨M.o.2.1.trans ((KeepsOthers.setCell _ _ _).from _),rfl,HE.o,World.cell?_setCell_same _ _ _ d3,M.o.2.2.1.setCell ϣ _,(heap_setCell_other _ _ _ _ ϣ).trans M.o.2.2.2⟩
   ·have HE:ϛ (false=R):=by
     show _=_;rw[<-ak.o];exact(Sj T.o.1 (by rw[<-T.o.2];exact h1)).symm
    have h3:N<=U:=ϝ
    gi_wp2
    first
     |exact⟨M.o.2.1.trans ((KeepsOthers.setCell _ _ _).from _),rfl,HE.o,World.cell?_setCell_same _ _ _ d3,M.o.2.2.1.setCell ϣ _,(heap_setCell_other _ _ _ _ ϣ).trans M.o.2.2.2⟩
     |exact⟨by rw[<-G9];exact M.o.2.1.trans ((KeepsOthers.setCell _ _ _).from _),rfl,HE.o.symm,World.cell?_setCell_same _ _ _ d3,M.o.2.2.1.setCell ϣ _⟩
     |exact⟨by rw[<-G9];exact M.o.2.1.trans ((KeepsOthers.setCell _ _ _).from _),rfl,HE.o.symm,World.cell?_setCell_same _ _ _ d3,M.o.2.2.1.setCell ϣ _,(heap_setCell_other _ _ _ _ ϣ).trans M.o.2.2.2⟩
  ·rintro D2 X2 b8 ⟨bq,cl,ci,cm,cj,ck⟩ V;have c3:=ci.cell Af ay;have HE:ϛ (true=R):=by
    show _=_;rw[<-ak.o]
    symm
    refine Ack ?_;rw[lMp,bn.o,<-bz.o]at bq;exact bq
   gi_wp2
   rw[roundsIn_succ]
   gi_wp2
   have a9:(X2.setCell ⟨w+1,0,none⟩ (.bool true)).heap[D2]? =some (.deferred (some [])):=(heap_setCell_other _ _ _ _ ϣ).trans V;refine⟨ϟ,.inl ⟨_,_,rfl,run_takeDeferred a9,?_⟩⟩;have ad:((X2.setCell ⟨w+1,0,none⟩ (.bool true)).putObj D2 (.deferred none)).heap[D1]? =some (.deferred (some [])):=(World.putObj_heap_other ϝ).trans ((heap_setCell_other _ _ _ _ ϣ).trans ck);refine⟨ϟ,.inl ⟨_,_,rfl,run_takeDeferred ad,?_⟩⟩;have y3:=Cu (Cu (World.cell?_setCell_same _ _ (.bool true) c3) a9 rfl (.deferred none)) ad rfl (.deferred none);exact⟨.bool true,(by simp[results,results170,go_sem,y3]),Aa HE.o,Cq (Cq (cj.setCell ϣ _) ϝ a9 _) ϝ ad _⟩
  ·rintro D2 c X2 b8 ⟨rfl,hE,c3,Y,j5⟩ V
   gi_wp2
   refine⟨ϟ,.inl ⟨_,_,rfl,run_takeDeferred V,?_⟩⟩;have ad:(X2.putObj D2 (.deferred none)).heap[D1]? =some (.deferred (some [])):=(World.putObj_heap_other ϝ).trans j5;refine⟨ϟ,.inl ⟨_,_,rfl,run_takeDeferred ad,?_⟩⟩;have y3:=Cu (Cu c3 V rfl (.deferred none)) ad rfl (.deferred none);exact⟨.bool false,(by simp[results,results170,go_sem,y3]),Aa hE,Cq (Cq Y ϝ V _) ϝ ad _⟩
 ·rintro D1 c H b7 ⟨rfl,hE,c3,Y,j5⟩ ai
  gi_wp2
  refine⟨ϟ,.inl ⟨_,_,rfl,run_takeDeferred ai,?_⟩⟩;have y3:=Cu c3 ai rfl (.deferred none);exact⟨.bool false,(by simp[results,results170,go_sem,y3]),Aa hE,Cq Y ϝ ai _⟩
end jn
end Go.Proofs.YtfkihidbnfkbaaaGreatDoor
