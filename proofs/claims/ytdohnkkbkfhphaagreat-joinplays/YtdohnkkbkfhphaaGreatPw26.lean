import Derived.Test.YtdohnkkbkfhphaaGreatPw18
set_option linter.all false
set_option maxHeartbeats 8000000
set_option maxRecDepth 100000
open Go.ChangeShapes Go.WideShapes Go.ChangeAt Go.RowKit Go.Shelf Go.Maps List
open Inhabited renaming default->ϰ
namespace Go.Proofs.YtdohnkkbkfhphaaGreat
open Go.Proofs.Tryz
namespace jn
open vl bf
attribute [local go_sem] Oper.semAt_some
variable {l : List Ent} {t : Nat} {n : Int}
def Hq(n:Int)(l:List Ent)(t:Nat):Prop:=EC n (l.take t)
def sqT(l:List Ent)(t:Nat):List Int:=(l.take t).map (·.seq)
theorem JN(h:t<l.length):sqT l (t+1)=sqT l t++[(l.getD t ϰ).seq]:=by
 unfold sqT;rw[take_succ_eq_append_getElem h,map_append,gDe,gEe h];rfl
theorem Vr(l:List Ent)(t:Nat):(sqT l t).length<=l.length:=by unfold sqT;rw[lMp,length_take];omega
theorem Rr(h:t<l.length)(h1:Hq n l t)(g:(l.getD t ϰ).seq<n)(i:(sqT l t).count (l.getD t ϰ).seq=0):Hq n l (t+1):=by
 obtain⟨j,k⟩:=h1;have e:l.take (t+1)=l.take t++[l.getD t ϰ]:=by rw[take_succ_eq_append_getElem h,gDe,gEe h];rfl
 unfold Hq EC;rw[e];refine⟨λy c=>?_,?_⟩
 ·rcases mem_append.1 c with c|c
  ·exact j y c
  ·rw[mem_singleton.1 c];exact g
 ·rw[map_append];refine nodup_append.2 ⟨k,ϡ,λa ha b d=>?_⟩;have d:b=(l.getD t ϰ).seq:=by simpa using d
  subst d;intro f;subst f;exact absurd i (by have:=count_pos_iff.2 ha;unfold sqT;omega)
theorem Rs(h:t<l.length)(a:¬(l.getD t ϰ).seq<n):decide (EC n l)=false:=by
 refine decide_eq_false λk=>a (k.1 _ ?_);rw[gDe,gEe h];simp
theorem OM(h:t<l.length)(c:(sqT l t).count (l.getD t ϰ).seq≠0):decide (EC n l)=false:=by
 refine decide_eq_false λk=>?_;have a:=k.2;have e:l.map (·.seq)=sqT l (t+1)++(l.drop (t+1)).map (·.seq):=by unfold sqT;rw[<-map_append,take_append_drop]
 rw[e,JN h]at a;have b:(l.getD t ϰ).seq∈sqT l t:=count_pos_iff.1 ϟ;exact(nodup_append.1 (nodup_append.1 a).1).2.2 _ b _ (mem_singleton.2 rfl) rfl
theorem AaZ(h:Hq n l l.length):decide (EC n l)=true:=by
 unfold Hq at h;rw[take_length]at h;exact decide_eq_true h
theorem Oo(s:Jn)(y:JX)(w:ϛ)(h:joinAt w s y)(hw:∀z∈Aa s.L++Aa s.R,pl.i64 z.seq)(hl:(Aa s.L).length<=100000)(I:(Aa s.R).length<=100000):
 η 78 #[joinV s y] w (θ w (.bool (Ji s))):=by
 have bw:ϝ (bufAt w s.L y.l):=h.l;have bx:ϝ (bufAt w s.R y.r):=h.r;have aw:=Ek h.l;have ax:=Ek h.r;unfold Ji;obtain⟨L,hL⟩:=nM (Aa s.L++Aa s.R);obtain⟨Q,a4⟩:=nM ((Aa s.L).length);have HW:ϝ (∀t,t<L.length->pl.i64 (L.getD t ϰ).seq):=λt ht=>by
  rw[hL]at hw;exact hw _ (by rw[gDe,gEe ht];simp)
 have ah:ϝ (L.length<=200000):=by
  show _<=_;rw[<-hL,lAp];omega
 have bz:ϝ (L.length=Q+(Aa s.R).length):=by show _=_;rw[<-hL,lAp,a4]
 have bj:ϝ (∀i,i<(ems (y.l.m::y.l.rs)).length->0+i<L.length/\((ems (y.l.m::y.l.rs)).getD i ϰ).seq=(L.getD (0+i) ϰ).seq):=λi hi=>by
  have az:i<(Aa s.L).length:=by rw[<-aw.1];exact hi
  refine⟨by rw[<-hL,lAp];omega,?_⟩;rw[(aw.2 i az).seq,<-hL,Nat.zero_add,AS az]
 have bk:ϝ (∀i,i<(ems (y.r.m::y.r.rs)).length->Q+i<L.length/\((ems (y.r.m::y.r.rs)).getD i ϰ).seq=(L.getD (Q+i) ϰ).seq):=λi hi=>by
  have az:i<(Aa s.R).length:=by rw[<-ax.1];exact hi
  refine⟨by rw[<-hL,lAp];omega,?_⟩;rw[(ax.2 i az).seq,<-hL,AH ϟ,a4,Nat.add_sub_cancel_left]
 have bm:ϝ ((ems (y.l.m::y.l.rs)).length=Q):=by show _=_;rw[aw.1,a4]
 have bn:ϝ ((ems (y.r.m::y.r.rs)).length=(Aa s.R).length):=ax.1;rw[hL];obtain⟨R,hR⟩:=nM (decide (EC s.seq L));have ak:=hV0 hR;rw[hR];clear hR hL hw hl I h aw ax a4;obtain⟨⟨A,C,⟨⟨b,d,f⟩,al⟩,br⟩,⟨F,G,⟨⟨g,j,m⟩,bl⟩,bs⟩⟩:=y;obtain⟨⟨q,cp,cq⟩,⟨D,cr,cs⟩,Z,rm,N⟩:=s;rw[A0];dsimp only at *;obtain⟨v,bc⟩:∃n,br.length=n:=⟨_,rfl⟩;have b0:=hV0 bc;obtain⟨E,bd⟩:∃n,bs.length=n:=⟨_,rfl⟩;have b4:=hV0 bd;rw[bc,bd];clear bc bd;have cb:=@run_makeMap Tryz.prog;refine(callsIn_wide (n:=0)).1 ?_;refine callsIn_of_wp_marks func78 rfl trivial ?_ rfl;simp only[ntmps78,size_toArray,length_cons,length_nil,Nat.reduceAdd,Nat.reduceSub,Array.replicate_succ,Array.replicate_zero,push_toArray,append_toArray,nil_append,cons_append]
 gi_wp2
 refine wpIn_loop_rounds 3 ?_;rw[roundsIn_succ]
 gi_wp2_with (refine⟨trivial,rfl,?_⟩;gi_at_call 113;refine(callsIn_wide.2 (II _ _ _ rfl rfl rfl _)).mono ?_;rintro e w' ⟨rfl,rfl⟩)
 have a5:Δ (ξ (ξ (ξ (ξ (((w.alloc (.cells #[vI q,vS b d f,vS A v C,vI D,vS g j m,vS F E G,vI Z,vI rm,vI N] 31)).alloc (.cells #[ϋ] 4)).alloc (.map #[] 0)) #[.map (some (w.heap.size+1+1))] 187) #[vI q,vS b d f,vS A v C,vI D,vS g j m,vS F E G] 29) (ν q b d f A v C) 29) (ν q b d f A v C) 29) (w+1+1+1) 0 (.map (some (w.heap.size+1+1))):=ϣ;have G2:Eu (ξ (ξ (ξ (ξ (((w.alloc (.cells #[vI q,vS b d f,vS A v C,vI D,vS g j m,vS F E G,vI Z,vI rm,vI N] 31)).alloc (.cells #[ϋ] 4)).alloc (.map #[] 0)) #[.map (some (w.heap.size+1+1))] 187) #[vI q,vS b d f,vS A v C,vI D,vS g j m,vS F E G] 29) (ν q b d f A v C) 29) (ν q b d f A v C) 29) (w.heap.size+1+1) 0 []:=by
  have h:=Rx (ξ (ξ w #[vI q,vS b d f,vS A v C,vI D,vS g j m,vS F E G,vI Z,vI rm,vI N] 31) #[ϋ] 4);rw[World.size_alloc,World.size_alloc]at h;exact CF h (by repeat (first|exact bR|(refine Below.alloc ?_ Ϧ _)))
 have am:Δ (ξ (ξ (ξ (ξ (((w.alloc (.cells #[vI q,vS b d f,vS A v C,vI D,vS g j m,vS F E G,vI Z,vI rm,vI N] 31)).alloc (.cells #[ϋ] 4)).alloc (.map #[] 0)) #[.map (some (w.heap.size+1+1))] 187) #[vI q,vS b d f,vS A v C,vI D,vS g j m,vS F E G] 29) (ν q b d f A v C) 29) (ν q b d f A v C) 29) (w+1) 0 (.bool false):=ϣ;have G4:Ξ (ξ (ξ (ξ (ξ (((w.alloc (.cells #[vI q,vS b d f,vS A v C,vI D,vS g j m,vS F E G,vI Z,vI rm,vI N] 31)).alloc (.cells #[ϋ] 4)).alloc (.map #[] 0)) #[.map (some (w.heap.size+1+1))] 187) #[vI q,vS b d f,vS A v C,vI D,vS g j m,vS F E G] 29) (ν q b d f A v C) 29) (ν q b d f A v C) 29) (w+1) 0:=ϣ;have a6:Δ (ξ (ξ (ξ (ξ (((w.alloc (.cells #[vI q,vS b d f,vS A v C,vI D,vS g j m,vS F E G,vI Z,vI rm,vI N] 31)).alloc (.cells #[ϋ] 4)).alloc (.map #[] 0)) #[.map (some (w.heap.size+1+1))] 187) #[vI q,vS b d f,vS A v C,vI D,vS g j m,vS F E G] 29) (ν q b d f A v C) 29) (ν q b d f A v C) 29) w 8 (vI N):=ϣ;have G5:Δ (ξ (ξ (ξ (ξ (((w.alloc (.cells #[vI q,vS b d f,vS A v C,vI D,vS g j m,vS F E G,vI Z,vI rm,vI N] 31)).alloc (.cells #[ϋ] 4)).alloc (.map #[] 0)) #[.map (some (w.heap.size+1+1))] 187) #[vI q,vS b d f,vS A v C,vI D,vS g j m,vS F E G] 29) (ν q b d f A v C) 29) (ν q b d f A v C) 29) (w+1+1+1+1+1+1) 0 (vI q):=ϣ;have G6:Δ (ξ (ξ (ξ (ξ (((w.alloc (.cells #[vI q,vS b d f,vS A v C,vI D,vS g j m,vS F E G,vI Z,vI rm,vI N] 31)).alloc (.cells #[ϋ] 4)).alloc (.map #[] 0)) #[.map (some (w.heap.size+1+1))] 187) #[vI q,vS b d f,vS A v C,vI D,vS g j m,vS F E G] 29) (ν q b d f A v C) 29) (ν q b d f A v C) 29) (w+1+1+1+1+1+1) 1 (vS b d f):=ϣ
 have G7:Δ (ξ (ξ (ξ (ξ (((w.alloc (.cells #[vI q,vS b d f,vS A v C,vI D,vS g j m,vS F E G,vI Z,vI rm,vI N] 31)).alloc (.cells #[ϋ] 4)).alloc (.map #[] 0)) #[.map (some (w.heap.size+1+1))] 187) #[vI q,vS b d f,vS A v C,vI D,vS g j m,vS F E G] 29) (ν q b d f A v C) 29) (ν q b d f A v C) 29) (w+1+1+1+1+1+1) 2 (vS A v C):=ϣ;have R3:Δ (ξ (ξ (ξ (ξ (((w.alloc (.cells #[vI q,vS b d f,vS A v C,vI D,vS g j m,vS F E G,vI Z,vI rm,vI N] 31)).alloc (.cells #[ϋ] 4)).alloc (.map #[] 0)) #[.map (some (w.heap.size+1+1))] 187) #[vI q,vS b d f,vS A v C,vI D,vS g j m,vS F E G] 29) (ν q b d f A v C) 29) (ν q b d f A v C) 29) (w+1+1+1+1) 3 (vI D):=ϣ;have R4:Δ (ξ (ξ (ξ (ξ (((w.alloc (.cells #[vI q,vS b d f,vS A v C,vI D,vS g j m,vS F E G,vI Z,vI rm,vI N] 31)).alloc (.cells #[ϋ] 4)).alloc (.map #[] 0)) #[.map (some (w.heap.size+1+1))] 187) #[vI q,vS b d f,vS A v C,vI D,vS g j m,vS F E G] 29) (ν q b d f A v C) 29) (ν q b d f A v C) 29) (w+1+1+1+1) 4 (vS g j m):=ϣ;have R5:Δ (ξ (ξ (ξ (ξ (((w.alloc (.cells #[vI q,vS b d f,vS A v C,vI D,vS g j m,vS F E G,vI Z,vI rm,vI N] 31)).alloc (.cells #[ϋ] 4)).alloc (.map #[] 0)) #[.map (some (w.heap.size+1+1))] 187) #[vI q,vS b d f,vS A v C,vI D,vS g j m,vS F E G] 29) (ν q b d f A v C) 29) (ν q b d f A v C) 29) (w+1+1+1+1) 5 (vS F E G):=ϣ;have G8:Ϟ w (ξ (ξ (ξ (ξ (((w.alloc (.cells #[vI q,vS b d f,vS A v C,vI D,vS g j m,vS F E G,vI Z,vI rm,vI N] 31)).alloc (.cells #[ϋ] 4)).alloc (.map #[] 0)) #[.map (some (w.heap.size+1+1))] 187) #[vI q,vS b d f,vS A v C,vI D,vS g j m,vS F E G] 29) (ν q b d f A v C) 29) (ν q b d f A v C) 29):=by
  repeat (first|exact bR|(refine Below.alloc ?_ Ϧ _))
 have G9:(((((((w.alloc (.cells #[vI q,vS b d f,vS A v C,vI D,vS g j m,vS F E G,vI Z,vI rm,vI N] 31)).alloc (.cells #[ϋ] 4)).alloc (.map #[] 0)).alloc (.cells #[.map (some (w.heap.size+1+1))] 187)).alloc (.cells #[vI q,vS b d f,vS A v C,vI D,vS g j m,vS F E G] 29)).alloc (.cells (ν q b d f A v C) 29)).alloc (.cells (ν q b d f A v C) 29)).heap.size=w.heap.size+1+1+1+1+1+1+1:=ϡ;generalize (((((((w.alloc (.cells #[vI q,vS b d f,vS A v C,vI D,vS g j m,vS F E G,vI Z,vI rm,vI N] 31)).alloc (.cells #[ϋ] 4)).alloc (.map #[] 0)).alloc (.cells #[.map (some (w.heap.size+1+1))] 187)).alloc (.cells #[vI q,vS b d f,vS A v C,vI D,vS g j m,vS F E G] 29)).alloc (.cells (ν q b d f A v C) 29)).alloc (.cells (ν q b d f A v C) 29))=V1 at *;have a0:=GP bw.o G8 (w.heap.size+1+1+1+1+1+1) FX G5 G6 (by rw[b0.o];exact G7) Am (λ_ _=>Am) (λ_ _ _ _=>trivial) (λ_ _ _ _=>trivial);dsimp only at a0;obtain⟨E1,bo⟩:=nM (ems ((((b,d,f):Hdr),al)::br));rw[bo]at a0 bj bm;obtain⟨E2,a7⟩:=nM (ems ((((g,j,m):Hdr),bl)::bs));rw[a7]at bk bn;clear bo cb;refine D6 (gf:=161) (lb:=#[.pointer (some ⟨w+1+1+1+1+1+1,0,none⟩)]) rfl (enters_of func161 Ϣ rfl) a0 bR (λx hx=>by obtain⟨p,_,rfl⟩:=mem_map.1 hx;rfl) (λh k=>KeepO.trans h k) (λW l o o' _ h ho=>KeepO.put W l o o' h ho)
  (λi X=>Hq N L (0+i)/\Eu X (w.heap.size+1+1) (0+i) (sqT L (0+i))/\KeepO FX V1 X/\Ξ X (w+1) 0/\Ϟ w X/\True) (λc X=>c= .ret/\false=R/\Δ X (w+1) 0 (.bool false)/\Ϟ w X/\True)
  (λi X X' av J O I=>⟨J.1,Ln J.2.1 O (λe=>by have:=(I _ e.symm).1;omega),J.2.2.1.grown O (λr e=>(I r e).2),(frozen_kept (J.2.2.1.cell Am am) O (λr e=>(I r e).2)).trans J.2.2.2.1,Di J.2.2.2.2.1 nR ϟ O I,trivial⟩)
  (λc X X' av J O I=>⟨J.1,J.2.1,cell_kept J.2.2.1 O (λr e=>(I r e).2),Di J.2.2.2.1 nR ϟ O I,trivial⟩)
  ⟨⟨λy hy=>absurd hy not_mem_nil,nodup_nil⟩,G2,KeepO.refl _ _,G4,G8,trivial⟩
  (λi a' X=> ∃B,a'={tmps:=#[.agg #[vI q,vS b d f,vS A v C,vI D,vS g j m,vS F E G,vI Z,vI rm,vI N],.pointer (some ⟨w,0,none⟩),.pointer (some ⟨w+1,0,none⟩),.pointer (some ⟨w+1+1+1,0,none⟩),undef,.pointer (some ⟨w+1+1+1+1+1,0,none⟩),.pointer (some ⟨B,0,none⟩),.map (some (w.heap.size+1+1)),.pointer (some ⟨w,0,none⟩),.agg #[vI q,vS b d f,vS A v C],.pointer (some ⟨w,3,none⟩),.agg #[vI D,vS g j m,vS F E G],vS (some ⟨w+1+1+1+1,0,none⟩) 2 2,vI 2,vI 0,.bool true,.pointer (some ⟨w+1+1+1+1,0,none⟩),.agg #[vI q,vS b d f,vS A v C],.agg #[vI q,vS b d f,vS A v C],.func (.func 161) #[] #[.pointer (some ⟨w+1+1+1+1+1+1,0,none⟩)],(E1.getD i ϰ).val,undef,undef,undef,undef,undef,undef,undef,undef,undef,undef,undef,undef,undef,undef,undef,undef,undef,undef],defers:=[]}/\Ϗ X B (.string (E1.getD i ϰ).key) (vI (E1.getD i ϰ).time) (vI (E1.getD i ϰ).seq) (hdV (E1.getD i ϰ).row) (.bool (E1.getD i ϰ).met))
  (λi a' u X X' av J O I=>by
   obtain⟨B,h1,h2,h3,h4,h5,h6⟩:=J;exact⟨B,h1,cell_kept h2 O (λr e=>(I r e).2),cell_kept h3 O (λr e=>(I r e).2),cell_kept h4 O (λr e=>(I r e).2),cell_kept h5 O (λr e=>(I r e).2),cell_kept h6 O (λr e=>(I r e).2)⟩) ?_ ?_ ?_ ?_
 ·intro l' k z X K hx hi hK;obtain⟨hk,au⟩:=List.getElem?_eq_some_iff.1 hx;rw[lMp]at hk;rw[getElem_map]at au;subst au;have hd:E1.getD k ϰ=E1[k]:=by rw[gDe,gEe hk];rfl
  have V:=hK;rw[hd]at V;clear hK hd hx;obtain⟨⟨ek,et,U,⟨r1,r2,r3⟩,em⟩,hz⟩:∃z,E1[k]=z:=⟨_,rfl⟩;rw[hz]at V⊢;unfold EM.val hdV at V⊢;dsimp only at V⊢;obtain⟨j1,j0,P,j3,Y,j5⟩:=hi
  gi_wp2
  have lX:w.heap.size+1<X.heap.size:=bLt _ _ (P.cell Am am);exact V _ _ ((KeepsOthers.alloc _ _).from _) (KeepO.alloc _ _) ⟨j1,CF j0 Ϫ,P.trans (KeepO.alloc _ _),ϣ,Y.alloc Y.size _,trivial⟩ ⟨X.heap.size,rfl,ϣ,ϣ,ϣ,ϣ,ϣ⟩
 ·intro l' i z a' X hx b9 cc a8 ae;obtain⟨j1,j0,P,j3,Y,j5⟩:=a8;obtain⟨B,ae,e0,e1,e2,e3,e4⟩:=ae;subst ae;obtain⟨hi,_⟩:=List.getElem?_eq_some_iff.1 hx;rw[lMp]at hi;obtain⟨ag,ab⟩:=bj.o i hi;have ar:=HW.o _ ag;obtain⟨⟨ek,et,U,⟨r1,r2,r3⟩,em⟩,hz⟩:∃z,E1.getD i ϰ=z:=⟨_,rfl⟩;rw[hz]at e0 e1 e2 e3 e4 ab⊢;dsimp only at e0 e1 e2 e3 e4 ab;have af:pl.i64 U:=by rw[ab];exact ar
  have c0:=P.cell Am a5;have c3:=P.cell Am am;have c8:=P.cell Am a6;have lX:w.heap.size+1<X.heap.size:=bLt _ _ c3;have ap:=ED j0 af;have ca:=Vr L (0+i);obtain⟨H,aq,q0,S⟩:=MQ j0 af (by have:=ah.o;unfold maxLen;omega) (by have:=ah.o;omega);have ac:=ED q0 af;rw[MR]at ac;have an:=JP j0;have T:ϝ (0+i<L.length/\U=(L.getD (0+i) ϰ).seq):=⟨ag,ab⟩;have ba:=count_le_length (a:=U) (l:=sqT L (0+i));obtain⟨c,hc⟩:=nM ((sqT L (0+i)).count U);have aj:=hV0 hc;rw[hc]at ap aq ac ba;have bh:IntKind.i64.wrap ((c:Int)+1)=(c:Int)+1:=by rw[IntKind.wrap_i64];have:=ah.o;omega
  rw[Int.natCast_add,show((1:Nat):Int)=1 from rfl]at ac;have aa:∀r,(some (w.heap.size+1+1):Option Nat)=some r->∃o:Obj,X.heap[r]? =some o/\o.isCells=false:=λr e=>by cases e;exact an
  have d0:=cell_kept c0 S aa;have d3:=cell_kept c3 S aa;have d8:=cell_kept c8 S aa;have d2:=cell_kept e2 S aa;have df:=(frozen_kept c3 S aa).trans j3;have M:ϝ (KeepO FX X H/\KeepsFrom V1.heap.size X H/\Ϟ w H/\True):=⟨(KeepO.refl _ _).grown S aa,⟨S.size,λk o hk h _=>(S.block k (Array.getElem?_eq_some_iff.1 h).1 (λe=>by cases e;omega)).trans h⟩,Y.grown S Y.size (λr e=>by cases e;omega),trivial⟩;have HJ:ϝ (Hq N L (0+i)/\KeepO FX V1 X):=⟨j1,P⟩;have HQ:ϝ (Eu H (w.heap.size+1+1) (0+i+1) (sqT L (0+i)++[U])):=q0;clear hz hx hc an aa q0 j0 j1 P ar ab ag;by_cases h1:U<N
  ·by_cases h2:c=0
   ·subst h2;have z0:((0:Nat):Int)=0:=rfl;rw[z0]at ap;rw[z0,Int.zero_add]at aq ac bh
    gi_wp2
    have bg:sqT L (0+i+1)=sqT L (0+i)++[U]:=by rw[JN T.o.1,<-T.o.2]
    have be:Hq N L (0+i+1):=Rr T.o.1 HJ.o.1 (by rw[<-T.o.2];exact h1) (by rw[<-T.o.2];exact aj.o);exact⟨M.o.2.1,M.o.1,by rw[show 0+(i+1)=0+i+1 by omega];exact be,by rw[show 0+(i+1)=0+i+1 by omega,bg];exact HQ.o,HJ.o.2.trans M.o.1,df,M.o.2.2.1,M.o.2.2.2⟩
   ·have h3:(1:Int)<(c:Int)+1:=ϟ;have HE:ϝ (false=R):=by
     show _=_;rw[<-ak.o];exact(OM T.o.1 (by rw[<-T.o.2,aj.o];exact h2)).symm
    gi_wp2
    exact⟨M.o.2.1.trans ((KeepsOthers.setCell _ _ _).from _),rfl,HE.o,World.cell?_setCell_same _ _ _ d3,M.o.2.2.1.setCell ϥ _,trivial⟩
  ·have HE:ϝ (false=R):=by
    show _=_;rw[<-ak.o];exact(Rs T.o.1 (by rw[<-T.o.2];exact h1)).symm
   have h3:N<=U:=ϟ
   gi_wp2
   first
    |exact⟨M.o.2.1.trans ((KeepsOthers.setCell _ _ _).from _),rfl,HE.o,World.cell?_setCell_same _ _ _ d3,M.o.2.2.1.setCell ϥ _,trivial⟩
    |exact⟨by rw[<-G9];exact M.o.2.1.trans ((KeepsOthers.setCell _ _ _).from _),rfl,HE.o.symm,World.cell?_setCell_same _ _ _ d3,M.o.2.2.1.setCell ϥ _⟩
    |exact⟨by rw[<-G9];exact M.o.2.1.trans ((KeepsOthers.setCell _ _ _).from _),rfl,HE.o.symm,World.cell?_setCell_same _ _ _ d3,M.o.2.2.1.setCell ϥ _,trivial⟩
 ·rintro D1 H b7 ⟨j1,j0,P,j3,Y,_⟩ ai;rw[lMp,bm.o,Nat.zero_add]at j1 j0;have k3:=P.cell Am R3;have k4:=P.cell Am R4;have k5:=P.cell Am R5;have co:w.heap.size+1+1+1+1+1+1<H.heap.size:=bLt _ _ (P.cell Am G5);have J1:ϝ (Hq N L Q/\KeepO FX V1 H):=⟨j1,P⟩;have cd:=P.cell Am a5;have cf:=P.cell Am am;have cg:=P.cell Am a6;clear a0 G5 G6 G7 j1 P R3 R4 R5 a5 am a6
  gi_wp2
  rw[roundsIn_succ]
  gi_wp2_with (refine⟨trivial,rfl,?_⟩;gi_at_call 113;refine(callsIn_wide.2 (II _ _ _ rfl rfl rfl _)).mono ?_;rintro e w' ⟨rfl,rfl⟩)
  have ao:Ϟ H (ξ (ξ H (ν D g j m F E G) 29) (ν D g j m F E G) 29):=by repeat (first|exact bR|(refine Below.alloc ?_ Ϧ _))
  have b5:Δ (ξ (ξ H (ν D g j m F E G) 29) (ν D g j m F E G) 29) (w+1+1+1) 0 (.map (some (w.heap.size+1+1))):=cLz ao cd;have ay:Δ (ξ (ξ H (ν D g j m F E G) 29) (ν D g j m F E G) 29) (w+1) 0 (.bool false):=cLz ao cf;have b6:Δ (ξ (ξ H (ν D g j m F E G) 29) (ν D g j m F E G) 29) w 8 (vI N):=cLz ao cg;have bu:Eu (ξ (ξ H (ν D g j m F E G) 29) (ν D g j m F E G) 29) (w.heap.size+1+1) Q (sqT L Q):=CF j0 (by repeat (first|exact bR|(refine Below.alloc ?_ Ϧ _)));have bv:Ξ (ξ (ξ H (ν D g j m F E G) 29) (ν D g j m F E G) 29) (w+1) 0:=(ao.frozen (p:=⟨w+1,0,none⟩) ϥ).trans j3;have H5:Δ (ξ (ξ H (ν D g j m F E G) 29) (ν D g j m F E G) 29) (H+1) 0 (vI D):=ϣ;have H6:Δ (ξ (ξ H (ν D g j m F E G) 29) (ν D g j m F E G) 29) (H+1) 1 (vS g j m):=ϣ;have H7:Δ (ξ (ξ H (ν D g j m F E G) 29) (ν D g j m F E G) 29) (H+1) 2 (vS F E G):=ϣ;have bi:Ϟ w (ξ (ξ H (ν D g j m F E G) 29) (ν D g j m F E G) 29):=bT Y ao;have G9:((H.alloc (.cells (ν D g j m F E G) 29)).alloc (.cells (ν D g j m F E G) 29)).heap.size=H.heap.size+1+1:=ϡ;have bp:((H.alloc (.cells (ν D g j m F E G) 29)).alloc (.cells (ν D g j m F E G) 29)).heap[D1]? =some (.deferred (some [])):=by
   have:=(Array.getElem?_eq_some_iff.1 ai).1;rw[Below.heap_alloc _ _ _ Ϥ,Below.heap_alloc _ _ _ this];exact ai
  generalize ((H.alloc (.cells (ν D g j m F E G) 29)).alloc (.cells (ν D g j m F E G) 29))=V2 at *;have bb:=GP bx.o bi (H.heap.size+1) FX H5 H6 (by rw[b4.o];exact H7) Am (λ_ _=>Am) (λ_ _ _ _=>trivial) (λ_ _ _ _=>trivial);dsimp only at bb;have cn:=(Array.getElem?_eq_some_iff.1 bp).1;rw[a7]at bb;clear a7;refine D6 (gf:=161) (lb:=#[.pointer (some ⟨H+1,0,none⟩)]) rfl (enters_of func161 Ϣ rfl) bb bR (λx hx=>by obtain⟨p,_,rfl⟩:=mem_map.1 hx;rfl) (λh k=>KeepO.trans h k) (λW l o o' _ h ho=>KeepO.put W l o o' h ho)
   (λi X=>Hq N L (Q+i)/\Eu X (w.heap.size+1+1) (Q+i) (sqT L (Q+i))/\KeepO FX V2 X/\Ξ X (w+1) 0/\Ϟ w X/\X.heap[D1]? =some (.deferred (some []))) (λc X=>c= .ret/\false=R/\Δ X (w+1) 0 (.bool false)/\Ϟ w X/\X.heap[D1]? =some (.deferred (some [])))
   (λi X X' av J O I=>⟨J.1,Ln J.2.1 O (λe=>by have:=(I _ e.symm).1;omega),J.2.2.1.grown O (λr e=>(I r e).2),(frozen_kept (J.2.2.1.cell Am ay) O (λr e=>(I r e).2)).trans J.2.2.2.1,Di J.2.2.2.2.1 nR ϟ O I,(O.block D1 (Array.getElem?_eq_some_iff.1 J.2.2.2.2.2).1 (λe=>by have:=(I _ e.symm).1;omega)).trans J.2.2.2.2.2⟩)
   (λc X X' av J O I=>⟨J.1,J.2.1,cell_kept J.2.2.1 O (λr e=>(I r e).2),Di J.2.2.2.1 nR ϟ O I,(O.block D1 (Array.getElem?_eq_some_iff.1 J.2.2.2.2).1 (λe=>by have:=(I _ e.symm).1;omega)).trans J.2.2.2.2⟩)
   ⟨by rw[Nat.add_zero];exact J1.o.1,by rw[Nat.add_zero];exact bu,KeepO.refl _ _,bv,bi,bp⟩
   (λi a' X=> ∃B,a'={tmps:=#[.agg #[vI q,vS b d f,vS A v C,vI D,vS g j m,vS F E G,vI Z,vI rm,vI N],.pointer (some ⟨w,0,none⟩),.pointer (some ⟨w+1,0,none⟩),.pointer (some ⟨w+1+1+1,0,none⟩),undef,.pointer (some ⟨H,0,none⟩),.pointer (some ⟨B,0,none⟩),.map (some (w.heap.size+1+1)),.pointer (some ⟨w,0,none⟩),.agg #[vI q,vS b d f,vS A v C],.pointer (some ⟨w,3,none⟩),.agg #[vI D,vS g j m,vS F E G],vS (some ⟨w+1+1+1+1,0,none⟩) 2 2,vI 2,vI 1,.bool true,.pointer (some ⟨w+1+1+1+1,3,none⟩),.agg #[vI D,vS g j m,vS F E G],.agg #[vI D,vS g j m,vS F E G],.func (.func 161) #[] #[.pointer (some ⟨H+1,0,none⟩)],(E2.getD i ϰ).val,undef,undef,undef,undef,undef,undef,undef,undef,undef,undef,undef,undef,undef,undef,undef,undef,undef,vI 1],defers:=[]}/\Ϗ X B (.string (E2.getD i ϰ).key) (vI (E2.getD i ϰ).time) (vI (E2.getD i ϰ).seq) (hdV (E2.getD i ϰ).row) (.bool (E2.getD i ϰ).met))
   (λi a' u X X' av J O I=>by
    obtain⟨B,h1,h2,h3,h4,h5,h6⟩:=J;exact⟨B,h1,cell_kept h2 O (λr e=>(I r e).2),cell_kept h3 O (λr e=>(I r e).2),cell_kept h4 O (λr e=>(I r e).2),cell_kept h5 O (λr e=>(I r e).2),cell_kept h6 O (λr e=>(I r e).2)⟩) ?_ ?_ ?_ ?_
  ·intro l' k z X K hx hi hK;obtain⟨hk,au⟩:=List.getElem?_eq_some_iff.1 hx;rw[lMp]at hk;rw[getElem_map]at au;subst au;have hd:E2.getD k ϰ=E2[k]:=by rw[gDe,gEe hk];rfl
   have V:=hK;rw[hd]at V;clear hK hd hx;obtain⟨⟨ek,et,U,⟨r1,r2,r3⟩,em⟩,hz⟩:∃z,E2[k]=z:=⟨_,rfl⟩;rw[hz]at V⊢;unfold EM.val hdV at V⊢;dsimp only at V⊢;obtain⟨j1,j0,P,j3,Y,j5⟩:=hi
   gi_wp2
   have lX:w.heap.size+1<X.heap.size:=bLt _ _ (P.cell Am ay);exact V _ _ ((KeepsOthers.alloc _ _).from _) (KeepO.alloc _ _) ⟨j1,CF j0 Ϫ,P.trans (KeepO.alloc _ _),ϣ,Y.alloc Y.size _,(Below.heap_alloc _ _ _ (Array.getElem?_eq_some_iff.1 j5).1).trans j5⟩ ⟨X.heap.size,rfl,ϣ,ϣ,ϣ,ϣ,ϣ⟩
  ·intro l' i z a' X hx b9 cc a8 ae;obtain⟨j1,j0,P,j3,Y,j5⟩:=a8;obtain⟨B,ae,e0,e1,e2,e3,e4⟩:=ae;subst ae;obtain⟨hi,_⟩:=List.getElem?_eq_some_iff.1 hx;rw[lMp]at hi;obtain⟨ag,ab⟩:=bk.o i hi;have ar:=HW.o _ ag;obtain⟨⟨ek,et,U,⟨r1,r2,r3⟩,em⟩,hz⟩:∃z,E2.getD i ϰ=z:=⟨_,rfl⟩;rw[hz]at e0 e1 e2 e3 e4 ab⊢;dsimp only at e0 e1 e2 e3 e4 ab;have af:pl.i64 U:=by rw[ab];exact ar
   have c0:=P.cell Am b5;have c3:=P.cell Am ay;have c8:=P.cell Am b6;have lX:w.heap.size+1<X.heap.size:=bLt _ _ c3;have ap:=ED j0 af;have ca:=Vr L (Q+i);obtain⟨H,aq,q0,S⟩:=MQ j0 af (by have:=ah.o;unfold maxLen;omega) (by have:=ah.o;omega);have ac:=ED q0 af;rw[MR]at ac;have an:=JP j0;have T:ϝ (Q+i<L.length/\U=(L.getD (Q+i) ϰ).seq):=⟨ag,ab⟩;have ba:=count_le_length (a:=U) (l:=sqT L (Q+i));obtain⟨c,hc⟩:=nM ((sqT L (Q+i)).count U);have aj:=hV0 hc;rw[hc]at ap aq ac ba;have bh:IntKind.i64.wrap ((c:Int)+1)=(c:Int)+1:=by rw[IntKind.wrap_i64];have:=ah.o;omega
   rw[Int.natCast_add,show((1:Nat):Int)=1 from rfl]at ac;have aa:∀r,(some (w.heap.size+1+1):Option Nat)=some r->∃o:Obj,X.heap[r]? =some o/\o.isCells=false:=λr e=>by cases e;exact an
   have d0:=cell_kept c0 S aa;have d3:=cell_kept c3 S aa;have d8:=cell_kept c8 S aa;have d2:=cell_kept e2 S aa;have df:=(frozen_kept c3 S aa).trans j3;have M:ϝ (KeepO FX X H/\KeepsFrom V2.heap.size X H/\Ϟ w H/\H.heap[D1]? =some (.deferred (some []))):=⟨(KeepO.refl _ _).grown S aa,⟨S.size,λk o hk h _=>(S.block k (Array.getElem?_eq_some_iff.1 h).1 (λe=>by cases e;omega)).trans h⟩,Y.grown S Y.size (λr e=>by cases e;omega),(S.block D1 (Array.getElem?_eq_some_iff.1 j5).1 (λe=>by cases e;omega)).trans j5⟩;have HJ:ϝ (Hq N L (Q+i)/\KeepO FX V2 X):=⟨j1,P⟩;have HQ:ϝ (Eu H (w.heap.size+1+1) (Q+i+1) (sqT L (Q+i)++[U])):=q0;clear hz hx hc an aa q0 j0 j1 P ar ab ag;by_cases h1:U<N
   ·by_cases h2:c=0
    ·subst h2;have z0:((0:Nat):Int)=0:=rfl;rw[z0]at ap;rw[z0,Int.zero_add]at aq ac bh
     gi_wp2
     have bg:sqT L (Q+i+1)=sqT L (Q+i)++[U]:=by rw[JN T.o.1,<-T.o.2]
     have be:Hq N L (Q+i+1):=Rr T.o.1 HJ.o.1 (by rw[<-T.o.2];exact h1) (by rw[<-T.o.2];exact aj.o);exact⟨M.o.2.1,M.o.1,by rw[show Q+(i+1)=Q+i+1 by omega];exact be,by rw[show Q+(i+1)=Q+i+1 by omega,bg];exact HQ.o,HJ.o.2.trans M.o.1,df,M.o.2.2.1,M.o.2.2.2⟩
    ·have h3:(1:Int)<(c:Int)+1:=ϟ;have HE:ϝ (false=R):=by
      show _=_;rw[<-ak.o];exact(OM T.o.1 (by rw[<-T.o.2,aj.o];exact h2)).symm
     gi_wp2
     exact⟨M.o.2.1.trans ((KeepsOthers.setCell _ _ _).from _),rfl,HE.o,World.cell?_setCell_same _ _ _ d3,M.o.2.2.1.setCell ϥ _,(heap_setCell_other _ _ _ _ ϥ).trans M.o.2.2.2⟩
   ·have HE:ϝ (false=R):=by
     show _=_;rw[<-ak.o];exact(Rs T.o.1 (by rw[<-T.o.2];exact h1)).symm
    have h3:N<=U:=ϟ
    gi_wp2
    first
     |exact⟨M.o.2.1.trans ((KeepsOthers.setCell _ _ _).from _),rfl,HE.o,World.cell?_setCell_same _ _ _ d3,M.o.2.2.1.setCell ϥ _,(heap_setCell_other _ _ _ _ ϥ).trans M.o.2.2.2⟩
     |exact⟨by rw[<-G9];exact M.o.2.1.trans ((KeepsOthers.setCell _ _ _).from _),rfl,HE.o.symm,World.cell?_setCell_same _ _ _ d3,M.o.2.2.1.setCell ϥ _⟩
     |exact⟨by rw[<-G9];exact M.o.2.1.trans ((KeepsOthers.setCell _ _ _).from _),rfl,HE.o.symm,World.cell?_setCell_same _ _ _ d3,M.o.2.2.1.setCell ϥ _,(heap_setCell_other _ _ _ _ ϥ).trans M.o.2.2.2⟩
  ·rintro D2 X2 b8 ⟨bq,cl,ci,cm,cj,ck⟩ V;have c3:=ci.cell Am ay;have HE:ϝ (true=R):=by
    show _=_;rw[<-ak.o]
    symm
    refine AaZ ?_;rw[lMp,bn.o,<-bz.o]at bq;exact bq
   gi_wp2
   rw[roundsIn_succ]
   gi_wp2
   have a9:(X2.setCell ⟨w+1,0,none⟩ (.bool true)).heap[D2]? =some (.deferred (some [])):=(heap_setCell_other _ _ _ _ ϥ).trans V;refine⟨ϡ,.inl ⟨_,_,rfl,run_takeDeferred a9,?_⟩⟩;have ad:((X2.setCell ⟨w+1,0,none⟩ (.bool true)).putObj D2 (.deferred none)).heap[D1]? =some (.deferred (some [])):=(World.putObj_heap_other ϟ).trans ((heap_setCell_other _ _ _ _ ϥ).trans ck);refine⟨ϡ,.inl ⟨_,_,rfl,run_takeDeferred ad,?_⟩⟩;have y3:=Da (Da (World.cell?_setCell_same _ _ (.bool true) c3) a9 rfl (.deferred none)) ad rfl (.deferred none);exact⟨.bool true,(by simp[results,results78,go_sem,y3]),Ab HE.o,CY (CY (cj.setCell ϥ _) ϟ a9 _) ϟ ad _⟩
  ·rintro D2 c X2 b8 ⟨rfl,hE,c3,Y,j5⟩ V
   gi_wp2
   refine⟨ϡ,.inl ⟨_,_,rfl,run_takeDeferred V,?_⟩⟩;have ad:(X2.putObj D2 (.deferred none)).heap[D1]? =some (.deferred (some [])):=(World.putObj_heap_other ϟ).trans j5;refine⟨ϡ,.inl ⟨_,_,rfl,run_takeDeferred ad,?_⟩⟩;have y3:=Da (Da c3 V rfl (.deferred none)) ad rfl (.deferred none);exact⟨.bool false,(by simp[results,results78,go_sem,y3]),Ab hE,CY (CY Y ϟ V _) ϟ ad _⟩
 ·rintro D1 c H b7 ⟨rfl,hE,c3,Y,j5⟩ ai
  gi_wp2
  refine⟨ϡ,.inl ⟨_,_,rfl,run_takeDeferred ai,?_⟩⟩;have y3:=Da c3 ai rfl (.deferred none);exact⟨.bool false,(by simp[results,results78,go_sem,y3]),Ab hE,CY Y ϟ ai _⟩
end jn
end Go.Proofs.YtdohnkkbkfhphaaGreat
