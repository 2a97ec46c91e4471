import Derived.Test.YtdohnkkbkfhphaaGreatPq7
set_option linter.all false
set_option maxHeartbeats 8000000
namespace Go.Proofs.YtdohnkkbkfhphaaGreat
open Go.Proofs.Tryz
namespace bf
open Go.ChangeShapes Go.WideShapes Go.ChangeAt Go.RowKit Go.Shelf
open vl
attribute [local go_sem] Oper.semAt_some
variable {b : Buf}
noncomputable def Fn(l:List Ent):Bool:=allB l.length (DR l)
theorem Ko(h:Hdr)(es:List EM)(l:List Ent)(w:World)(hlen:h.2.1=l.length)(hl:l.length<=9223372036854775807)(ha:Do w h.1 es)(hr:ERs w es l)(hwf:∀x∈l,wfE x):
 Calls Tryz.prog 137 #[hdV h] w fun e w'=>e= .returned (.bool (Fn l))/\Bwz w w':=by
 obtain⟨a,n,c⟩:=h
 unfold hdV
 dsimp only at hlen ha⊢
 subst hlen
 have KE:Hid (∀w1,Bwz w w1->w1.cell? ⟨w.heap.size,0,none⟩=some (.slice a l.length c)->Calls Tryz.prog 181 #[.slice a l.length c,.func (.func 182) #[] #[.pointer (some ⟨w.heap.size,0,none⟩)]] w1 fun e w'=>e= .returned (.bool (Fn l))/\Bwz w1 w'):=fun w1 hb hc=>by
  have h:=LJ 182 (enters_of func182 (by kernel_rfl) rfl) #[.pointer (some ⟨w.heap.size,0,none⟩)] (DR l) a c es w1 (by rw[hr.1];exact hl) (BO ha hb) (fun i w2 hi hb2=>QF a c es l i w.heap.size w2 (by rw[hr.1]at hi;exact hi) hl (cLz hb2 hc) (BO (BO ha hb) hb2) ((hr.below hb).below hb2) hwf)
  rw[hr.1]at h
  exact h
 obtain⟨n,hn⟩:=nM l.length
 rw[hn]at KE⊢
 clear ha hr hwf hn hl
 obtain⟨R,hR⟩:=nM (Fn l)
 rw[hR]at KE⊢
 clear hR
 have hb0:Bwz w (w.alloc (.cells #[.slice a n c] 26)):=bR.alloc nR _
 go_enter func137,ntmps137
 go_wp2_with (go_at_call 181;refine(KE.out _ hb0 (by go_simp)).mono ?_;rintro e w2 ⟨rfl,hb2⟩)
 go_ret
 exact⟨rfl,hb0.trans (hb2.mono hb0.size)⟩
def Ga(b:Buf):Bool:=allB b.runs.length fun i=>decide (0<(b.runs.getD i default).length)
theorem Oz{n:Nat}{P Q:Nat->Bool}(h:∀i,i<n->P i=Q i):allB n P=allB n Q:=by
 rcases Bool.eq_false_or_eq_true (allB n Q)with h1|h1
 ·rw[h1];exact AJ.2 (fun i hi=>by rw[h i hi];exact AJ.1 h1 i hi)
 ·rw[h1]
  rcases Bool.eq_false_or_eq_true (allB n P)with h2|h2
  ·have:allB n Q=true:=AJ.2 (fun i hi=>by rw[<-h i hi];exact AJ.1 h2 i hi)
   rw[h1]at this;cases this
  ·exact h2
theorem GQ(b:Buf)(x:BX)(w:World)(h:bufAt w b x):
 Calls Tryz.prog 138 #[AQ b x] w fun e w'=>e= .returned (.bool (!Ga b))/\Bwz w w':=by
 have KE:Hid (∀w1,Bwz w w1->Calls Tryz.prog 184 #[.slice x.ra x.rs.length x.rc,.func (.func 185) #[] #[]] w1 fun e w'=>e= .returned (.bool (Ga b))/\Bwz w1 w'):=fun w1 hb=>by
  have hl:(x.rs.map (·.1)).length=x.rs.length:=lMp ..
  have k:=LK 185 (enters_of func185 (by kernel_rfl) rfl) #[] (fun i=>decide (0<((x.rs.map (·.1)).getD i (none,0,0)).2.1)) x.ra x.rc (x.rs.map (·.1)) w1 (by rw[hl];exact h.few) (F0 h.hds hb) (fun i w2 hi hb2=>by rw[Array.append_empty];exact Oo _ _ w2)
  have e:allB (x.rs.map (·.1)).length (fun i=>decide (0<((x.rs.map (·.1)).getD i (none,0,0)).2.1))=Ga b:=by
   unfold Ga
   rw[hl,h.rlen]
   refine Oz (fun i hi=>?_)
   have hi2:i<x.rs.length:=by rw[h.rlen];exact hi
   have h1:=(h.runs i hi).1
   have h2:=(h.len (x.rs[i]) (List.mem_cons_of_mem _ (List.getElem_mem hi2))).1
   have e1:(x.rs.map (·.1)).getD i (none,0,0)=(x.rs[i]).1:=by rw[gDe,List.getElem?_map,gEe hi2];rfl
   have e2:x.rs.getD i default=x.rs[i]:=by rw[gDe,gEe hi2];rfl
   rw[e2]at h1
   rw[e1,h2,h1]
  rw[e,hl]at k
  exact k
 obtain⟨R,hR⟩:=nM (Ga b)
 rw[hR]at KE⊢
 clear hR h
 obtain⟨ra,rc,⟨⟨m1,m2,m3⟩,ml⟩,rs⟩:=x
 obtain⟨lim,mem,runs⟩:=b
 unfold AQ hdV
 dsimp only at KE⊢
 obtain⟨n,hn⟩:∃n,rs.length=n:=⟨_,rfl⟩
 rw[hn]at KE⊢
 clear hn
 have hb0:Bwz w (w.alloc (.cells #[.int .i64 lim,.slice m1 m2 m3,.slice ra n rc] 29)):=bR.alloc nR _
 go_enter func138,ntmps138
 go_wp2_with (go_at_call 184;refine(KE.out _ hb0).mono ?_;rintro e w2 ⟨rfl,hb2⟩)
 go_ret
 exact⟨rfl,hb0.trans (hb2.mono hb0.size)⟩
def countB(b:Buf):Bool:=decide ((b.mem.length:Int)<=b.lim)&&decide ((Ab b).length<=4096)
theorem DD(b:Buf)(x:BX)(w:World)(h:bufAt w b x)(hs:(Ab b).length<=4611686018427387904):
 Calls Tryz.prog 75 #[AQ b x] w fun e w'=>e= .returned (.bool (countB b))/\Bwz w w':=by
 have KS:=hIz (fun(w1:World) (hb:Bwz w w1)=>JA b x w1 (Ak h hb) hs)
 have hm:x.m.1.2.1=b.mem.length:=(h.len x.m (List.mem_cons_self ..)).1.trans h.mem.1
 obtain⟨R,hR⟩:=nM (countB b)
 have HRR:Hid (countB b=R):=hR
 rw[hR]
 clear hR h
 obtain⟨ra,rc,⟨⟨m1,m2,m3⟩,ml⟩,rs⟩:=x
 obtain⟨lim,mem,runs⟩:=b
 unfold AQ hdV at KS⊢
 dsimp only at KS HRR hm⊢
 obtain⟨n,hn⟩:∃n,rs.length=n:=⟨_,rfl⟩
 rw[hn]at KS⊢
 clear hn
 obtain⟨N,hN⟩:=nM ((Ab ⟨lim,mem,runs⟩).length)
 rw[hN]at KS
 have HR2:Hid ((decide ((m2:Int)<=lim)&&decide (N<=4096))=R):=by
  show _=_
  rw[<-HRR.out];unfold countB;rw[hN,hm]
 clear hN HRR hm hs
 have hb0:Bwz w (w.alloc (.cells #[.int .i64 lim,.slice m1 m2 m3,.slice ra n rc] 29)):=bR.alloc nR _
 by_cases h1:(m2:Int)<=lim
 ·by_cases h2:N<=4096
  ·have HE:Hid (true=R):=by show _=_;rw[<-HR2.out];simp[h1,h2]
   have h2':(N:Int)<=4096:=by omega
   go_enter func75,ntmps75
   go_wp2_with (go_at_call 135;refine(KS.out _ hb0).mono ?_;rintro e w2 ⟨rfl,hb2⟩)
   go_ret
   exact⟨Aa HE.out,hb0.trans (hb2.mono hb0.size)⟩
  ·have HE:Hid (false=R):=by show _=_;rw[<-HR2.out];simp[h2]
   have h2':¬(N:Int)<=4096:=by omega
   have H2:Hid (¬(N:Int)<=4096):=h2'
   go_enter func75,ntmps75
   go_wp2_with (go_at_call 135;refine(KS.out _ hb0).mono ?_;rintro e w2 ⟨rfl,hb2⟩)
   go_ret
   exact⟨Aa ((decide_eq_false (by have:=H2.out;omega)).trans HE.out),hb0.trans (hb2.mono hb0.size)⟩
 ·have HE:Hid (false=R):=by show _=_;rw[<-HR2.out];simp[h1]
  go_enter func75,ntmps75
  go_wp2
  go_ret
  exact⟨Aa HE.out,hb0⟩
noncomputable def Eh(b:Buf):Bool:=allB (partsB b).length (fun i=>Fn ((partsB b).getD i default))&&(Ga b&&F1 (Ab b))
theorem QI{i:Nat}(hi:i<(partsB b).length)(h:Fn ((partsB b).getD i default)=false):Eh b=false:=by unfold Eh;rw[Eg hi h];rfl
theorem O0(h:∀i,i<(partsB b).length->Fn ((partsB b).getD i default)=true):Eh b=(Ga b&&F1 (Ab b)):=by unfold Eh;rw[AJ.2 h];rfl
theorem CD(b:Buf)(x:BX)(w:World)(h:bufAt w b x)(hw:∀y∈Ab b,wfE y/\wfP (AS y)):
 Calls Tryz.prog 76 #[AQ b x] w fun e w'=>e= .returned (.bool (Eh b))/\Bwz w w':=by
 have HB:Hid (bufAt w b x):=h
 have K1:=hIz (fun(w1:World) (hb:Bwz w w1)=>GQ b x w1 (Ak h hb))
 have K2:=hIz (fun(w1:World) (hb:Bwz w w1)=>Ri b x w1 (Ak h hb) (fun y hy=>(hw y hy).2))
 have KP:Hid (∀i w1,i<(x.m::x.rs).length->Bwz w w1->Calls Tryz.prog 137 #[hdV ((x.m::x.rs).getD i default).1] w1 fun e w'=>e= .returned (.bool (Fn ((partsB b).getD i default)))/\Bwz w1 w'):=fun i w1 hi hb=>by
  have hmem:(x.m::x.rs).getD i default∈x.m::x.rs:=by rw[gDe,gEe hi];exact List.getElem_mem hi
  have hpl:(partsB b).length=(x.m::x.rs).length:=by simp[partsB,h.rlen]
  have hE:ERs w ((x.m::x.rs).getD i default).2 ((partsB b).getD i default):=by
   cases i with
   |zero=>exact h.mem
   |succ i=>
    have hi':i<b.runs.length:=by rw[List.length_cons,h.rlen]at hi;omega
    simpa[partsB]using h.runs i hi'
  have hl:=h.len _ hmem
  refine Ko _ _ _ w1 (by rw[hl.1,hE.1]) (by rw[<-hE.1];exact hl.2) (BO (h.ems _ hmem) hb) (hE.below hb) (fun y hy=>(hw y ?_).1)
  unfold Ab
  refine List.mem_flatten.2 ⟨_,?_,hy⟩
  rw[gDe,gEe (by rw[hpl];exact hi)]
  exact List.getElem_mem (by rw[hpl];exact hi)
 have HPL:Hid ((partsB b).length=(x.m::x.rs).length):=by show _=_;simp[partsB,h.rlen]
 obtain⟨R,hR⟩:=nM (Eh b)
 have HBAD:Hid (∀i,i<(x.m::x.rs).length->Fn ((partsB b).getD i default)=false->false=R):=fun i hi hf=>by rw[<-hR,QI (by rw[HPL.out];exact hi) hf]
 have HGOOD:Hid ((∀i,i<(x.m::x.rs).length->Fn ((partsB b).getD i default)=true)->(Ga b&&F1 (Ab b))=R):=fun hg=>by rw[<-hR,O0 (fun i hi=>hg i (by rw[<-HPL.out];exact hi))]
 rw[hR]
 clear hR h hw HPL
 obtain⟨RB,hRB⟩:∃z:Nat->Bool,(fun i=>Fn ((partsB b).getD i default))=z:=⟨_,rfl⟩
 have eRB:∀i,Fn ((partsB b).getD i default)=RB i:=fun i=>congrFun hRB i
 simp only[eRB]at KP HBAD HGOOD
 obtain⟨G1,hG1⟩:=nM (Ga b)
 obtain⟨G2,hG2⟩:=nM (F1 (Ab b))
 rw[hG1]at K1 HGOOD
 rw[hG2]at K2 HGOOD
 clear hRB eRB hG1 hG2
 obtain⟨ra,rc,⟨⟨m1,m2,m3⟩,ml⟩,rs⟩:=x
 obtain⟨lim,mem,runs⟩:=b
 unfold AQ at K1 K2⊢
 dsimp only at KP HBAD HGOOD K1 K2⊢
 obtain⟨n,hn⟩:∃n,rs.length=n:=⟨_,rfl⟩
 have HN:Hid (rs.length=n):=hn
 rw[hn]at K1 K2⊢
 clear hn
 have e1:hdV (m1,m2,m3)= .slice m1 m2 m3:=rfl
 rw[e1]at K1 K2⊢
 refine(callsIn_wide (n:=0)).1 ?_
 refine callsIn_of_wp_marks func76 rfl trivial ?_ rfl
 simp only[ntmps76,List.size_toArray,List.length_cons,List.length_nil,Nat.reduceAdd,Nat.reduceSub,Array.replicate_succ,Array.replicate_zero,List.push_toArray,List.append_toArray,List.nil_append,List.cons_append]
 gi_wp2_with (refine⟨trivial,rfl,?_⟩;gi_at_call 136;refine(callsIn_wide.2 (FK _ _ _ rfl rfl rfl _)).mono ?_;rintro e w' ⟨rfl,rfl⟩)
 have V0:(((w.alloc (.cells #[.int .i64 lim,.slice m1 m2 m3,.slice ra n rc] 29)).alloc (.cells #[.bool false] 4)).alloc (.cells #[.int .i64 lim,.slice m1 m2 m3,.slice ra n rc] 29)).cell? ⟨w.heap.size,0,none⟩=some (.int .i64 lim):=by go_simp
 have V1:(((w.alloc (.cells #[.int .i64 lim,.slice m1 m2 m3,.slice ra n rc] 29)).alloc (.cells #[.bool false] 4)).alloc (.cells #[.int .i64 lim,.slice m1 m2 m3,.slice ra n rc] 29)).cell? ⟨w.heap.size,1,none⟩=some (.slice m1 m2 m3):=by go_simp
 have V2:(((w.alloc (.cells #[.int .i64 lim,.slice m1 m2 m3,.slice ra n rc] 29)).alloc (.cells #[.bool false] 4)).alloc (.cells #[.int .i64 lim,.slice m1 m2 m3,.slice ra n rc] 29)).cell? ⟨w.heap.size,2,none⟩=some (.slice ra n rc):=by go_simp
 have V3:(((w.alloc (.cells #[.int .i64 lim,.slice m1 m2 m3,.slice ra n rc] 29)).alloc (.cells #[.bool false] 4)).alloc (.cells #[.int .i64 lim,.slice m1 m2 m3,.slice ra n rc] 29)).cell? ⟨w.heap.size+1,0,none⟩=some (.bool false):=by go_simp
 have V4:(((w.alloc (.cells #[.int .i64 lim,.slice m1 m2 m3,.slice ra n rc] 29)).alloc (.cells #[.bool false] 4)).alloc (.cells #[.int .i64 lim,.slice m1 m2 m3,.slice ra n rc] 29)).frozen? ⟨w.heap.size+1,0,none⟩=false:=by go_simp
 have V6:(((w.alloc (.cells #[.int .i64 lim,.slice m1 m2 m3,.slice ra n rc] 29)).alloc (.cells #[.bool false] 4)).alloc (.cells #[.int .i64 lim,.slice m1 m2 m3,.slice ra n rc] 29)).cell? ⟨w.heap.size+1+1,1,none⟩=some (.slice m1 m2 m3):=by go_simp
 have V7:(((w.alloc (.cells #[.int .i64 lim,.slice m1 m2 m3,.slice ra n rc] 29)).alloc (.cells #[.bool false] 4)).alloc (.cells #[.int .i64 lim,.slice m1 m2 m3,.slice ra n rc] 29)).cell? ⟨w.heap.size+1+1,2,none⟩=some (.slice ra n rc):=by go_simp
 have V8:Bwz w (((w.alloc (.cells #[.int .i64 lim,.slice m1 m2 m3,.slice ra n rc] 29)).alloc (.cells #[.bool false] 4)).alloc (.cells #[.int .i64 lim,.slice m1 m2 m3,.slice ra n rc] 29)):=by
  repeat (first|exact bR|(refine Below.alloc ?_ (by simp<;>omega) _))
 have V9:(((w.alloc (.cells #[.int .i64 lim,.slice m1 m2 m3,.slice ra n rc] 29)).alloc (.cells #[.bool false] 4)).alloc (.cells #[.int .i64 lim,.slice m1 m2 m3,.slice ra n rc] 29)).heap.size=w.heap.size+1+1+1:=by simp
 generalize (((w.alloc (.cells #[.int .i64 lim,.slice m1 m2 m3,.slice ra n rc] 29)).alloc (.cells #[.bool false] 4)).alloc (.cells #[.int .i64 lim,.slice m1 m2 m3,.slice ra n rc] 29))=V at *
 have hit:=Gu HB.out V8 (w.heap.size+1+1) Ea V6 (by rw[HN.out];exact V7) Ad (fun _ _ _=>Ad)
 obtain⟨P,hP⟩:∃z:List Part,(((m1,m2,m3),ml)::rs)=z:=⟨_,rfl⟩
 dsimp only at hit
 rw[hP]at hit KP HBAD HGOOD
 clear hP
 refine Cq (gf:=180) (lb:=#[.pointer (some ⟨w.heap.size+1+1,0,none⟩)]) rfl (enters_of func180 (by kernel_rfl) rfl) hit bR (fun x hx=>by obtain⟨p,_,rfl⟩:=List.mem_map.1 hx;rfl) (fun h k=>Aj.trans h k) (fun W l o o' _ h ho=>Aj.put W l o o' h ho)
  (fun i X=>(∀j,j<i->RB j=true)/\Aj Ea V X/\X.frozen? ⟨w.heap.size+1,0,none⟩=false/\Bwz w X) (fun c X=>c= .ret/\false=R/\X.cell? ⟨w.heap.size+1,0,none⟩=some (.bool false)/\Bwz w X)
  (fun i X X' row hs hg hr=>⟨hs.1,hs.2.1.grown hg (fun r e=>(hr r e).2),(frozen_kept (hs.2.1.cell Ad V3) hg (fun r e=>(hr r e).2)).trans hs.2.2.1,Cj hs.2.2.2 nR (by omega) hg hr⟩)
  (fun c X X' row hs hg hr=>⟨hs.1,hs.2.1,cell_kept hs.2.2.1 hg (fun r e=>(hr r e).2),Cj hs.2.2.2 nR (by omega) hg hr⟩)
  ⟨fun j hj=>absurd hj (Nat.not_lt_zero j),Aj.refl _ _,V4,V8⟩
  (fun i a' X=>a'={tmps:=#[.agg #[.int .i64 lim,.slice m1 m2 m3,.slice ra n rc],.pointer (some ⟨w.heap.size,0,none⟩),.pointer (some ⟨w.heap.size+1,0,none⟩),hdV (P.getD i default).1,.agg #[.int .i64 lim,.slice m1 m2 m3,.slice ra n rc],.func (.func 180) #[] #[.pointer (some ⟨w.heap.size+1+1,0,none⟩)],hdV (P.getD i default).1,undef,undef,undef,undef,undef,undef,undef,undef,undef,undef,undef],defers:=[]})
  (fun i a' u X X' row hs hg hr=>hs) ?assign ?body ?done ?stop
 case assign=>
  intro l' k x X K hx hi hK
  obtain⟨hk,hxe⟩:=List.getElem?_eq_some_iff.1 hx
  rw[lMp]at hk
  rw[List.getElem_map]at hxe
  subst hxe
  have hd:P.getD k default=P[k]:=by rw[gDe,gEe hk];rfl
  have hK2:=fun W' h1 h2 h3=>hK _ W' h1 h2 h3 rfl
  rw[hd]at hK2
  clear hK hd hx
  obtain⟨⟨⟨z1,z2,z3⟩,zl⟩,hz⟩:∃z,P[k]=z:=⟨_,rfl⟩
  rw[hz]at hK2⊢
  unfold hdV at hK2⊢
  dsimp only at hK2⊢
  gi_wp2
  exact hK2 X (KeepsFrom.refl _ _) (Aj.refl _ _) hi
 case body=>
  intro l' i x a' X hx hl' hrec hIi hax
  obtain⟨j1,j2,j3,j4⟩:=hIi
  obtain⟨hi,hxe⟩:=List.getElem?_eq_some_iff.1 hx
  rw[lMp]at hi
  subst hax
  have KQ:Hid (Calls Tryz.prog 137 #[hdV (P.getD i default).1] X fun e w'=>e= .returned (.bool (RB i))/\Bwz X w'):=KP.out i X hi j4
  have c3:=j2.cell Ad V3
  have lX:w.heap.size+1<X.heap.size:=bLt _ _ c3
  have HB1:Hid (RB i=false->false=R):=HBAD.out i hi
  have HJ:Hid ((∀j,j<i->RB j=true)/\Aj Ea V X):=⟨j1,j2⟩
  clear hx hxe KP HBAD HGOOD j1 j2
  obtain⟨⟨⟨z1,z2,z3⟩,zl⟩,hz⟩:∃z,P.getD i default=z:=⟨_,rfl⟩
  rw[hz]at KQ⊢
  unfold hdV at KQ⊢
  dsimp only at KQ⊢
  clear hz
  cases hb:RB i with
  |true=>
   rw[hb]at KQ
   gi_wp2_with (refine⟨trivial,rfl,?_⟩;gi_at_call 137;refine(CallsIn.inRound l' (callsIn_wide.2 KQ.out)).mono ?_;rintro e w2 ⟨rfl,hb2⟩)
   exact⟨Bs hb2,BF hb2 nR,fun j hj=>by
    rcases Nat.lt_succ_iff_lt_or_eq.1 hj with h|h
    ·exact HJ.out.1 j h
    ·rw[h];exact hb,HJ.out.2.trans (BF hb2 nR),by rw[hb2.frozen (p:=⟨w.heap.size+1,0,none⟩) lX];exact j3,j4.trans (hb2.mono j4.size)⟩
  |false=>
   rw[hb]at KQ
   gi_wp2_with (refine⟨trivial,rfl,?_⟩;gi_at_call 137;refine(CallsIn.inRound l' (callsIn_wide.2 KQ.out)).mono ?_;rintro e w2 ⟨rfl,hb2⟩;have k3:=cLz hb2 c3;have kf:w2.frozen? ⟨w.heap.size+1,0,none⟩=false:=(by rw[hb2.frozen (p:=⟨w.heap.size+1,0,none⟩) lX];exact j3))
   exact⟨(Bs hb2).trans ((KeepsOthers.setCell _ _ _).from _),rfl,HB1.out hb,World.cell?_setCell_same _ _ _ k3,(j4.trans (hb2.mono j4.size)).setCell (by dsimp only;omega) _⟩
 case done=>
  rintro D X hD ⟨j1,j2,j3,j4⟩ hK
  rw[lMp]at j1
  have HE:Hid ((G1&&G2)=R):=HGOOD.out j1
  have c0:=j2.cell Ad V0
  have c1:=j2.cell Ad V1
  have c2:=j2.cell Ad V2
  have c3:=j2.cell Ad V3
  have lX:w.heap.size+1<X.heap.size:=bLt _ _ c3
  have lD:D<X.heap.size:=(Array.getElem?_eq_some_iff.1 hK).1
  clear j1 HBAD HGOOD KP
  cases hg1:G1 with
  |false=>
   have HE2:Hid (false=R):=by show _=_;rw[<-HE.out,hg1];rfl
   rw[hg1]at K1
   gi_wp2_with (first|(refine⟨trivial,rfl,?_⟩;gi_at_call 138;refine(callsIn_wide.2 (K1.out _ j4)).mono ?_;rintro e w2 ⟨rfl,hb2⟩;have k3:=cLz hb2 c3;have kf:w2.frozen? ⟨w.heap.size+1,0,none⟩=false:=(by rw[hb2.frozen (p:=⟨w.heap.size+1,0,none⟩) lX];exact j3))|refine⟨trivial,?_⟩)
   have hK2:(w2.setCell ⟨w.heap.size+1,0,none⟩ (.bool false)).heap[D]? =some (.deferred (some [])):=(heap_setCell_other _ _ _ _ (by dsimp only;omega)).trans ((hb2.block _ lD).trans hK)
   refine⟨by simp,.inl ⟨_,_,rfl,run_takeDeferred hK2,?_⟩⟩
   have y3:=BS (World.cell?_setCell_same _ _ (.bool false) k3) hK2 rfl (.deferred none)
   exact⟨.bool false,(by simp[results,results76,go_sem,y3]),Aa HE2.out,BQ ((j4.trans (hb2.mono j4.size)).setCell (by dsimp only;omega) _) (by omega) hK2 _⟩
  |true=>
   have HE2:Hid (G2=R):=by show _=_;rw[<-HE.out,hg1];rfl
   rw[hg1]at K1
   gi_wp2_with (first
    |(refine⟨trivial,rfl,?_⟩;gi_at_call 138;refine(callsIn_wide.2 (K1.out _ j4)).mono ?_;rintro e w2 ⟨rfl,hb2⟩;have k0:=cLz hb2 c0;have k1:=cLz hb2 c1;have k2:=cLz hb2 c2;have k3:=cLz hb2 c3;have kf:w2.frozen? ⟨w.heap.size+1,0,none⟩=false:=(by rw[hb2.frozen (p:=⟨w.heap.size+1,0,none⟩) lX];exact j3);have j5:=j4.trans (hb2.mono j4.size))
    |(refine⟨trivial,rfl,?_⟩;gi_at_call 139;refine(callsIn_wide.2 (K2.out _ j5)).mono ?_;rintro e w3 ⟨rfl,hb3⟩;have u3:=cLz hb3 k3;have uf:w3.frozen? ⟨w.heap.size+1,0,none⟩=false:=(by rw[hb3.frozen (p:=⟨w.heap.size+1,0,none⟩) (Nat.lt_of_lt_of_le lX hb2.size)];exact kf)))
   have hK2:∀v,(w3.setCell ⟨w.heap.size+1,0,none⟩ v).heap[D]? =some (.deferred (some [])):=fun v=>(heap_setCell_other _ _ _ _ (by dsimp only;omega)).trans ((hb3.block _ (Nat.lt_of_lt_of_le lD hb2.size)).trans ((hb2.block _ lD).trans hK))
   refine⟨by simp,.inl ⟨_,_,rfl,run_takeDeferred (hK2 _),?_⟩⟩
   have y3:=BS (World.cell?_setCell_same _ _ (.bool G2) u3) (hK2 _) rfl (.deferred none)
   exact⟨.bool G2,(by simp[results,results76,go_sem,y3]),Aa HE2.out,BQ ((j5.trans (hb3.mono j5.size)).setCell (by dsimp only;omega) _) (by omega) (hK2 _) _⟩
 case stop=>
  rintro D c X hD ⟨rfl,hE,c3,j4⟩ hK
  gi_wp2
  refine⟨by simp,.inl ⟨_,_,rfl,run_takeDeferred hK,?_⟩⟩
  have y3:=BS c3 hK rfl (.deferred none)
  exact⟨.bool false,(by simp[results,results76,go_sem,y3]),Aa hE,BQ j4 (by omega) hK _⟩
noncomputable def Ez(b:Buf):Int:=if Br b.lim 1 64=false then 3 else if countB b=false then 2 else if Eh b=false then 1 else 0
theorem Bk(b:Buf)(x:BX)(w:World)(h:bufAt w b x)(hw:∀y∈Ab b,wfE y/\wfP (AS y))(hs:(Ab b).length<=4611686018427387904):
 Calls Tryz.prog 39 #[AQ b x] w fun e w'=>e= .returned (.int .i64 (Ez b))/\Bwz w w':=by
 have K2:=hIz (fun(w1:World) (hb:Bwz w w1)=>DD b x w1 (Ak h hb) hs)
 have K3:=hIz (fun(w1:World) (hb:Bwz w w1)=>CD b x w1 (Ak h hb) hw)
 have K1:Hid (∀w1,Calls Tryz.prog 65 #[.int .i64 b.lim] w1 fun e w'=>e= .returned (.bool (Br b.lim 1 64))/\w'=w1):=fun w1=>Fx _ w1
 obtain⟨R,hR⟩:=nM (Ez b)
 have HRR:Hid ((if Br b.lim 1 64=false then 3 else if countB b=false then 2 else if Eh b=false then 1 else 0)=R):=hR
 rw[hR]
 clear hR h hw hs
 obtain⟨G1,hG1⟩:=nM (Br b.lim 1 64)
 obtain⟨G2,hG2⟩:=nM (countB b)
 obtain⟨G3,hG3⟩:=nM (Eh b)
 rw[hG1]at K1 HRR
 rw[hG2]at K2 HRR
 rw[hG3]at K3 HRR
 clear hG1 hG2 hG3
 obtain⟨ra,rc,⟨⟨m1,m2,m3⟩,ml⟩,rs⟩:=x
 obtain⟨lim,mem,runs⟩:=b
 unfold AQ hdV at K2 K3⊢
 dsimp only at K1 K2 K3⊢
 obtain⟨n,hn⟩:∃n,rs.length=n:=⟨_,rfl⟩
 rw[hn]at K2 K3⊢
 clear hn
 have hb0:Bwz w (w.alloc (.cells #[.int .i64 lim,.slice m1 m2 m3,.slice ra n rc] 29)):=bR.alloc nR _
 cases G1 with
 |false=>
  have HE:Hid ((3:Int)=R):=HRR.out
  go_enter func39,ntmps39
  go_wp2_with (go_at_call 65;refine(K1.out _).mono ?_;rintro e w2 ⟨rfl,rfl⟩)
  go_ret
  exact⟨Ao HE.out,hb0⟩
 |true=>
  cases G2 with
  |false=>
   have HE:Hid ((2:Int)=R):=HRR.out
   go_enter func39,ntmps39
   go_wp2_with (first
    |(go_at_call 65;refine(K1.out _).mono ?_;rintro e w2 ⟨rfl,rfl⟩)
    |(go_at_call 75;refine(K2.out _ hb0).mono ?_;rintro e w3 ⟨rfl,hb3⟩))
   go_ret
   exact⟨Ao HE.out,hb0.trans (hb3.mono hb0.size)⟩
  |true=>
   cases G3 with
   |false=>
    have HE:Hid ((1:Int)=R):=HRR.out
    go_enter func39,ntmps39
    go_wp2_with (first
     |(go_at_call 65;refine(K1.out _).mono ?_;rintro e w2 ⟨rfl,rfl⟩)
     |(go_at_call 75;refine(K2.out _ hb0).mono ?_;rintro e w3 ⟨rfl,hb3⟩;have hb4:=hb0.trans (hb3.mono hb0.size);have k0:w3.cell? ⟨w.heap.size,0,none⟩=some (.int .i64 lim):=cLz hb3 (by go_simp);have k1:w3.cell? ⟨w.heap.size,1,none⟩=some (.slice m1 m2 m3):=cLz hb3 (by go_simp);have k2:w3.cell? ⟨w.heap.size,2,none⟩=some (.slice ra n rc):=cLz hb3 (by go_simp))
     |(go_at_call 76;refine(K3.out _ hb4).mono ?_;rintro e w5 ⟨rfl,hb5⟩))
    go_ret
    exact⟨Ao HE.out,hb4.trans (hb5.mono hb4.size)⟩
   |true=>
    have HE:Hid ((0:Int)=R):=HRR.out
    go_enter func39,ntmps39
    go_wp2_with (first
     |(go_at_call 65;refine(K1.out _).mono ?_;rintro e w2 ⟨rfl,rfl⟩)
     |(go_at_call 75;refine(K2.out _ hb0).mono ?_;rintro e w3 ⟨rfl,hb3⟩;have hb4:=hb0.trans (hb3.mono hb0.size);have k0:w3.cell? ⟨w.heap.size,0,none⟩=some (.int .i64 lim):=cLz hb3 (by go_simp);have k1:w3.cell? ⟨w.heap.size,1,none⟩=some (.slice m1 m2 m3):=cLz hb3 (by go_simp);have k2:w3.cell? ⟨w.heap.size,2,none⟩=some (.slice ra n rc):=cLz hb3 (by go_simp))
     |(go_at_call 76;refine(K3.out _ hb4).mono ?_;rintro e w5 ⟨rfl,hb5⟩))
    go_ret
    exact⟨Ao HE.out,hb4.trans (hb5.mono hb4.size)⟩
end bf
namespace bf
open Go.ChangeShapes Go.WideShapes Go.ChangeAt Go.RowKit
open vl
variable {w w' : World} {base base' g n size : Nat} {e : TypeId} {v : Value} {xs : List Value} {x : Ent} {l : List Ent}
theorem PO:(Tryz.prog.info? 63).map (fun i=>(i.zero,i.size,i.bytes))=some (some (.agg #[.string ⟨#[]⟩,.int .i64 0,.int .i64 0,.slice none 0 0,.bool false]),5,64):=by kernel_rfl
theorem A2(h:w.ownsRow base e size v n xs)(hb:∀g,v.ownBlock=some g->w'.heap[g]? =w.heap[g]?):w'.ownsRow base e size v n xs:=by
 refine⟨h.1,?_⟩
 rcases h.2 with h0|⟨g,cap,cur,hv,h1,hg,h2⟩
 ·exact .inl h0
 ·exact .inr ⟨g,cap,cur,hv,h1,by rw[hb g (by rw[hv];rfl)];exact hg,h2⟩
theorem AG(h:w.ownsRow base e size v n xs)(hg:v.ownBlock=some g):base<=g/\g<w.heap.size:=World.ownsRow.lt h g hg
theorem own_below(h:w.ownsRow base e size v n xs)(hb:Bwz w w'):w'.ownsRow base e size v n xs:=
 A2 h (fun g hg=>hb.block g (AG h hg).2)
theorem Cx(h:w.ownsRow base e size v n xs)(hb:base'<=base):w.ownsRow base' e size v n xs:=by
 refine⟨h.1,?_⟩
 rcases h.2 with h0|⟨g,cap,cur,hv,h1,hg,h2⟩
 ·exact .inl h0
 ·exact .inr ⟨g,cap,cur,hv,Nat.le_trans hb h1,hg,h2⟩
theorem FG{e':TypeId}{s s':Nat}{v':Value}{n':Nat}{xs':List Value}(h:w.ownsRow base e s v n xs)(h':w.ownsRow base' e' s' v' n' xs')(he:e≠e')(hg:v.ownBlock=some g):v'.ownBlock≠some g:=fun hg'=>by
 rcases h.2 with⟨rfl,_⟩|⟨b,cap,cur,rfl,_,hb,_⟩
 ·cases hg
 ·rcases h'.2 with⟨rfl,_⟩|⟨b',cap',cur',rfl,_,hb',_⟩
  ·cases hg'
  ·cases hg
   cases hg'
   rw[hb]at hb'
   injection hb' with e1
   injection e1 with _ e2 _
   exact he e2
theorem C9(b off j:Nat):(⟨b,off,none⟩:Addr).add j=⟨b,off+j,none⟩:=by unfold Addr.add;split<;>simp_all
theorem Ed{b off:Nat}{r:List Cel}(h:vl.rowAt w (some ⟨b,off,none⟩) r):∀j u,(celCells r)[j]? =some u->w.cell? ((⟨b,off,none⟩:Addr).add j)=some u:=by
 intro j u hu
 have hlen:j<(celCells r).length:=by
  rcases Nat.lt_or_ge j (celCells r).length with h|h
  ·exact h
  ·rw[List.getElem?_eq_none h]at hu;cases hu
 rw[Di]at hlen
 have hi:j/3<r.length:=by omega
 obtain⟨b',o',e,x1,x2,x3⟩:=h (j/3) hi
 cases e
 obtain⟨y1,y2,y3⟩:=Fs r (j/3) hi
 rw[C9]
 have hj:j=j/3 * 3\/j=j/3 * 3+1\/j=j/3 * 3+1+1:=by omega
 rcases hj with e|e|e
 ·rw[e]at hu⊢;rw[y1]at hu;rw[<-hu];exact x1
 ·rw[e]at hu⊢;rw[y2]at hu;rw[<-hu];exact x2
 ·rw[e]at hu⊢;rw[y3]at hu;rw[<-hu];exact x3
theorem DK(r:List Cel):∀u∈celCells r,u.oneCell'=true:=by
 intro u hu
 unfold celCells at hu
 obtain⟨c,_,hc⟩:=List.mem_flatMap.1 hu
 simp at hc
 rcases hc with rfl|rfl|rfl<;>rfl
def EM.to(e:EM)(h:Hdr):EM:=⟨e.key,e.time,e.seq,h,e.met⟩
def Ar(l:List EM):List Value:=l.flatMap fun e=>[.string e.key,.int .i64 e.time,.int .i64 e.seq,hdV e.row,.bool e.met]
theorem GR(l:List EM):(Ar l).length=l.length * 5:=by
 induction l with
 |nil=>rfl
 |cons c r ih=>show([_,_,_,_,_]++Ar r).length=_;rw[lAp,ih,List.length_cons];simp;omega
theorem E0(l:List EM)(e:EM):Ar (l++[e])=Ar l++[.string e.key,.int .i64 e.time,.int .i64 e.seq,hdV e.row,.bool e.met]:=by
 unfold Ar;rw[List.flatMap_append];simp
theorem Ei(r:List EM)(i:Nat)(h:i<r.length):(Ar r)[i * 5]? =some (.string (r.getD i default).key)/\(Ar r)[i * 5+1]? =some (.int .i64 (r.getD i default).time)/\(Ar r)[i * 5+2]? =some (.int .i64 (r.getD i default).seq)/\(Ar r)[i * 5+3]? =some (hdV (r.getD i default).row)/\(Ar r)[i * 5+4]? =some (.bool (r.getD i default).met):=by
 induction r generalizing i with
 |nil=>exact absurd h (Nat.not_lt_zero i)
 |cons c r ih=>
  have e:Ar (c::r)= .string c.key:: .int .i64 c.time:: .int .i64 c.seq::hdV c.row:: .bool c.met::Ar r:=rfl
  rw[e]
  cases i with
  |zero=>exact⟨rfl,rfl,rfl,rfl,rfl⟩
  |succ i=>
   have:=ih i (by simpa using h)
   rw[show(i+1) * 5=i * 5+1+1+1+1+1 by omega]
   simpa using this
structure OR(w:World)(base:Nat)(e:EM)(x:Ent):Prop where
 key:e.key=x.key
 time:e.time=x.time
 seq:e.seq=x.seq
 met:e.met=x.met
 len:e.row.2.1=x.row.length
 row:AM w base (hdV e.row) x.row
theorem OR.er{e:EM}(h:OR w base e x):ER w e x:=⟨h.key,h.time,h.seq,h.met,h.len,by
 have hr:=h.row
 have hl:=h.len
 obtain⟨k1,t1,s1,⟨a1,n1,c1⟩,m1⟩:=e
 unfold hdV at hr
 dsimp only at hr hl⊢
 rw[hl]at hr
 exact Fu hr⟩
structure OE(w:World)(base:Nat)(v:Value)(es:List EM)(l:List Ent):Prop where
 low:base<=w.heap.size
 own:w.ownsRow base 63 5 v es.length (Ar es)
 len:es.length=l.length
 rows:∀i,i<l.length->OR w base (es.getD i default) (l.getD i default)
theorem De(h:base<=w.heap.size):OE w base (.slice none 0 0) [] []:=⟨h,World.ownsRow_nil _ _ _ _,rfl,fun i hi=>absurd hi (Nat.not_lt_zero i)⟩
theorem OE.form{es:List EM}(h:OE w base v es l):∃ad cap,v= .slice ad es.length cap:=by
 rcases h.own.2 with⟨rfl,h0⟩|⟨g,cap,cur,rfl,_⟩
 ·exact⟨none,0,by rw[h0]⟩
 ·exact⟨_,_,rfl⟩
theorem OE.ers{es:List EM}(h:OE w base v es l):ERs w es l:=⟨h.len,fun i hi=>(h.rows i hi).er⟩
theorem OE.at{cap:Nat}{ad:Option Addr}{es:List EM}(h:OE w base (.slice ad es.length cap) es l):Do w ad es:=by
 intro i hi
 rcases h.own.2 with⟨hv,h0⟩|⟨g,cap',cur,hv,h1,hg,h2⟩
 ·omega
 ·cases hv
  have hc:=World.ownsRow.cells h.own (g:=g) rfl
  obtain⟨x1,x2,x3,x4,x5⟩:=Ei es i hi
  refine⟨g,0,rfl,?_,?_,?_,?_,?_⟩
  ·have:=hc _ _ x1;rw[C9]at this;exact this
  ·have:=hc _ _ x2;rw[C9]at this;exact this
  ·have:=hc _ _ x3;rw[C9]at this;exact this
  ·have:=hc _ _ x4;rw[C9]at this;exact this
  ·have:=hc _ _ x5;rw[C9]at this;exact this
theorem OE.below{es:List EM}(h:OE w base v es l)(hb:Bwz w w'):OE w' base v es l:=
 ⟨Nat.le_trans h.low hb.size,own_below h.own hb,h.len,fun i hi=>by
  obtain⟨a1,a2,a3,a4,a5,a6⟩:=h.rows i hi
  exact⟨a1,a2,a3,a4,a5,own_below a6 hb⟩⟩
theorem OE.mono{es:List EM}(h:OE w base v es l)(hb:base'<=base):OE w base' v es l:=
 ⟨Nat.le_trans hb h.low,Cx h.own hb,h.len,fun i hi=>by
  obtain⟨a1,a2,a3,a4,a5,a6⟩:=h.rows i hi
  exact⟨a1,a2,a3,a4,a5,Cx a6 hb⟩⟩
theorem OE.same{es:List EM}(h:OE w base v es l)(hs:w.heap.size<=w'.heap.size)(hb:∀g cur t,w.heap[g]? =some (.cells cur t (0,0))->(v.ownBlock=some g/\t=63)\/t=103->w'.heap[g]? =w.heap[g]?):OE w' base v es l:=
 ⟨Nat.le_trans h.low hs,A2 h.own (fun g hg=>by
  rcases h.own.2 with⟨rfl,_⟩|⟨b,cap,cur,rfl,_,hb',_⟩
  ·cases hg
  ·cases hg
   exact hb _ _ _ hb' (.inl ⟨rfl,rfl⟩)),h.len,fun i hi=>by
  obtain⟨a1,a2,a3,a4,a5,a6⟩:=h.rows i hi
  refine⟨a1,a2,a3,a4,a5,A2 a6 (fun g hg=>?_)⟩
  rcases a6.2 with⟨e,_⟩|⟨b,cap,cur,e,_,hb',_⟩
  ·rw[e]at hg;cases hg
  ·rw[e]at hg;cases hg
   exact hb _ _ _ hb' (.inr rfl)⟩
theorem LM{w1 w2:World}{es:List EM}{e:EM}{cap2:Nat}{o:Obj}(h:OE w base v es l)(hb1:Bwz w w1)(hx:OR w1 base e x)
 (hown2:w2.ownsRow base 63 5 (.slice (some ⟨g,0,none⟩) (es.length+1) cap2) (es.length+1) (Ar es++[.string e.key,.int .i64 e.time,.int .i64 e.seq,hdV e.row,.bool e.met])) (hg2:(w1.alloc o).grownBy w2 v.ownBlock):
 OE w2 base (.slice (some ⟨g,0,none⟩) (es.length+1) cap2) (es++[e]) (l++[x])/\Below base w w2:=by
 have h1:=h.below hb1
 have hs2:w1.heap.size<=w2.heap.size:=by have:=hg2.size;simp at this;omega
 have hbl:∀b,b<w1.heap.size->v.ownBlock≠some b->w2.heap[b]? =w1.heap[b]? :=fun b hb ho=>by
  rw[hg2.block b (by simp;omega) (fun e=>ho e.symm)]
  exact Below.heap_alloc _ _ b hb
 have hkeep:∀{e':EM} {x':Ent},OR w1 base e' x'->OR w2 base e' x':=fun {e' x'} k=>by
  obtain⟨a1,a2,a3,a4,a5,a6⟩:=k
  refine⟨a1,a2,a3,a4,a5,A2 a6 (fun b hb=>hbl b (AG a6 hb).2 (fun hv=>?_))⟩
  exact FG h1.own a6 (by decide) hv hb
 refine⟨⟨Nat.le_trans h1.low hs2,?_,by rw[lAp,lAp,h.len];rfl,fun i hi=>?_⟩,?_⟩
 ·rw[lAp,E0];exact hown2
 ·rw[lAp]at hi
  by_cases hl:i<l.length
  ·rw[AN (by rw[h.len];exact hl),AN hl];exact hkeep (h1.rows i hl)
  ·have:i=l.length:=by simp at hi;omega
   subst this
   rw[AA (by rw[h.len];exact Nat.le_refl _),AA nR,h.len,Nat.sub_self]
   exact hkeep hx
 ·exact((hb1.mono h.low).alloc h1.low o).grown hg2 (by simp;have:=h1.low;omega) (fun b hb=>(AG h1.own hb).1)
theorem II(base:Nat)(t ty e:TypeId)(i:TypeInfo)(size c:Nat)(ht:Tryz.prog.underlying t=some (.slice e))(hi:Tryz.prog.info? e=some i)
 (v:Value) (n:Nat) (xs:List Value) (hown:w.ownsRow base e size v n xs):(Builtin.append_ #[t,t] ty #[v,.slice none 0 c]).run Tryz.prog w= .ok v w:=by
 rcases hown.2 with⟨rfl,rfl⟩|⟨g,cap,cur,rfl,_,_,hnc,_⟩
 ·simp[Builtin.append_,run_underlying ht,sizeOf,typeInfo,hi,Builtin.lenOf,Builtin.firstCells]
 ·simp[Builtin.append_,run_underlying ht,sizeOf,typeInfo,hi,Builtin.lenOf,Builtin.firstCells,hnc,storeCells]
theorem Gm{ops:Array Oper}{rest:List Oper}{o:Oper}{a:Act}{Q:Exit->Act->World->Prop}(hgd:o.guard=none)(s x:Operand)(t:TypeId)
 (ho:o.op= .call {callee:=.builtin .append,args:=#[s,x],argTypes:=#[t,t]}) (base:Nat) (e:TypeId) (i:TypeInfo) (size c:Nat) (ht:Tryz.prog.underlying t=some (.slice e)) (hi:Tryz.prog.info? e=some i)
 (v:Value) (n:Nat) (xs:List Value) (hs:a.eval s=v) (hown:w.ownsRow base e size v n xs) (hx:a.eval x= .slice none 0 c)
 (h:wpList Tryz.prog ops Q rest (a.put o.dst v) w):wpList Tryz.prog ops Q (o::rest) a w:=by
 refine wpList_plain hgd fun K hK=>?_
 have hrun:=II (w:=w) base t o.type e i size c ht hi v n xs hown
 unfold Oper.wp
 simp[execOp,ho,resolve,invoke,builtin,hs,hx,hrun,Result.andThen]
 exact hK _ _ h
theorem O3(h:w.grownBy w' none):Bwz w w':=bR.grown h nR (fun b hb=>by cases hb)
theorem EH(e:EM)(x:Ent)(w:World)(h:ER w e x)(hl:x.row.length<=1000000):
 Calls Tryz.prog 114 #[e.val] w fun r w'=>(∃ad c,r= .returned (e.to (ad,x.row.length,c)).val/\AM w' w.heap.size (.slice ad x.row.length c) x.row)/\Bwz w w':=by
 obtain⟨i0,hi,hz0,hz1,hz2⟩:=info_parts Tryz.infoV
 have HI:Hid (Tryz.prog.info? 103=some i0/\i0.zero=some (.agg #[.int .i64 0,.int .i64 0,.string ⟨#[]⟩])/\i0.size=3/\i0.bytes=32):=⟨hi,hz0,hz1,hz2⟩
 clear hi hz0 hz1 hz2
 obtain⟨k1,t1,s1,⟨a1,n1,c1⟩,m1⟩:=e
 have hrow:=h.row
 have hlen:=h.len
 dsimp only at hrow hlen
 subst hlen
 unfold EM.val EM.to hdV
 dsimp only
 obtain⟨r,hr⟩:=nM x.row
 rw[hr]at hrow hl⊢
 clear h hr
 obtain⟨n,hn⟩:∃n,r.length=n:=⟨_,rfl⟩
 have HN:Hid (r.length=n):=hn
 have b0:((w.alloc (.cells #[.string k1,.int .i64 t1,.int .i64 s1,.slice a1 r.length c1,.bool m1] 63)).alloc (.cells #[.string ⟨#[]⟩,.int .i64 0,.int .i64 0,.slice none 0 0,.bool false] 63)).cell? ⟨w.heap.size,0,none⟩=some (.string k1):=by go_simp
 have b1:((w.alloc (.cells #[.string k1,.int .i64 t1,.int .i64 s1,.slice a1 r.length c1,.bool m1] 63)).alloc (.cells #[.string ⟨#[]⟩,.int .i64 0,.int .i64 0,.slice none 0 0,.bool false] 63)).cell? ⟨w.heap.size,1,none⟩=some (.int .i64 t1):=by go_simp
 have b2:((w.alloc (.cells #[.string k1,.int .i64 t1,.int .i64 s1,.slice a1 r.length c1,.bool m1] 63)).alloc (.cells #[.string ⟨#[]⟩,.int .i64 0,.int .i64 0,.slice none 0 0,.bool false] 63)).cell? ⟨w.heap.size,2,none⟩=some (.int .i64 s1):=by go_simp
 have b3:((w.alloc (.cells #[.string k1,.int .i64 t1,.int .i64 s1,.slice a1 r.length c1,.bool m1] 63)).alloc (.cells #[.string ⟨#[]⟩,.int .i64 0,.int .i64 0,.slice none 0 0,.bool false] 63)).cell? ⟨w.heap.size,3,none⟩=some (.slice a1 r.length c1):=by go_simp
 have b4:((w.alloc (.cells #[.string k1,.int .i64 t1,.int .i64 s1,.slice a1 r.length c1,.bool m1] 63)).alloc (.cells #[.string ⟨#[]⟩,.int .i64 0,.int .i64 0,.slice none 0 0,.bool false] 63)).cell? ⟨w.heap.size,4,none⟩=some (.bool m1):=by go_simp
 have g0:((w.alloc (.cells #[.string k1,.int .i64 t1,.int .i64 s1,.slice a1 r.length c1,.bool m1] 63)).alloc (.cells #[.string ⟨#[]⟩,.int .i64 0,.int .i64 0,.slice none 0 0,.bool false] 63)).cell? ⟨w.heap.size+1,0,none⟩=some (.string ⟨#[]⟩):=by go_simp
 have g1:((w.alloc (.cells #[.string k1,.int .i64 t1,.int .i64 s1,.slice a1 r.length c1,.bool m1] 63)).alloc (.cells #[.string ⟨#[]⟩,.int .i64 0,.int .i64 0,.slice none 0 0,.bool false] 63)).cell? ⟨w.heap.size+1,1,none⟩=some (.int .i64 0):=by go_simp
 have g2:((w.alloc (.cells #[.string k1,.int .i64 t1,.int .i64 s1,.slice a1 r.length c1,.bool m1] 63)).alloc (.cells #[.string ⟨#[]⟩,.int .i64 0,.int .i64 0,.slice none 0 0,.bool false] 63)).cell? ⟨w.heap.size+1,2,none⟩=some (.int .i64 0):=by go_simp
 have g3:((w.alloc (.cells #[.string k1,.int .i64 t1,.int .i64 s1,.slice a1 r.length c1,.bool m1] 63)).alloc (.cells #[.string ⟨#[]⟩,.int .i64 0,.int .i64 0,.slice none 0 0,.bool false] 63)).cell? ⟨w.heap.size+1,3,none⟩=some (.slice none 0 0):=by go_simp
 have g4:((w.alloc (.cells #[.string k1,.int .i64 t1,.int .i64 s1,.slice a1 r.length c1,.bool m1] 63)).alloc (.cells #[.string ⟨#[]⟩,.int .i64 0,.int .i64 0,.slice none 0 0,.bool false] 63)).cell? ⟨w.heap.size+1,4,none⟩=some (.bool false):=by go_simp
 have f0:((w.alloc (.cells #[.string k1,.int .i64 t1,.int .i64 s1,.slice a1 r.length c1,.bool m1] 63)).alloc (.cells #[.string ⟨#[]⟩,.int .i64 0,.int .i64 0,.slice none 0 0,.bool false] 63)).frozen? ⟨w.heap.size,3,none⟩=false:=by go_simp
 have f1:((w.alloc (.cells #[.string k1,.int .i64 t1,.int .i64 s1,.slice a1 r.length c1,.bool m1] 63)).alloc (.cells #[.string ⟨#[]⟩,.int .i64 0,.int .i64 0,.slice none 0 0,.bool false] 63)).frozen? ⟨w.heap.size+1,0,none⟩=false:=by go_simp
 have f11:((w.alloc (.cells #[.string k1,.int .i64 t1,.int .i64 s1,.slice a1 r.length c1,.bool m1] 63)).alloc (.cells #[.string ⟨#[]⟩,.int .i64 0,.int .i64 0,.slice none 0 0,.bool false] 63)).frozen? ⟨w.heap.size+1,1,none⟩=false:=by go_simp
 have f12:((w.alloc (.cells #[.string k1,.int .i64 t1,.int .i64 s1,.slice a1 r.length c1,.bool m1] 63)).alloc (.cells #[.string ⟨#[]⟩,.int .i64 0,.int .i64 0,.slice none 0 0,.bool false] 63)).frozen? ⟨w.heap.size+1,2,none⟩=false:=by go_simp
 have f13:((w.alloc (.cells #[.string k1,.int .i64 t1,.int .i64 s1,.slice a1 r.length c1,.bool m1] 63)).alloc (.cells #[.string ⟨#[]⟩,.int .i64 0,.int .i64 0,.slice none 0 0,.bool false] 63)).frozen? ⟨w.heap.size+1,3,none⟩=false:=by go_simp
 have f14:((w.alloc (.cells #[.string k1,.int .i64 t1,.int .i64 s1,.slice a1 r.length c1,.bool m1] 63)).alloc (.cells #[.string ⟨#[]⟩,.int .i64 0,.int .i64 0,.slice none 0 0,.bool false] 63)).frozen? ⟨w.heap.size+1,4,none⟩=false:=by go_simp
 have hbV:Bwz w ((w.alloc (.cells #[.string k1,.int .i64 t1,.int .i64 s1,.slice a1 r.length c1,.bool m1] 63)).alloc (.cells #[.string ⟨#[]⟩,.int .i64 0,.int .i64 0,.slice none 0 0,.bool false] 63)):=by
  repeat (first|exact bR|(refine Below.alloc ?_ (by simp<;>omega) _))
 have hsV:((w.alloc (.cells #[.string k1,.int .i64 t1,.int .i64 s1,.slice a1 r.length c1,.bool m1] 63)).alloc (.cells #[.string ⟨#[]⟩,.int .i64 0,.int .i64 0,.slice none 0 0,.bool false] 63)).heap.size=w.heap.size+1+1:=by simp
 cases a1 with
 |none=>
  have h0:r=[]:=by
   cases r with
   |nil=>rfl
   |cons c r=>
    obtain⟨_,_,e,_⟩:=hrow 0 (by simp)
    cases e
  subst h0
  simp only[List.length_nil]at b3⊢
  clear hrow hl hn HN
  go_enter func114,ntmps114
  go_wp2_with (at_builtin;refine Gm rfl (.const (.slice none 0 0)) (.tmp 4) 41 rfl w.heap.size 103 i0 3 c1 underlying41 HI.out.1 _ _ _ rfl (World.ownsRow_nil _ _ _ _) rfl ?_)
  exact bodyPost_ret (v:=.agg #[.string k1,.int .i64 t1,.int .i64 s1,.slice none 0 0,.bool m1]) (by simp[results,results114,go_sem]) rfl ⟨⟨none,0,rfl,World.ownsRow_nil _ _ _ _⟩,by
   repeat (first|exact bR|(refine Below.alloc ?_ (by simp<;>omega) _))⟩
 |some ad=>
  have HCE:Hid (∀j u,(celCells r)[j]? =some u->((w.alloc (.cells #[.string k1,.int .i64 t1,.int .i64 s1,.slice (some ad) n c1,.bool m1] 63)).alloc (.cells #[.string ⟨#[]⟩,.int .i64 0,.int .i64 0,.slice none 0 0,.bool false] 63)).cell? (ad.add j)=some u):=by
   intro j u hu
   rw[hn]at hbV
   have hlen:0<r.length:=by
    rcases Nat.eq_zero_or_pos r.length with h|h
    ·rw[List.length_eq_zero_iff.1 h]at hu;cases hu
    ·exact h
   obtain⟨b,o,e,_⟩:=hrow 0 hlen
   cases e
   exact cLz hbV (Ed hrow j u hu)
  rw[hn]at hl b0 b1 b2 b3 b4 g0 g1 g2 g3 g4 f0 f1 f11 f12 f13 f14 hbV hsV⊢
  clear hrow hn
  go_enter func114,ntmps114
  go_wp2_with (at_builtin;refine wpList_append_own _ rfl (.const (.slice none 0 0)) (.tmp 4) 41 rfl (w.heap.size+1+1) 103 i0 (.agg #[.int .i64 0,.int .i64 0,.string ⟨#[]⟩]) 3 32 underlying41 HI.out.1 HI.out.2.1 HI.out.2.2.1 HI.out.2.2.2 rfl (by decide) _ _ _ rfl (World.ownsRow_nil _ _ _ _) ad n c1 (celCells r) rfl (by rw[Di,HN.out]) HCE.out (DK r) (by unfold maxLen;omega) (by omega) (by simp) ?_;intro v2 w3 hown3 hgrow3 hnil3;have hb3:Below ((w.alloc (.cells #[.string k1,.int .i64 t1,.int .i64 s1,.slice (some ad) n c1,.bool m1] 63)).alloc (.cells #[.string ⟨#[]⟩,.int .i64 0,.int .i64 0,.slice none 0 0,.bool false] 63)).heap.size ((w.alloc (.cells #[.string k1,.int .i64 t1,.int .i64 s1,.slice (some ad) n c1,.bool m1] 63)).alloc (.cells #[.string ⟨#[]⟩,.int .i64 0,.int .i64 0,.slice none 0 0,.bool false] 63)) w3:=O3 hgrow3;have y0:=cLz hb3 b0;have y1:=cLz hb3 b1;have y2:=cLz hb3 b2;have y3:=cLz hb3 b3;have y4:=cLz hb3 b4;have z0:=cLz hb3 g0;have z1:=cLz hb3 g1;have z2:=cLz hb3 g2;have z3:=cLz hb3 g3;have z4:=cLz hb3 g4;rw[Nat.zero_add,List.nil_append]at hown3;obtain⟨a2,c2,hv2⟩:=Lp (show AM w3 _ v2 r from(by unfold AM;rw[HN.out];exact hown3));rw[HN.out]at hv2;subst hv2;have h0:w3.frozen? ⟨w.heap.size,3,none⟩=false:=(by rw[hb3.frozen (p:=⟨w.heap.size,3,none⟩) (by dsimp only;omega)];exact f0);have h1:w3.frozen? ⟨w.heap.size+1,0,none⟩=false:=(by rw[hb3.frozen (p:=⟨w.heap.size+1,0,none⟩) (by dsimp only;omega)];exact f1);have h11:w3.frozen? ⟨w.heap.size+1,1,none⟩=false:=(by rw[hb3.frozen (p:=⟨w.heap.size+1,1,none⟩) (by dsimp only;omega)];exact f11);have h12:w3.frozen? ⟨w.heap.size+1,2,none⟩=false:=(by rw[hb3.frozen (p:=⟨w.heap.size+1,2,none⟩) (by dsimp only;omega)];exact f12);have h13:w3.frozen? ⟨w.heap.size+1,3,none⟩=false:=(by rw[hb3.frozen (p:=⟨w.heap.size+1,3,none⟩) (by dsimp only;omega)];exact f13);have h14:w3.frozen? ⟨w.heap.size+1,4,none⟩=false:=(by rw[hb3.frozen (p:=⟨w.heap.size+1,4,none⟩) (by dsimp only;omega)];exact f14))
  have hbW:Bwz w w3:=hbV.trans (hb3.mono hbV.size)
  refine bodyPost_ret (v:=.agg #[.string k1,.int .i64 t1,.int .i64 s1,.slice a2 n c2,.bool m1]) (by simp[results,results114,go_sem,y0,y1,y2,y3,y4,z0,z1,z2,z3,z4]) rfl ⟨⟨a2,c2,rfl,?_⟩,by
   repeat (first|exact hbW|(refine Below.setCell ?_ (by dsimp only;omega) _))⟩
  unfold AM
  rw[HN.out]
  refine Cx (A2 hown3 (fun g hg=>?_)) (by omega)
  have hg2:=(AG hown3 hg).1
  repeat rw[heap_setCell_other _ _ _ _ (by dsimp only;omega)]
end bf
end Go.Proofs.YtdohnkkbkfhphaaGreat
