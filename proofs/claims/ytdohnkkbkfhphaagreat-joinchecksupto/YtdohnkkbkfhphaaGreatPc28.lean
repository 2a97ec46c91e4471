import Derived.Test.YtdohnkkbkfhphaaGreatPc26
set_option linter.all false
set_option maxHeartbeats 8000000
set_option maxRecDepth 100000
namespace Go.Proofs.YtdohnkkbkfhphaaGreat
open Go.Proofs.Tryz
namespace jn
open Go.ChangeShapes Go.WideShapes Go.ChangeAt Go.RowKit Go.Shelf Go.Maps
open vl bf
attribute [local go_sem] Oper.semAt_some
variable {l : List Ent} {t : Nat} {n : Int}
def F7(n:Int)(l:List Ent)(t:Nat):Prop:=DR n (l.take t)
def sqT(l:List Ent)(t:Nat):List Int:=(l.take t).map (·.seq)
theorem Ic(h:t<l.length):sqT l (t+1)=sqT l t++[(l.getD t default).seq]:=by
 unfold sqT
 rw[List.take_succ_eq_append_getElem h,List.map_append,gDe,gEe h];rfl
theorem RF(l:List Ent)(t:Nat):(sqT l t).length<=l.length:=by unfold sqT;rw[lMp,List.length_take];omega
theorem Ov(h:t<l.length)(h1:F7 n l t)(h2:(l.getD t default).seq<n)(h3:(sqT l t).count (l.getD t default).seq=0):F7 n l (t+1):=by
 obtain⟨k1,k2⟩:=h1
 have e:l.take (t+1)=l.take t++[l.getD t default]:=by rw[List.take_succ_eq_append_getElem h,gDe,gEe h];rfl
 unfold F7 DR
 rw[e]
 refine⟨fun y hy=>?_,?_⟩
 ·rcases List.mem_append.1 hy with hy|hy
  ·exact k1 y hy
  ·rw[List.mem_singleton.1 hy];exact h2
 ·rw[List.map_append]
  refine List.nodup_append.2 ⟨k2,by simp,fun a ha b hb=>?_⟩
  have hb:b=(l.getD t default).seq:=by simpa using hb
  subst hb
  intro e2
  subst e2
  exact absurd h3 (by have:=List.count_pos_iff.2 ha;unfold sqT;omega)
theorem Ow(h:t<l.length)(h2:¬(l.getD t default).seq<n):decide (DR n l)=false:=by
 refine decide_eq_false fun k=>h2 (k.1 _ ?_)
 rw[gDe,gEe h];simp
theorem M4(h:t<l.length)(h3:(sqT l t).count (l.getD t default).seq≠0):decide (DR n l)=false:=by
 refine decide_eq_false fun k=>?_
 have hn:=k.2
 have e:l.map (·.seq)=sqT l (t+1)++(l.drop (t+1)).map (·.seq):=by unfold sqT;rw[<-List.map_append,List.take_append_drop]
 rw[e,Ic h]at hn
 have hm:(l.getD t default).seq∈sqT l t:=List.count_pos_iff.1 (by omega)
 exact(List.nodup_append.1 (List.nodup_append.1 hn).1).2.2 _ hm _ (List.mem_singleton.2 rfl) rfl
theorem Xd(h:F7 n l l.length):decide (DR n l)=true:=by
 unfold F7 at h
 rw[List.take_length]at h
 exact decide_eq_true h
theorem LM(s:Jn)(y:JX)(w:World)(h:joinAt w s y)(hw:∀z∈Ab s.L++Ab s.R,pl.i64 z.seq)(hl:(Ab s.L).length<=100000)(hr:(Ab s.R).length<=100000):
 Calls Tryz.prog 78 #[joinV s y] w fun e w'=>e= .returned (.bool (GJ s))/\Bwz w w':=by
 have HBL:Hid (bufAt w s.L y.l):=h.l
 have HBR:Hid (bufAt w s.R y.r):=h.r
 have er1:=Dg h.l
 have er2:=Dg h.r
 unfold GJ
 obtain⟨L,hL⟩:=nM (Ab s.L++Ab s.R)
 obtain⟨n1,hn1⟩:=nM ((Ab s.L).length)
 have HW:Hid (∀t,t<L.length->pl.i64 (L.getD t default).seq):=fun t ht=>by
  rw[hL]at hw
  exact hw _ (by rw[gDe,gEe ht];simp)
 have HLL:Hid (L.length<=200000):=by
  show _<=_
  rw[<-hL,lAp];omega
 have HLN:Hid (L.length=n1+(Ab s.R).length):=by show _=_;rw[<-hL,lAp,hn1]
 have HE1:Hid (∀i,i<(ems (y.l.m::y.l.rs)).length->0+i<L.length/\((ems (y.l.m::y.l.rs)).getD i default).seq=(L.getD (0+i) default).seq):=fun i hi=>by
  have hi2:i<(Ab s.L).length:=by rw[<-er1.1];exact hi
  refine⟨by rw[<-hL,lAp];omega,?_⟩
  rw[(er1.2 i hi2).seq,<-hL,Nat.zero_add,AE hi2]
 have HE2:Hid (∀i,i<(ems (y.r.m::y.r.rs)).length->n1+i<L.length/\((ems (y.r.m::y.r.rs)).getD i default).seq=(L.getD (n1+i) default).seq):=fun i hi=>by
  have hi2:i<(Ab s.R).length:=by rw[<-er2.1];exact hi
  refine⟨by rw[<-hL,lAp];omega,?_⟩
  rw[(er2.2 i hi2).seq,<-hL,AL (by omega),hn1,Nat.add_sub_cancel_left]
 have HM1:Hid ((ems (y.l.m::y.l.rs)).length=n1):=by show _=_;rw[er1.1,hn1]
 have HM2:Hid ((ems (y.r.m::y.r.rs)).length=(Ab s.R).length):=er2.1
 rw[hL]
 obtain⟨R,hR⟩:=nM (decide (DR s.seq L))
 have HRR:Hid (decide (DR s.seq L)=R):=hR
 rw[hR]
 clear hR hL hw hl hr h er1 er2 hn1
 obtain⟨⟨lra,lrc,⟨⟨a1,a2,a3⟩,al⟩,lrs⟩,⟨rra,rrc,⟨⟨b1,b2,b3⟩,bl⟩,rrs⟩⟩:=y
 obtain⟨⟨l0,lmem,lruns⟩,⟨r0,rmem,rruns⟩,lm,rm,sq⟩:=s
 rw[A6]
 dsimp only at *
 obtain⟨ln,hln⟩:∃n,lrs.length=n:=⟨_,rfl⟩
 have HNL:Hid (lrs.length=ln):=hln
 obtain⟨rn,hrn⟩:∃n,rrs.length=n:=⟨_,rfl⟩
 have HNR:Hid (rrs.length=rn):=hrn
 rw[hln,hrn]
 clear hln hrn
 have hmk:=@run_makeMap Tryz.prog
 refine(callsIn_wide (n:=0)).1 ?_
 refine callsIn_of_wp_marks func78 rfl trivial ?_ rfl
 simp only[ntmps78,List.size_toArray,List.length_cons,List.length_nil,Nat.reduceAdd,Nat.reduceSub,Array.replicate_succ,Array.replicate_zero,List.push_toArray,List.append_toArray,List.nil_append,List.cons_append]
 gi_wp2
 refine wpIn_loop_rounds 3 ?_
 rw[roundsIn_succ]
 gi_wp2_with (refine⟨trivial,rfl,?_⟩;gi_at_call 113;refine(callsIn_wide.2 (Gh _ _ _ rfl rfl rfl _)).mono ?_;rintro e w' ⟨rfl,rfl⟩)
 have g01:(((((((w.alloc (.cells #[.int .i64 l0,.slice a1 a2 a3,.slice lra ln lrc,.int .i64 r0,.slice b1 b2 b3,.slice rra rn rrc,.int .i64 lm,.int .i64 rm,.int .i64 sq] 31)).alloc (.cells #[.bool false] 4)).alloc (.map #[] 0)).alloc (.cells #[.map (some (w.heap.size+1+1))] 187)).alloc (.cells #[.int .i64 l0,.slice a1 a2 a3,.slice lra ln lrc,.int .i64 r0,.slice b1 b2 b3,.slice rra rn rrc] 29)).alloc (.cells #[.int .i64 l0,.slice a1 a2 a3,.slice lra ln lrc] 29)).alloc (.cells #[.int .i64 l0,.slice a1 a2 a3,.slice lra ln lrc] 29)).cell? ⟨w.heap.size+1+1+1,0,none⟩=some (.map (some (w.heap.size+1+1))):=by go_simp
 have G2:Dt (((((((w.alloc (.cells #[.int .i64 l0,.slice a1 a2 a3,.slice lra ln lrc,.int .i64 r0,.slice b1 b2 b3,.slice rra rn rrc,.int .i64 lm,.int .i64 rm,.int .i64 sq] 31)).alloc (.cells #[.bool false] 4)).alloc (.map #[] 0)).alloc (.cells #[.map (some (w.heap.size+1+1))] 187)).alloc (.cells #[.int .i64 l0,.slice a1 a2 a3,.slice lra ln lrc,.int .i64 r0,.slice b1 b2 b3,.slice rra rn rrc] 29)).alloc (.cells #[.int .i64 l0,.slice a1 a2 a3,.slice lra ln lrc] 29)).alloc (.cells #[.int .i64 l0,.slice a1 a2 a3,.slice lra ln lrc] 29)) (w.heap.size+1+1) 0 []:=by
  have h:=Of ((w.alloc (.cells #[.int .i64 l0,.slice a1 a2 a3,.slice lra ln lrc,.int .i64 r0,.slice b1 b2 b3,.slice rra rn rrc,.int .i64 lm,.int .i64 rm,.int .i64 sq] 31)).alloc (.cells #[.bool false] 4))
  rw[World.size_alloc,World.size_alloc]at h
  exact BO h (by repeat (first|exact bR|(refine Below.alloc ?_ (by simp<;>omega) _)))
 have g31:(((((((w.alloc (.cells #[.int .i64 l0,.slice a1 a2 a3,.slice lra ln lrc,.int .i64 r0,.slice b1 b2 b3,.slice rra rn rrc,.int .i64 lm,.int .i64 rm,.int .i64 sq] 31)).alloc (.cells #[.bool false] 4)).alloc (.map #[] 0)).alloc (.cells #[.map (some (w.heap.size+1+1))] 187)).alloc (.cells #[.int .i64 l0,.slice a1 a2 a3,.slice lra ln lrc,.int .i64 r0,.slice b1 b2 b3,.slice rra rn rrc] 29)).alloc (.cells #[.int .i64 l0,.slice a1 a2 a3,.slice lra ln lrc] 29)).alloc (.cells #[.int .i64 l0,.slice a1 a2 a3,.slice lra ln lrc] 29)).cell? ⟨w.heap.size+1,0,none⟩=some (.bool false):=by go_simp
 have G4:(((((((w.alloc (.cells #[.int .i64 l0,.slice a1 a2 a3,.slice lra ln lrc,.int .i64 r0,.slice b1 b2 b3,.slice rra rn rrc,.int .i64 lm,.int .i64 rm,.int .i64 sq] 31)).alloc (.cells #[.bool false] 4)).alloc (.map #[] 0)).alloc (.cells #[.map (some (w.heap.size+1+1))] 187)).alloc (.cells #[.int .i64 l0,.slice a1 a2 a3,.slice lra ln lrc,.int .i64 r0,.slice b1 b2 b3,.slice rra rn rrc] 29)).alloc (.cells #[.int .i64 l0,.slice a1 a2 a3,.slice lra ln lrc] 29)).alloc (.cells #[.int .i64 l0,.slice a1 a2 a3,.slice lra ln lrc] 29)).frozen? ⟨w.heap.size+1,0,none⟩=false:=by go_simp
 have g81:(((((((w.alloc (.cells #[.int .i64 l0,.slice a1 a2 a3,.slice lra ln lrc,.int .i64 r0,.slice b1 b2 b3,.slice rra rn rrc,.int .i64 lm,.int .i64 rm,.int .i64 sq] 31)).alloc (.cells #[.bool false] 4)).alloc (.map #[] 0)).alloc (.cells #[.map (some (w.heap.size+1+1))] 187)).alloc (.cells #[.int .i64 l0,.slice a1 a2 a3,.slice lra ln lrc,.int .i64 r0,.slice b1 b2 b3,.slice rra rn rrc] 29)).alloc (.cells #[.int .i64 l0,.slice a1 a2 a3,.slice lra ln lrc] 29)).alloc (.cells #[.int .i64 l0,.slice a1 a2 a3,.slice lra ln lrc] 29)).cell? ⟨w.heap.size,8,none⟩=some (.int .i64 sq):=by go_simp
 have G5:(((((((w.alloc (.cells #[.int .i64 l0,.slice a1 a2 a3,.slice lra ln lrc,.int .i64 r0,.slice b1 b2 b3,.slice rra rn rrc,.int .i64 lm,.int .i64 rm,.int .i64 sq] 31)).alloc (.cells #[.bool false] 4)).alloc (.map #[] 0)).alloc (.cells #[.map (some (w.heap.size+1+1))] 187)).alloc (.cells #[.int .i64 l0,.slice a1 a2 a3,.slice lra ln lrc,.int .i64 r0,.slice b1 b2 b3,.slice rra rn rrc] 29)).alloc (.cells #[.int .i64 l0,.slice a1 a2 a3,.slice lra ln lrc] 29)).alloc (.cells #[.int .i64 l0,.slice a1 a2 a3,.slice lra ln lrc] 29)).cell? ⟨w.heap.size+1+1+1+1+1+1,0,none⟩=some (.int .i64 l0):=by go_simp
 have G6:(((((((w.alloc (.cells #[.int .i64 l0,.slice a1 a2 a3,.slice lra ln lrc,.int .i64 r0,.slice b1 b2 b3,.slice rra rn rrc,.int .i64 lm,.int .i64 rm,.int .i64 sq] 31)).alloc (.cells #[.bool false] 4)).alloc (.map #[] 0)).alloc (.cells #[.map (some (w.heap.size+1+1))] 187)).alloc (.cells #[.int .i64 l0,.slice a1 a2 a3,.slice lra ln lrc,.int .i64 r0,.slice b1 b2 b3,.slice rra rn rrc] 29)).alloc (.cells #[.int .i64 l0,.slice a1 a2 a3,.slice lra ln lrc] 29)).alloc (.cells #[.int .i64 l0,.slice a1 a2 a3,.slice lra ln lrc] 29)).cell? ⟨w.heap.size+1+1+1+1+1+1,1,none⟩=some (.slice a1 a2 a3):=by go_simp
 have G7:(((((((w.alloc (.cells #[.int .i64 l0,.slice a1 a2 a3,.slice lra ln lrc,.int .i64 r0,.slice b1 b2 b3,.slice rra rn rrc,.int .i64 lm,.int .i64 rm,.int .i64 sq] 31)).alloc (.cells #[.bool false] 4)).alloc (.map #[] 0)).alloc (.cells #[.map (some (w.heap.size+1+1))] 187)).alloc (.cells #[.int .i64 l0,.slice a1 a2 a3,.slice lra ln lrc,.int .i64 r0,.slice b1 b2 b3,.slice rra rn rrc] 29)).alloc (.cells #[.int .i64 l0,.slice a1 a2 a3,.slice lra ln lrc] 29)).alloc (.cells #[.int .i64 l0,.slice a1 a2 a3,.slice lra ln lrc] 29)).cell? ⟨w.heap.size+1+1+1+1+1+1,2,none⟩=some (.slice lra ln lrc):=by go_simp
 have R3:(((((((w.alloc (.cells #[.int .i64 l0,.slice a1 a2 a3,.slice lra ln lrc,.int .i64 r0,.slice b1 b2 b3,.slice rra rn rrc,.int .i64 lm,.int .i64 rm,.int .i64 sq] 31)).alloc (.cells #[.bool false] 4)).alloc (.map #[] 0)).alloc (.cells #[.map (some (w.heap.size+1+1))] 187)).alloc (.cells #[.int .i64 l0,.slice a1 a2 a3,.slice lra ln lrc,.int .i64 r0,.slice b1 b2 b3,.slice rra rn rrc] 29)).alloc (.cells #[.int .i64 l0,.slice a1 a2 a3,.slice lra ln lrc] 29)).alloc (.cells #[.int .i64 l0,.slice a1 a2 a3,.slice lra ln lrc] 29)).cell? ⟨w.heap.size+1+1+1+1,3,none⟩=some (.int .i64 r0):=by go_simp
 have R4:(((((((w.alloc (.cells #[.int .i64 l0,.slice a1 a2 a3,.slice lra ln lrc,.int .i64 r0,.slice b1 b2 b3,.slice rra rn rrc,.int .i64 lm,.int .i64 rm,.int .i64 sq] 31)).alloc (.cells #[.bool false] 4)).alloc (.map #[] 0)).alloc (.cells #[.map (some (w.heap.size+1+1))] 187)).alloc (.cells #[.int .i64 l0,.slice a1 a2 a3,.slice lra ln lrc,.int .i64 r0,.slice b1 b2 b3,.slice rra rn rrc] 29)).alloc (.cells #[.int .i64 l0,.slice a1 a2 a3,.slice lra ln lrc] 29)).alloc (.cells #[.int .i64 l0,.slice a1 a2 a3,.slice lra ln lrc] 29)).cell? ⟨w.heap.size+1+1+1+1,4,none⟩=some (.slice b1 b2 b3):=by go_simp
 have R5:(((((((w.alloc (.cells #[.int .i64 l0,.slice a1 a2 a3,.slice lra ln lrc,.int .i64 r0,.slice b1 b2 b3,.slice rra rn rrc,.int .i64 lm,.int .i64 rm,.int .i64 sq] 31)).alloc (.cells #[.bool false] 4)).alloc (.map #[] 0)).alloc (.cells #[.map (some (w.heap.size+1+1))] 187)).alloc (.cells #[.int .i64 l0,.slice a1 a2 a3,.slice lra ln lrc,.int .i64 r0,.slice b1 b2 b3,.slice rra rn rrc] 29)).alloc (.cells #[.int .i64 l0,.slice a1 a2 a3,.slice lra ln lrc] 29)).alloc (.cells #[.int .i64 l0,.slice a1 a2 a3,.slice lra ln lrc] 29)).cell? ⟨w.heap.size+1+1+1+1,5,none⟩=some (.slice rra rn rrc):=by go_simp
 have G8:Bwz w (((((((w.alloc (.cells #[.int .i64 l0,.slice a1 a2 a3,.slice lra ln lrc,.int .i64 r0,.slice b1 b2 b3,.slice rra rn rrc,.int .i64 lm,.int .i64 rm,.int .i64 sq] 31)).alloc (.cells #[.bool false] 4)).alloc (.map #[] 0)).alloc (.cells #[.map (some (w.heap.size+1+1))] 187)).alloc (.cells #[.int .i64 l0,.slice a1 a2 a3,.slice lra ln lrc,.int .i64 r0,.slice b1 b2 b3,.slice rra rn rrc] 29)).alloc (.cells #[.int .i64 l0,.slice a1 a2 a3,.slice lra ln lrc] 29)).alloc (.cells #[.int .i64 l0,.slice a1 a2 a3,.slice lra ln lrc] 29)):=by
  repeat (first|exact bR|(refine Below.alloc ?_ (by simp<;>omega) _))
 have G9:(((((((w.alloc (.cells #[.int .i64 l0,.slice a1 a2 a3,.slice lra ln lrc,.int .i64 r0,.slice b1 b2 b3,.slice rra rn rrc,.int .i64 lm,.int .i64 rm,.int .i64 sq] 31)).alloc (.cells #[.bool false] 4)).alloc (.map #[] 0)).alloc (.cells #[.map (some (w.heap.size+1+1))] 187)).alloc (.cells #[.int .i64 l0,.slice a1 a2 a3,.slice lra ln lrc,.int .i64 r0,.slice b1 b2 b3,.slice rra rn rrc] 29)).alloc (.cells #[.int .i64 l0,.slice a1 a2 a3,.slice lra ln lrc] 29)).alloc (.cells #[.int .i64 l0,.slice a1 a2 a3,.slice lra ln lrc] 29)).heap.size=w.heap.size+1+1+1+1+1+1+1:=by simp
 generalize (((((((w.alloc (.cells #[.int .i64 l0,.slice a1 a2 a3,.slice lra ln lrc,.int .i64 r0,.slice b1 b2 b3,.slice rra rn rrc,.int .i64 lm,.int .i64 rm,.int .i64 sq] 31)).alloc (.cells #[.bool false] 4)).alloc (.map #[] 0)).alloc (.cells #[.map (some (w.heap.size+1+1))] 187)).alloc (.cells #[.int .i64 l0,.slice a1 a2 a3,.slice lra ln lrc,.int .i64 r0,.slice b1 b2 b3,.slice rra rn rrc] 29)).alloc (.cells #[.int .i64 l0,.slice a1 a2 a3,.slice lra ln lrc] 29)).alloc (.cells #[.int .i64 l0,.slice a1 a2 a3,.slice lra ln lrc] 29))=V1 at *
 have hit1:=Fk HBL.out G8 (w.heap.size+1+1+1+1+1+1) EC G5 G6 (by rw[HNL.out];exact G7) Ae (fun _ _=>Ae) (fun _ _ _ _=>trivial) (fun _ _ _ _=>trivial)
 dsimp only at hit1
 obtain⟨E1,hE1⟩:=nM (ems ((((a1,a2,a3):Hdr),al)::lrs))
 rw[hE1]at hit1 HE1 HM1
 obtain⟨E2,hE2⟩:=nM (ems ((((b1,b2,b3):Hdr),bl)::rrs))
 rw[hE2]at HE2 HM2
 clear hE1 hmk
 refine C8 (gf:=161) (lb:=#[.pointer (some ⟨w.heap.size+1+1+1+1+1+1,0,none⟩)]) rfl (enters_of func161 (by kernel_rfl) rfl) hit1 bR (fun x hx=>by obtain⟨p,_,rfl⟩:=List.mem_map.1 hx;rfl) (fun h k=>Ao.trans h k) (fun W l o o' _ h ho=>Ao.put W l o o' h ho)
  (fun i X=>F7 sq L (0+i)/\Dt X (w.heap.size+1+1) (0+i) (sqT L (0+i))/\Ao EC V1 X/\X.frozen? ⟨w.heap.size+1,0,none⟩=false/\Bwz w X/\True) (fun c X=>c= .ret/\false=R/\X.cell? ⟨w.heap.size+1,0,none⟩=some (.bool false)/\Bwz w X/\True)
  (fun i X X' row hs hg hr=>⟨hs.1,IH hs.2.1 hg (fun e=>by have:=(hr _ e.symm).1;omega),hs.2.2.1.grown hg (fun r e=>(hr r e).2),(frozen_kept (hs.2.2.1.cell Ae g31) hg (fun r e=>(hr r e).2)).trans hs.2.2.2.1,Cx hs.2.2.2.2.1 nR (by omega) hg hr,trivial⟩)
  (fun c X X' row hs hg hr=>⟨hs.1,hs.2.1,cell_kept hs.2.2.1 hg (fun r e=>(hr r e).2),Cx hs.2.2.2.1 nR (by omega) hg hr,trivial⟩)
  ⟨⟨fun y hy=>absurd hy List.not_mem_nil,List.nodup_nil⟩,G2,Ao.refl _ _,G4,G8,trivial⟩
  (fun i a' X=> ∃B,a'={tmps:=#[.agg #[.int .i64 l0,.slice a1 a2 a3,.slice lra ln lrc,.int .i64 r0,.slice b1 b2 b3,.slice rra rn rrc,.int .i64 lm,.int .i64 rm,.int .i64 sq],.pointer (some ⟨w.heap.size,0,none⟩),.pointer (some ⟨w.heap.size+1,0,none⟩),.pointer (some ⟨w.heap.size+1+1+1,0,none⟩),undef,.pointer (some ⟨w.heap.size+1+1+1+1+1,0,none⟩),.pointer (some ⟨B,0,none⟩),.map (some (w.heap.size+1+1)),.pointer (some ⟨w.heap.size,0,none⟩),.agg #[.int .i64 l0,.slice a1 a2 a3,.slice lra ln lrc],.pointer (some ⟨w.heap.size,3,none⟩),.agg #[.int .i64 r0,.slice b1 b2 b3,.slice rra rn rrc],.slice (some ⟨w.heap.size+1+1+1+1,0,none⟩) 2 2,.int .i64 2,.int .i64 0,.bool true,.pointer (some ⟨w.heap.size+1+1+1+1,0,none⟩),.agg #[.int .i64 l0,.slice a1 a2 a3,.slice lra ln lrc],.agg #[.int .i64 l0,.slice a1 a2 a3,.slice lra ln lrc],.func (.func 161) #[] #[.pointer (some ⟨w.heap.size+1+1+1+1+1+1,0,none⟩)],(E1.getD i default).val,undef,undef,undef,undef,undef,undef,undef,undef,undef,undef,undef,undef,undef,undef,undef,undef,undef,undef],defers:=[]}/\X.cell? ⟨B,0,none⟩=some (.string (E1.getD i default).key)/\X.cell? ⟨B,1,none⟩=some (.int .i64 (E1.getD i default).time)/\X.cell? ⟨B,2,none⟩=some (.int .i64 (E1.getD i default).seq)/\X.cell? ⟨B,3,none⟩=some (hdV (E1.getD i default).row)/\X.cell? ⟨B,4,none⟩=some (.bool (E1.getD i default).met))
  (fun i a' u X X' row hs hg hr=>by
   obtain⟨B,h1,h2,h3,h4,h5,h6⟩:=hs
   exact⟨B,h1,cell_kept h2 hg (fun r e=>(hr r e).2),cell_kept h3 hg (fun r e=>(hr r e).2),cell_kept h4 hg (fun r e=>(hr r e).2),cell_kept h5 hg (fun r e=>(hr r e).2),cell_kept h6 hg (fun r e=>(hr r e).2)⟩) ?_ ?_ ?_ ?_
 ·intro l' k z X K hx hi hK
  obtain⟨hk,hxe⟩:=List.getElem?_eq_some_iff.1 hx
  rw[lMp]at hk
  rw[List.getElem_map]at hxe
  subst hxe
  have hd:E1.getD k default=E1[k]:=by rw[gDe,gEe hk];rfl
  have hK2:=hK
  rw[hd]at hK2
  clear hK hd hx
  obtain⟨⟨ek,et,es,⟨r1,r2,r3⟩,em⟩,hz⟩:∃z,E1[k]=z:=⟨_,rfl⟩
  rw[hz]at hK2⊢
  unfold EM.val hdV at hK2⊢
  dsimp only at hK2⊢
  obtain⟨j1,j0,j2,j3,j4,j5⟩:=hi
  gi_wp2
  have lX:w.heap.size+1<X.heap.size:=bLt _ _ (j2.cell Ae g31)
  exact hK2 _ _ ((KeepsOthers.alloc _ _).from _) (Ao.alloc _ _) ⟨j1,BO j0 (bR.alloc nR _),j2.trans (Ao.alloc _ _),by go_simp,j4.alloc j4.size _,trivial⟩ ⟨X.heap.size,rfl,by go_simp,by go_simp,by go_simp,by go_simp,by go_simp⟩
 ·intro l' i z a' X hx hl' hrec hIi hax
  obtain⟨j1,j0,j2,j3,j4,j5⟩:=hIi
  obtain⟨B,hax,e0,e1,e2,e3,e4⟩:=hax
  subst hax
  obtain⟨hi,_⟩:=List.getElem?_eq_some_iff.1 hx
  rw[lMp]at hi
  obtain⟨hil,hse⟩:=HE1.out i hi
  have hwp:=HW.out _ hil
  obtain⟨⟨ek,et,es,⟨r1,r2,r3⟩,em⟩,hz⟩:∃z,E1.getD i default=z:=⟨_,rfl⟩
  rw[hz]at e0 e1 e2 e3 e4 hse⊢
  dsimp only at e0 e1 e2 e3 e4 hse
  have hes:pl.i64 es:=by rw[hse];exact hwp
  have c0:=j2.cell Ae g01
  have c3:=j2.cell Ae g31
  have c8:=j2.cell Ae g81
  have lX:w.heap.size+1<X.heap.size:=bLt _ _ c3
  have hk0:=DM j0 hes
  have hlen:=RF L (0+i)
  obtain⟨X1,hup,q0,hg1⟩:=Kh j0 hes (by have:=HLL.out;unfold maxLen;omega) (by have:=HLL.out;omega)
  have hk1:=DM q0 hes
  rw[Ki]at hk1
  have hMo:=Hu j0
  have HTN:Hid (0+i<L.length/\es=(L.getD (0+i) default).seq):=⟨hil,hse⟩
  have hcb:=List.count_le_length (a:=es) (l:=sqT L (0+i))
  obtain⟨c,hc⟩:=nM ((sqT L (0+i)).count es)
  have HCN:Hid ((sqT L (0+i)).count es=c):=hc
  rw[hc]at hk0 hup hk1 hcb
  have hwr:IntKind.i64.wrap ((c:Int)+1)=(c:Int)+1:=by rw[IntKind.wrap_i64];have:=HLL.out;omega
  rw[Int.natCast_add,show((1:Nat):Int)=1 from rfl]at hk1
  have hrow:∀r,(some (w.heap.size+1+1):Option Nat)=some r->∃o:Obj,X.heap[r]? =some o/\o.isCells=false:=fun r e=>by cases e;exact hMo
  have d0:=cell_kept c0 hg1 hrow
  have d3:=cell_kept c3 hg1 hrow
  have d8:=cell_kept c8 hg1 hrow
  have d2:=cell_kept e2 hg1 hrow
  have df:=(frozen_kept c3 hg1 hrow).trans j3
  have HK:Hid (Ao EC X X1/\KeepsFrom V1.heap.size X X1/\Bwz w X1/\True):=⟨(Ao.refl _ _).grown hg1 hrow,⟨hg1.size,fun k o hk h _=>(hg1.block k (Array.getElem?_eq_some_iff.1 h).1 (fun e=>by cases e;omega)).trans h⟩,j4.grown hg1 j4.size (fun r e=>by cases e;omega),trivial⟩
  have HJ:Hid (F7 sq L (0+i)/\Ao EC V1 X):=⟨j1,j2⟩
  have HQ:Hid (Dt X1 (w.heap.size+1+1) (0+i+1) (sqT L (0+i)++[es])):=q0
  clear hz hx hc hMo hrow q0 j0 j1 j2 hwp hse hil
  by_cases h1:es<sq
  ·by_cases h2:c=0
   ·subst h2
    have z0:((0:Nat):Int)=0:=rfl
    rw[z0]at hk0
    rw[z0,Int.zero_add]at hup hk1 hwr
    gi_wp2
    have hsx:sqT L (0+i+1)=sqT L (0+i)++[es]:=by rw[Ic HTN.out.1,<-HTN.out.2]
    have hsf:F7 sq L (0+i+1):=Ov HTN.out.1 HJ.out.1 (by rw[<-HTN.out.2];exact h1) (by rw[<-HTN.out.2];exact HCN.out)
    exact⟨HK.out.2.1,HK.out.1,by rw[show 0+(i+1)=0+i+1 by omega];exact hsf,by rw[show 0+(i+1)=0+i+1 by omega,hsx];exact HQ.out,HJ.out.2.trans HK.out.1,df,HK.out.2.2.1,HK.out.2.2.2⟩
   ·have h3:(1:Int)<(c:Int)+1:=by omega
    have HE:Hid (false=R):=by
     show _=_
     rw[<-HRR.out]
     exact(M4 HTN.out.1 (by rw[<-HTN.out.2,HCN.out];exact h2)).symm
    gi_wp2
    exact⟨HK.out.2.1.trans ((KeepsOthers.setCell _ _ _).from _),rfl,HE.out,World.cell?_setCell_same _ _ _ d3,HK.out.2.2.1.setCell (by dsimp only;omega) _,trivial⟩
  ·have HE:Hid (false=R):=by
    show _=_
    rw[<-HRR.out]
    exact(Ow HTN.out.1 (by rw[<-HTN.out.2];exact h1)).symm
   have h3:sq<=es:=by omega
   gi_wp2
   first
    |exact⟨HK.out.2.1.trans ((KeepsOthers.setCell _ _ _).from _),rfl,HE.out,World.cell?_setCell_same _ _ _ d3,HK.out.2.2.1.setCell (by dsimp only;omega) _,trivial⟩
    |exact⟨by rw[<-G9];exact HK.out.2.1.trans ((KeepsOthers.setCell _ _ _).from _),rfl,HE.out.symm,World.cell?_setCell_same _ _ _ d3,HK.out.2.2.1.setCell (by dsimp only;omega) _⟩
    |exact⟨by rw[<-G9];exact HK.out.2.1.trans ((KeepsOthers.setCell _ _ _).from _),rfl,HE.out.symm,World.cell?_setCell_same _ _ _ d3,HK.out.2.2.1.setCell (by dsimp only;omega) _,trivial⟩
 ·rintro D1 X1 hD1 ⟨j1,j0,j2,j3,j4,_⟩ hK1
  rw[lMp,HM1.out,Nat.zero_add]at j1 j0
  have k3:=j2.cell Ae R3
  have k4:=j2.cell Ae R4
  have k5:=j2.cell Ae R5
  have lX1:w.heap.size+1+1+1+1+1+1<X1.heap.size:=bLt _ _ (j2.cell Ae G5)
  have J1:Hid (F7 sq L n1/\Ao EC V1 X1):=⟨j1,j2⟩
  have hx0:=j2.cell Ae g01
  have hx3:=j2.cell Ae g31
  have hx8:=j2.cell Ae g81
  clear hit1 G5 G6 G7 j1 j2 R3 R4 R5 g01 g31 g81
  gi_wp2
  rw[roundsIn_succ]
  gi_wp2_with (refine⟨trivial,rfl,?_⟩;gi_at_call 113;refine(callsIn_wide.2 (Gh _ _ _ rfl rfl rfl _)).mono ?_;rintro e w' ⟨rfl,rfl⟩)
  have hb12:Bwz X1 ((X1.alloc (.cells #[.int .i64 r0,.slice b1 b2 b3,.slice rra rn rrc] 29)).alloc (.cells #[.int .i64 r0,.slice b1 b2 b3,.slice rra rn rrc] 29)):=by repeat (first|exact bR|(refine Below.alloc ?_ (by simp<;>omega) _))
  have g02:((X1.alloc (.cells #[.int .i64 r0,.slice b1 b2 b3,.slice rra rn rrc] 29)).alloc (.cells #[.int .i64 r0,.slice b1 b2 b3,.slice rra rn rrc] 29)).cell? ⟨w.heap.size+1+1+1,0,none⟩=some (.map (some (w.heap.size+1+1))):=cLz hb12 hx0
  have g32:((X1.alloc (.cells #[.int .i64 r0,.slice b1 b2 b3,.slice rra rn rrc] 29)).alloc (.cells #[.int .i64 r0,.slice b1 b2 b3,.slice rra rn rrc] 29)).cell? ⟨w.heap.size+1,0,none⟩=some (.bool false):=cLz hb12 hx3
  have g82:((X1.alloc (.cells #[.int .i64 r0,.slice b1 b2 b3,.slice rra rn rrc] 29)).alloc (.cells #[.int .i64 r0,.slice b1 b2 b3,.slice rra rn rrc] 29)).cell? ⟨w.heap.size,8,none⟩=some (.int .i64 sq):=cLz hb12 hx8
  have G2b:Dt ((X1.alloc (.cells #[.int .i64 r0,.slice b1 b2 b3,.slice rra rn rrc] 29)).alloc (.cells #[.int .i64 r0,.slice b1 b2 b3,.slice rra rn rrc] 29)) (w.heap.size+1+1) n1 (sqT L n1):=BO j0 (by repeat (first|exact bR|(refine Below.alloc ?_ (by simp<;>omega) _)))
  have G4b:((X1.alloc (.cells #[.int .i64 r0,.slice b1 b2 b3,.slice rra rn rrc] 29)).alloc (.cells #[.int .i64 r0,.slice b1 b2 b3,.slice rra rn rrc] 29)).frozen? ⟨w.heap.size+1,0,none⟩=false:=(hb12.frozen (p:=⟨w.heap.size+1,0,none⟩) (by dsimp only;omega)).trans j3
  have H5:((X1.alloc (.cells #[.int .i64 r0,.slice b1 b2 b3,.slice rra rn rrc] 29)).alloc (.cells #[.int .i64 r0,.slice b1 b2 b3,.slice rra rn rrc] 29)).cell? ⟨X1.heap.size+1,0,none⟩=some (.int .i64 r0):=by go_simp
  have H6:((X1.alloc (.cells #[.int .i64 r0,.slice b1 b2 b3,.slice rra rn rrc] 29)).alloc (.cells #[.int .i64 r0,.slice b1 b2 b3,.slice rra rn rrc] 29)).cell? ⟨X1.heap.size+1,1,none⟩=some (.slice b1 b2 b3):=by go_simp
  have H7:((X1.alloc (.cells #[.int .i64 r0,.slice b1 b2 b3,.slice rra rn rrc] 29)).alloc (.cells #[.int .i64 r0,.slice b1 b2 b3,.slice rra rn rrc] 29)).cell? ⟨X1.heap.size+1,2,none⟩=some (.slice rra rn rrc):=by go_simp
  have G8b:Bwz w ((X1.alloc (.cells #[.int .i64 r0,.slice b1 b2 b3,.slice rra rn rrc] 29)).alloc (.cells #[.int .i64 r0,.slice b1 b2 b3,.slice rra rn rrc] 29)):=j4.trans (hb12.mono j4.size)
  have G9:((X1.alloc (.cells #[.int .i64 r0,.slice b1 b2 b3,.slice rra rn rrc] 29)).alloc (.cells #[.int .i64 r0,.slice b1 b2 b3,.slice rra rn rrc] 29)).heap.size=X1.heap.size+1+1:=by simp
  have hK1b:((X1.alloc (.cells #[.int .i64 r0,.slice b1 b2 b3,.slice rra rn rrc] 29)).alloc (.cells #[.int .i64 r0,.slice b1 b2 b3,.slice rra rn rrc] 29)).heap[D1]? =some (.deferred (some [])):=by
   have:=(Array.getElem?_eq_some_iff.1 hK1).1
   rw[Below.heap_alloc _ _ _ (by simp;omega),Below.heap_alloc _ _ _ this]
   exact hK1
  generalize ((X1.alloc (.cells #[.int .i64 r0,.slice b1 b2 b3,.slice rra rn rrc] 29)).alloc (.cells #[.int .i64 r0,.slice b1 b2 b3,.slice rra rn rrc] 29))=V2 at *
  have hit2:=Fk HBR.out G8b (X1.heap.size+1) EC H5 H6 (by rw[HNR.out];exact H7) Ae (fun _ _=>Ae) (fun _ _ _ _=>trivial) (fun _ _ _ _=>trivial)
  dsimp only at hit2
  have lD1:=(Array.getElem?_eq_some_iff.1 hK1b).1
  rw[hE2]at hit2
  clear hE2
  refine C8 (gf:=161) (lb:=#[.pointer (some ⟨X1.heap.size+1,0,none⟩)]) rfl (enters_of func161 (by kernel_rfl) rfl) hit2 bR (fun x hx=>by obtain⟨p,_,rfl⟩:=List.mem_map.1 hx;rfl) (fun h k=>Ao.trans h k) (fun W l o o' _ h ho=>Ao.put W l o o' h ho)
   (fun i X=>F7 sq L (n1+i)/\Dt X (w.heap.size+1+1) (n1+i) (sqT L (n1+i))/\Ao EC V2 X/\X.frozen? ⟨w.heap.size+1,0,none⟩=false/\Bwz w X/\X.heap[D1]? =some (.deferred (some []))) (fun c X=>c= .ret/\false=R/\X.cell? ⟨w.heap.size+1,0,none⟩=some (.bool false)/\Bwz w X/\X.heap[D1]? =some (.deferred (some [])))
   (fun i X X' row hs hg hr=>⟨hs.1,IH hs.2.1 hg (fun e=>by have:=(hr _ e.symm).1;omega),hs.2.2.1.grown hg (fun r e=>(hr r e).2),(frozen_kept (hs.2.2.1.cell Ae g32) hg (fun r e=>(hr r e).2)).trans hs.2.2.2.1,Cx hs.2.2.2.2.1 nR (by omega) hg hr,(hg.block D1 (Array.getElem?_eq_some_iff.1 hs.2.2.2.2.2).1 (fun e=>by have:=(hr _ e.symm).1;omega)).trans hs.2.2.2.2.2⟩)
   (fun c X X' row hs hg hr=>⟨hs.1,hs.2.1,cell_kept hs.2.2.1 hg (fun r e=>(hr r e).2),Cx hs.2.2.2.1 nR (by omega) hg hr,(hg.block D1 (Array.getElem?_eq_some_iff.1 hs.2.2.2.2).1 (fun e=>by have:=(hr _ e.symm).1;omega)).trans hs.2.2.2.2⟩)
   ⟨by rw[Nat.add_zero];exact J1.out.1,by rw[Nat.add_zero];exact G2b,Ao.refl _ _,G4b,G8b,hK1b⟩
   (fun i a' X=> ∃B,a'={tmps:=#[.agg #[.int .i64 l0,.slice a1 a2 a3,.slice lra ln lrc,.int .i64 r0,.slice b1 b2 b3,.slice rra rn rrc,.int .i64 lm,.int .i64 rm,.int .i64 sq],.pointer (some ⟨w.heap.size,0,none⟩),.pointer (some ⟨w.heap.size+1,0,none⟩),.pointer (some ⟨w.heap.size+1+1+1,0,none⟩),undef,.pointer (some ⟨X1.heap.size,0,none⟩),.pointer (some ⟨B,0,none⟩),.map (some (w.heap.size+1+1)),.pointer (some ⟨w.heap.size,0,none⟩),.agg #[.int .i64 l0,.slice a1 a2 a3,.slice lra ln lrc],.pointer (some ⟨w.heap.size,3,none⟩),.agg #[.int .i64 r0,.slice b1 b2 b3,.slice rra rn rrc],.slice (some ⟨w.heap.size+1+1+1+1,0,none⟩) 2 2,.int .i64 2,.int .i64 1,.bool true,.pointer (some ⟨w.heap.size+1+1+1+1,3,none⟩),.agg #[.int .i64 r0,.slice b1 b2 b3,.slice rra rn rrc],.agg #[.int .i64 r0,.slice b1 b2 b3,.slice rra rn rrc],.func (.func 161) #[] #[.pointer (some ⟨X1.heap.size+1,0,none⟩)],(E2.getD i default).val,undef,undef,undef,undef,undef,undef,undef,undef,undef,undef,undef,undef,undef,undef,undef,undef,undef,.int .i64 1],defers:=[]}/\X.cell? ⟨B,0,none⟩=some (.string (E2.getD i default).key)/\X.cell? ⟨B,1,none⟩=some (.int .i64 (E2.getD i default).time)/\X.cell? ⟨B,2,none⟩=some (.int .i64 (E2.getD i default).seq)/\X.cell? ⟨B,3,none⟩=some (hdV (E2.getD i default).row)/\X.cell? ⟨B,4,none⟩=some (.bool (E2.getD i default).met))
   (fun i a' u X X' row hs hg hr=>by
    obtain⟨B,h1,h2,h3,h4,h5,h6⟩:=hs
    exact⟨B,h1,cell_kept h2 hg (fun r e=>(hr r e).2),cell_kept h3 hg (fun r e=>(hr r e).2),cell_kept h4 hg (fun r e=>(hr r e).2),cell_kept h5 hg (fun r e=>(hr r e).2),cell_kept h6 hg (fun r e=>(hr r e).2)⟩) ?_ ?_ ?_ ?_
  ·intro l' k z X K hx hi hK
   obtain⟨hk,hxe⟩:=List.getElem?_eq_some_iff.1 hx
   rw[lMp]at hk
   rw[List.getElem_map]at hxe
   subst hxe
   have hd:E2.getD k default=E2[k]:=by rw[gDe,gEe hk];rfl
   have hK2:=hK
   rw[hd]at hK2
   clear hK hd hx
   obtain⟨⟨ek,et,es,⟨r1,r2,r3⟩,em⟩,hz⟩:∃z,E2[k]=z:=⟨_,rfl⟩
   rw[hz]at hK2⊢
   unfold EM.val hdV at hK2⊢
   dsimp only at hK2⊢
   obtain⟨j1,j0,j2,j3,j4,j5⟩:=hi
   gi_wp2
   have lX:w.heap.size+1<X.heap.size:=bLt _ _ (j2.cell Ae g32)
   exact hK2 _ _ ((KeepsOthers.alloc _ _).from _) (Ao.alloc _ _) ⟨j1,BO j0 (bR.alloc nR _),j2.trans (Ao.alloc _ _),by go_simp,j4.alloc j4.size _,(Below.heap_alloc _ _ _ (Array.getElem?_eq_some_iff.1 j5).1).trans j5⟩ ⟨X.heap.size,rfl,by go_simp,by go_simp,by go_simp,by go_simp,by go_simp⟩
  ·intro l' i z a' X hx hl' hrec hIi hax
   obtain⟨j1,j0,j2,j3,j4,j5⟩:=hIi
   obtain⟨B,hax,e0,e1,e2,e3,e4⟩:=hax
   subst hax
   obtain⟨hi,_⟩:=List.getElem?_eq_some_iff.1 hx
   rw[lMp]at hi
   obtain⟨hil,hse⟩:=HE2.out i hi
   have hwp:=HW.out _ hil
   obtain⟨⟨ek,et,es,⟨r1,r2,r3⟩,em⟩,hz⟩:∃z,E2.getD i default=z:=⟨_,rfl⟩
   rw[hz]at e0 e1 e2 e3 e4 hse⊢
   dsimp only at e0 e1 e2 e3 e4 hse
   have hes:pl.i64 es:=by rw[hse];exact hwp
   have c0:=j2.cell Ae g02
   have c3:=j2.cell Ae g32
   have c8:=j2.cell Ae g82
   have lX:w.heap.size+1<X.heap.size:=bLt _ _ c3
   have hk0:=DM j0 hes
   have hlen:=RF L (n1+i)
   obtain⟨X1,hup,q0,hg1⟩:=Kh j0 hes (by have:=HLL.out;unfold maxLen;omega) (by have:=HLL.out;omega)
   have hk1:=DM q0 hes
   rw[Ki]at hk1
   have hMo:=Hu j0
   have HTN:Hid (n1+i<L.length/\es=(L.getD (n1+i) default).seq):=⟨hil,hse⟩
   have hcb:=List.count_le_length (a:=es) (l:=sqT L (n1+i))
   obtain⟨c,hc⟩:=nM ((sqT L (n1+i)).count es)
   have HCN:Hid ((sqT L (n1+i)).count es=c):=hc
   rw[hc]at hk0 hup hk1 hcb
   have hwr:IntKind.i64.wrap ((c:Int)+1)=(c:Int)+1:=by rw[IntKind.wrap_i64];have:=HLL.out;omega
   rw[Int.natCast_add,show((1:Nat):Int)=1 from rfl]at hk1
   have hrow:∀r,(some (w.heap.size+1+1):Option Nat)=some r->∃o:Obj,X.heap[r]? =some o/\o.isCells=false:=fun r e=>by cases e;exact hMo
   have d0:=cell_kept c0 hg1 hrow
   have d3:=cell_kept c3 hg1 hrow
   have d8:=cell_kept c8 hg1 hrow
   have d2:=cell_kept e2 hg1 hrow
   have df:=(frozen_kept c3 hg1 hrow).trans j3
   have HK:Hid (Ao EC X X1/\KeepsFrom V2.heap.size X X1/\Bwz w X1/\X1.heap[D1]? =some (.deferred (some []))):=⟨(Ao.refl _ _).grown hg1 hrow,⟨hg1.size,fun k o hk h _=>(hg1.block k (Array.getElem?_eq_some_iff.1 h).1 (fun e=>by cases e;omega)).trans h⟩,j4.grown hg1 j4.size (fun r e=>by cases e;omega),(hg1.block D1 (Array.getElem?_eq_some_iff.1 j5).1 (fun e=>by cases e;omega)).trans j5⟩
   have HJ:Hid (F7 sq L (n1+i)/\Ao EC V2 X):=⟨j1,j2⟩
   have HQ:Hid (Dt X1 (w.heap.size+1+1) (n1+i+1) (sqT L (n1+i)++[es])):=q0
   clear hz hx hc hMo hrow q0 j0 j1 j2 hwp hse hil
   by_cases h1:es<sq
   ·by_cases h2:c=0
    ·subst h2
     have z0:((0:Nat):Int)=0:=rfl
     rw[z0]at hk0
     rw[z0,Int.zero_add]at hup hk1 hwr
     gi_wp2
     have hsx:sqT L (n1+i+1)=sqT L (n1+i)++[es]:=by rw[Ic HTN.out.1,<-HTN.out.2]
     have hsf:F7 sq L (n1+i+1):=Ov HTN.out.1 HJ.out.1 (by rw[<-HTN.out.2];exact h1) (by rw[<-HTN.out.2];exact HCN.out)
     exact⟨HK.out.2.1,HK.out.1,by rw[show n1+(i+1)=n1+i+1 by omega];exact hsf,by rw[show n1+(i+1)=n1+i+1 by omega,hsx];exact HQ.out,HJ.out.2.trans HK.out.1,df,HK.out.2.2.1,HK.out.2.2.2⟩
    ·have h3:(1:Int)<(c:Int)+1:=by omega
     have HE:Hid (false=R):=by
      show _=_
      rw[<-HRR.out]
      exact(M4 HTN.out.1 (by rw[<-HTN.out.2,HCN.out];exact h2)).symm
     gi_wp2
     exact⟨HK.out.2.1.trans ((KeepsOthers.setCell _ _ _).from _),rfl,HE.out,World.cell?_setCell_same _ _ _ d3,HK.out.2.2.1.setCell (by dsimp only;omega) _,(heap_setCell_other _ _ _ _ (by dsimp only;omega)).trans HK.out.2.2.2⟩
   ·have HE:Hid (false=R):=by
     show _=_
     rw[<-HRR.out]
     exact(Ow HTN.out.1 (by rw[<-HTN.out.2];exact h1)).symm
    have h3:sq<=es:=by omega
    gi_wp2
    first
     |exact⟨HK.out.2.1.trans ((KeepsOthers.setCell _ _ _).from _),rfl,HE.out,World.cell?_setCell_same _ _ _ d3,HK.out.2.2.1.setCell (by dsimp only;omega) _,(heap_setCell_other _ _ _ _ (by dsimp only;omega)).trans HK.out.2.2.2⟩
     |exact⟨by rw[<-G9];exact HK.out.2.1.trans ((KeepsOthers.setCell _ _ _).from _),rfl,HE.out.symm,World.cell?_setCell_same _ _ _ d3,HK.out.2.2.1.setCell (by dsimp only;omega) _⟩
     |exact⟨by rw[<-G9];exact HK.out.2.1.trans ((KeepsOthers.setCell _ _ _).from _),rfl,HE.out.symm,World.cell?_setCell_same _ _ _ d3,HK.out.2.2.1.setCell (by dsimp only;omega) _,(heap_setCell_other _ _ _ _ (by dsimp only;omega)).trans HK.out.2.2.2⟩
  ·rintro D2 X2 hD2 ⟨j1',j0',j2',j3',j4',j5'⟩ hK2
   have c3:=j2'.cell Ae g32
   have HE:Hid (true=R):=by
    show _=_
    rw[<-HRR.out]
    symm
    refine Xd ?_
    rw[lMp,HM2.out,<-HLN.out]at j1'
    exact j1'
   gi_wp2
   rw[roundsIn_succ]
   gi_wp2
   have hK2b:(X2.setCell ⟨w.heap.size+1,0,none⟩ (.bool true)).heap[D2]? =some (.deferred (some [])):=(heap_setCell_other _ _ _ _ (by dsimp only;omega)).trans hK2
   refine⟨by simp,.inl ⟨_,_,rfl,run_takeDeferred hK2b,?_⟩⟩
   have hK1c:((X2.setCell ⟨w.heap.size+1,0,none⟩ (.bool true)).putObj D2 (.deferred none)).heap[D1]? =some (.deferred (some [])):=(World.putObj_heap_other (by omega)).trans ((heap_setCell_other _ _ _ _ (by dsimp only;omega)).trans j5')
   refine⟨by simp,.inl ⟨_,_,rfl,run_takeDeferred hK1c,?_⟩⟩
   have y3:=Cj (Cj (World.cell?_setCell_same _ _ (.bool true) c3) hK2b rfl (.deferred none)) hK1c rfl (.deferred none)
   exact⟨.bool true,(by simp[results,results78,go_sem,y3]),Aa HE.out,Ci (Ci (j4'.setCell (by dsimp only;omega) _) (by omega) hK2b _) (by omega) hK1c _⟩
  ·rintro D2 c X2 hD2 ⟨rfl,hE,c3,j4,j5⟩ hK2
   gi_wp2
   refine⟨by simp,.inl ⟨_,_,rfl,run_takeDeferred hK2,?_⟩⟩
   have hK1c:(X2.putObj D2 (.deferred none)).heap[D1]? =some (.deferred (some [])):=(World.putObj_heap_other (by omega)).trans j5
   refine⟨by simp,.inl ⟨_,_,rfl,run_takeDeferred hK1c,?_⟩⟩
   have y3:=Cj (Cj c3 hK2 rfl (.deferred none)) hK1c rfl (.deferred none)
   exact⟨.bool false,(by simp[results,results78,go_sem,y3]),Aa hE,Ci (Ci j4 (by omega) hK2 _) (by omega) hK1c _⟩
 ·rintro D1 c X1 hD1 ⟨rfl,hE,c3,j4,j5⟩ hK1
  gi_wp2
  refine⟨by simp,.inl ⟨_,_,rfl,run_takeDeferred hK1,?_⟩⟩
  have y3:=Cj c3 hK1 rfl (.deferred none)
  exact⟨.bool false,(by simp[results,results78,go_sem,y3]),Aa hE,Ci j4 (by omega) hK1 _⟩
end jn
end Go.Proofs.YtdohnkkbkfhphaaGreat
