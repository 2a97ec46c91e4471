import Derived.Test.YtdohnkkbkfhphaaGreatPq5
set_option linter.all false
set_option maxHeartbeats 8000000
set_option maxRecDepth 100000
namespace Go.Proofs.YtdohnkkbkfhphaaGreat
open Go.Proofs.Tryz
namespace bf
open Go.ChangeShapes Go.WideShapes Go.ChangeAt Go.RowKit
open vl
variable {P : Program} {md : Region.Mode} {ops : Array Oper} {Q : Exit -> Act -> World -> Prop} {S : World -> Prop} {fuel i n : Nat} {listed : Array Bool} {a : Act} {w : World} {oi : Oper} {l : List Ent}
theorem WO(i:Nat)(d:Option Tmp)(hi:ops[i]? =some oi)
 (hs:Region.noSelect ops=true) (hf:Region.free md ops listed i=true) (hr:(Region.ready md ops listed).contains i=true) (hQ:∀c a w,Q (.panic c) (a.put oi.dst undef) w->Q (.panic c) a w) (hd:oi.dst=d)
 (hw:Region.wanted oi (yielded ops a.tmps)=false) (hS:S w) (h:wpAnyH P md ops Q S fuel (listed.setIfInBounds i true) (a.put d undef) w):wpAnyH P md ops Q S (fuel+1) listed a w:=
 wpAnyH_take hi hs hf hr hQ (Or.inr ⟨hw,rfl⟩) hS (by rw[hd];exact h)
theorem WP{v:Value}(i:Nat)(d:Option Tmp)(hi:ops[i]? =some oi)
 (hs:Region.noSelect ops=true) (hf:Region.free md ops listed i=true) (hr:(Region.ready md ops listed).contains i=true) (hQ:∀c a w,Q (.panic c) (a.put oi.dst v) w->Q (.panic c) a w) (hd:oi.dst=d)
 (hw:Region.wanted oi (yielded ops a.tmps)=true) (hy:∀w,S w->(execOp a.eval oi).run P w= .ok (.value v) w) (hS:S w) (h:wpAnyH P md ops Q S fuel (listed.setIfInBounds i true) (a.put d v) w):wpAnyH P md ops Q S (fuel+1) listed a w:=
 wpAnyH_take hi hs hf hr hQ (Or.inl ⟨hw,hy⟩) hS (by rw[hd];exact h)
def allB(n:Nat)(P:Nat->Bool):Bool:=(List.range n).all P
theorem AJ{P:Nat->Bool}:allB n P=true↔ ∀i,i<n->P i=true:=by simp[allB]
theorem Eg{P:Nat->Bool}(hi:i<n)(h:P i=false):allB n P=false:=by
 rcases Bool.eq_false_or_eq_true (allB n P)with h1|h1
 ·have:=AJ.1 h1 i hi;rw[h]at this;cases this
 ·exact h1
theorem LJ(fn:FuncId)(eg:∀args w,(callFunc fn args).run Tryz.prog w= .ok (.enter fn args) w)(caps:Array Value)(P:Nat->Bool)(a:Option Addr)(cap:Nat)(l:List EM)(w:World)(hl:l.length<=9223372036854775807)(ha:Do w a l)
 (H:∀i w1,i<l.length->Bwz w w1->Calls Tryz.prog fn (#[.int .i64 (i:Nat),(l.getD i default).val]++caps) w1 fun e w'=>e= .returned (.bool (P i))/\Bwz w1 w'):
 Calls Tryz.prog 181 #[.slice a l.length cap,.func (.func fn) #[] caps] w fun e w'=>e= .returned (.bool (allB l.length P))/\Bwz w w':=by
 have HH:Hid (∀i w1,i<l.length->Bwz w w1->Calls Tryz.prog fn (#[.int .i64 (i:Nat),(l.getD i default).val]++caps) w1 fun e w'=>e= .returned (.bool (P i))/\Bwz w1 w'):=H
 clear H
 obtain⟨n,hn⟩:∃n,l.length=n:=⟨_,rfl⟩
 have HN:Hid (l.length=n):=hn
 rw[hn]at hl⊢
 clear hn
 go_enter func181,ntmps181
 go_wp2
 go_loopw [9] (fun i wr=> ∃k:Nat,k<=n/\i= .int .i64 k/\Bwz w wr/\∀i,i<k->P i=true) (fun i _=>n - (intOf i).toNat)
 case atStart=>exact⟨0,Nat.zero_le _,rfl,bR,fun i hi=>absurd hi (Nat.not_lt_zero i)⟩
 case round=>
  obtain⟨k,hk,rfl,hnx,hall⟩:=hrel
  have HA:Hid (∀i,i<k->P i=true):=hall
  clear hall
  by_cases hlt:k<n
  ·obtain⟨b,o,e,x1,x2,x3,x4,x5⟩:=ha k (by rw[HN.out];exact hlt)
   subst e
   have q1:=cLz hnx x1
   have q2:=cLz hnx x2
   have q3:=cLz hnx x3
   have q4:=cLz hnx x4
   have q5:=cLz hnx x5
   clear x1 x2 x3 x4 x5 ha
   have i1:(0:Int)<=(k:Int):=by omega
   have i2:(k:Int)<(n:Int):=by omega
   have KK:Hid (∀w1,Bwz wr w1->Calls Tryz.prog fn (#[.int .i64 (k:Nat),(l.getD k default).val]++caps) w1 fun e w'=>e= .returned (.bool (P k))/\Bwz w1 w'):=fun w1 hb=>HH.out k w1 (by rw[HN.out];exact hlt) (hnx.trans (hb.mono hnx.size))
   obtain⟨⟨ek,et,es,⟨r1,r2,r3⟩,em⟩,hz⟩:∃z,l.getD k default=z:=⟨_,rfl⟩
   rw[hz]at q1 q2 q3 q4 q5 KK
   unfold EM.val hdV at KK
   unfold hdV at q4
   dsimp only at q1 q2 q3 q4 q5 KK
   clear hz
   have hsz:=hnx.size
   cases hp:P k with
   |true=>
    rw[hp]at KK
    go_wp2_with (go_at_fn fn;refine(KK.out _ (bR.alloc nR _)).mono ?_;rintro e w1 ⟨rfl,hb1⟩;have hbx:=(hnx.alloc hsz _).trans (hb1.mono (by simp;omega)))
    go_roundw
    case rel=>exact⟨k+1,by omega,by go_num,hbx,fun i hi=>by
     rcases Nat.lt_succ_iff_lt_or_eq.1 hi with h|h
     ·exact HA.out i h
     ·rw[h];exact hp⟩
    case measure=>simp[intOf];omega
   |false=>
    have HE:Hid (allB n P=false):=Eg hlt hp
    rw[hp]at KK
    go_wp2_with (go_at_fn fn;refine(KK.out _ (bR.alloc nR _)).mono ?_;rintro e w1 ⟨rfl,hb1⟩;have hbx:=(hnx.alloc hsz _).trans (hb1.mono (by simp;omega)))
    go_ret
    exact⟨Aa HE.out.symm,hbx⟩
  ·have HE:Hid (allB n P=true):=AJ.2 (fun i hi=>HA.out i (by omega))
   go_wp2
   go_ret
   exact⟨Aa HE.out.symm,hnx⟩
theorem LK(fn:FuncId)(eg:∀args w,(callFunc fn args).run Tryz.prog w= .ok (.enter fn args) w)(caps:Array Value)(P:Nat->Bool)(a:Option Addr)(cap:Nat)(l:List Hdr)(w:World)(hl:l.length<=9223372036854775807)(ha:Hb w a l)
 (H:∀i w1,i<l.length->Bwz w w1->Calls Tryz.prog fn (#[.int .i64 (i:Nat),hdV (l.getD i (none,0,0))]++caps) w1 fun e w'=>e= .returned (.bool (P i))/\Bwz w1 w'):
 Calls Tryz.prog 184 #[.slice a l.length cap,.func (.func fn) #[] caps] w fun e w'=>e= .returned (.bool (allB l.length P))/\Bwz w w':=by
 have HH:Hid (∀i w1,i<l.length->Bwz w w1->Calls Tryz.prog fn (#[.int .i64 (i:Nat),hdV (l.getD i (none,0,0))]++caps) w1 fun e w'=>e= .returned (.bool (P i))/\Bwz w1 w'):=H
 clear H
 obtain⟨n,hn⟩:∃n,l.length=n:=⟨_,rfl⟩
 have HN:Hid (l.length=n):=hn
 rw[hn]at hl⊢
 clear hn
 go_enter func184,ntmps184
 go_wp2
 go_loopw [9] (fun i wr=> ∃k:Nat,k<=n/\i= .int .i64 k/\Bwz w wr/\∀i,i<k->P i=true) (fun i _=>n - (intOf i).toNat)
 case atStart=>exact⟨0,Nat.zero_le _,rfl,bR,fun i hi=>absurd hi (Nat.not_lt_zero i)⟩
 case round=>
  obtain⟨k,hk,rfl,hnx,hall⟩:=hrel
  have HA:Hid (∀i,i<k->P i=true):=hall
  clear hall
  by_cases hlt:k<n
  ·obtain⟨b,o,e,x1⟩:=ha k (by rw[HN.out];exact hlt)
   subst e
   have q1:=cLz hnx x1
   clear x1 ha
   have i1:(0:Int)<=(k:Int):=by omega
   have i2:(k:Int)<(n:Int):=by omega
   have KK:Hid (Calls Tryz.prog fn (#[.int .i64 (k:Nat),hdV (l.getD k (none,0,0))]++caps) wr fun e w'=>e= .returned (.bool (P k))/\Bwz wr w'):=HH.out k wr (by rw[HN.out];exact hlt) hnx
   obtain⟨⟨z1,z2,z3⟩,hz⟩:∃z,l.getD k (none,0,0)=z:=⟨_,rfl⟩
   rw[hz]at q1 KK
   unfold hdV at q1 KK
   dsimp only at q1 KK
   clear hz
   have hsz:=hnx.size
   cases hp:P k with
   |true=>
    rw[hp]at KK
    go_wp2_with (go_at_fn fn;refine KK.out.mono ?_;rintro e w1 ⟨rfl,hb1⟩)
    go_roundw
    case rel=>exact⟨k+1,by omega,by go_num,hnx.trans (hb1.mono hsz),fun i hi=>by
     rcases Nat.lt_succ_iff_lt_or_eq.1 hi with h|h
     ·exact HA.out i h
     ·rw[h];exact hp⟩
    case measure=>simp[intOf];omega
   |false=>
    have HE:Hid (allB n P=false):=Eg hlt hp
    rw[hp]at KK
    go_wp2_with (go_at_fn fn;refine KK.out.mono ?_;rintro e w1 ⟨rfl,hb1⟩)
    go_ret
    exact⟨Aa HE.out.symm,hnx.trans (hb1.mono hsz)⟩
  ·have HE:Hid (allB n P=true):=AJ.2 (fun i hi=>HA.out i (by omega))
   go_wp2
   go_ret
   exact⟨Aa HE.out.symm,hnx⟩
theorem Oo(i:Int)(h:Hdr)(w:World):Calls Tryz.prog 185 #[.int .i64 i,hdV h] w fun e w'=>e= .returned (.bool (decide (0<h.2.1)))/\Bwz w w':=by
 obtain⟨z1,z2,z3⟩:=h
 unfold hdV
 dsimp only
 by_cases h0:0<z2
 ·have HE:Hid (decide (0<z2)=true):=decide_eq_true h0
  go_enter func185,ntmps185
  go_wp2
  go_ret
  exact⟨Aa (by rw[HE.out]),bR⟩
 ·have HE:Hid (decide (0<z2)=false):=decide_eq_false h0
  go_enter func185,ntmps185
  go_wp2
  go_ret
  exact⟨Aa (by rw[HE.out]),bR⟩
noncomputable def DR(l:List Ent)(i:Nat):Bool:=Ep (l.getD i default)&&(decide (i=0)||decide (ltP (l.getD (i - 1) default) (l.getD i default)))
theorem QE(h:Ep (l.getD i default)=false):DR l i=false:=by unfold DR;rw[h];rfl
theorem Oq(h:Ep (l.getD 0 default)=true):DR l 0=true:=by unfold DR;rw[h];rfl
theorem Ot(h:Ep (l.getD i default)=true)(hi:i≠0):DR l i=decide (ltP (l.getD (i - 1) default) (l.getD i default)):=by
 unfold DR;rw[h,decide_eq_false hi];rfl
theorem QF(a:Option Addr)(cap:Nat)(es:List EM)(l:List Ent)(i:Nat)(PB:Nat)(w:World)(hi:i<l.length)(hl:l.length<=9223372036854775807)(hP:w.cell? ⟨PB,0,none⟩=some (.slice a l.length cap))(ha:Do w a es)(hr:ERs w es l)(hwf:∀x∈l,wfE x):
 Calls Tryz.prog 182 #[.int .i64 i,(es.getD i default).val,.pointer (some ⟨PB,0,none⟩)] w fun e w'=>e= .returned (.bool (DR l i))/\Bwz w w':=by
 have hmem:l.getD i default∈l:=by simp[gDe,hi]
 have KE:Hid (∀w1,Bwz w w1->Calls Tryz.prog 183 #[(es.getD i default).val] w1 fun r w'=>r= .returned (.bool (Ep (l.getD i default)))/\Bwz w1 w'):=fun w1 hb=>Fz _ _ w1 ((hr.2 i hi).below hb) (hwf _ hmem)
 have lP:PB<w.heap.size:=bLt _ _ hP
 obtain⟨n,hn⟩:=nM l.length
 rw[hn]at hP hl hi
 have HL:Hid (l.length=n):=hn
 have HR:Hid (Do w a es/\ERs w es l):=⟨ha,hr⟩
 obtain⟨e,he⟩:=nM (es.getD i default)
 have HEE:Hid (es.getD i default=e):=he
 rw[he]at KE⊢
 clear hn ha hr hwf hmem he
 obtain⟨R,hR⟩:=nM (DR l i)
 have HRR:Hid (DR l i=R):=hR
 rw[hR]
 clear hR
 cases hf:Ep (l.getD i default)with
 |false=>
  have HE:Hid (false=R):=by show _=_;rw[<-HRR.out,QE hf]
  rw[hf]at KE
  obtain⟨k1,t1,s1,⟨a1,b1,c1⟩,m1⟩:=e
  unfold EM.val hdV at KE⊢
  dsimp only at KE⊢
  have hb0:Bwz w (w.alloc (.cells #[.string k1,.int .i64 t1,.int .i64 s1,.slice a1 b1 c1,.bool m1] 63)):=bR.alloc nR _
  go_enter func182,ntmps182
  go_wp2
  refine wp_region_held_drew (S:=(fun w'=>w'.cell? ⟨w.heap.size,0,none⟩=some (.string k1)/\w'.cell? ⟨w.heap.size,1,none⟩=some (.int .i64 t1)/\w'.cell? ⟨w.heap.size,2,none⟩=some (.int .i64 s1)/\w'.cell? ⟨w.heap.size,3,none⟩=some (.slice a1 b1 c1)/\w'.cell? ⟨w.heap.size,4,none⟩=some (.bool m1))) (by kernel_rfl) ⟨by go_simp,by go_simp,by go_simp,by go_simp,by go_simp⟩ (fun hHz=>?_)
  refine tkz 0 6 hHz ?_
  refine wpAnyH_ready (rs:=[1]) (by kernel_rfl) (by simp) ?_
  refine AllReadyH.cons rfl (fun K hK=>?_) AllReadyH.nil
  go_simp
  refine(KE.out _ hb0.drew).mono ?_
  rintro e w2 ⟨rfl,hb2⟩
  go_wp2_with fail
  refine hK.out _ _ ⟨cLz hb2 hHz.1,cLz hb2 hHz.2.1,cLz hb2 hHz.2.2.1,cLz hb2 hHz.2.2.2.1,cLz hb2 hHz.2.2.2.2⟩ (fun hHz=>?_)
  clear hK K
  try simp only[Act.put,sI,sZ,sS]
  refine tkz 2 8 hHz ?_;refine sk 3 9 hHz ?_;refine sk 4 10 hHz ?_;refine sk 5 11 hHz ?_;refine sk 6 12 hHz ?_;refine sk 7 13 hHz ?_;refine sk 8 14 hHz ?_;refine sk 9 15 hHz ?_;refine sk 10 16 hHz ?_;refine sk 11 17 hHz ?_;refine sk 12 18 hHz ?_;refine sk 13 19 hHz ?_;refine sk 14 20 hHz ?_;refine tkz 15 21 hHz ?_;refine tkz 16 5 hHz ?_
  refine wpAnyH_done (by kernel_rfl) ?_ _
  go_wp2
  go_ret
  exact⟨Aa HE.out,hb0.drew.trans (hb2.mono hb0.drew.size)⟩
 |true=>
  rw[hf]at KE
  by_cases h0:i=0
  ·subst h0
   have HE:Hid (true=R):=by show _=_;rw[<-HRR.out,Oq hf]
   obtain⟨k1,t1,s1,⟨a1,b1,c1⟩,m1⟩:=e
   unfold EM.val hdV at KE⊢
   dsimp only at KE⊢
   have hb0:Bwz w (w.alloc (.cells #[.string k1,.int .i64 t1,.int .i64 s1,.slice a1 b1 c1,.bool m1] 63)):=bR.alloc nR _
   go_enter func182,ntmps182
   go_wp2
   refine wp_region_held_drew (S:=(fun w'=>w'.cell? ⟨w.heap.size,0,none⟩=some (.string k1)/\w'.cell? ⟨w.heap.size,1,none⟩=some (.int .i64 t1)/\w'.cell? ⟨w.heap.size,2,none⟩=some (.int .i64 s1)/\w'.cell? ⟨w.heap.size,3,none⟩=some (.slice a1 b1 c1)/\w'.cell? ⟨w.heap.size,4,none⟩=some (.bool m1))) (by kernel_rfl) ⟨by go_simp,by go_simp,by go_simp,by go_simp,by go_simp⟩ (fun hHz=>?_)
   refine tkz 0 6 hHz ?_
   refine wpAnyH_ready (rs:=[1]) (by kernel_rfl) (by simp) ?_
   refine AllReadyH.cons rfl (fun K hK=>?_) AllReadyH.nil
   go_simp
   refine(KE.out _ hb0.drew).mono ?_
   rintro e w2 ⟨rfl,hb2⟩
   go_wp2_with fail
   refine hK.out _ _ ⟨cLz hb2 hHz.1,cLz hb2 hHz.2.1,cLz hb2 hHz.2.2.1,cLz hb2 hHz.2.2.2.1,cLz hb2 hHz.2.2.2.2⟩ (fun hHz=>?_)
   clear hK K
   try simp only[Act.put,sI,sZ,sS]
   refine tkz 2 8 hHz ?_;refine tkz 3 9 hHz ?_;refine tkz 4 10 hHz ?_;refine tkz 5 11 hHz ?_;refine sk 6 12 hHz ?_;refine sk 7 13 hHz ?_;refine sk 8 14 hHz ?_;refine sk 9 15 hHz ?_;refine sk 10 16 hHz ?_;refine sk 11 17 hHz ?_;refine sk 12 18 hHz ?_;refine sk 13 19 hHz ?_;refine tkz 14 20 hHz ?_;refine tkz 15 21 hHz ?_;refine tkz 16 5 hHz ?_
   refine wpAnyH_done (by kernel_rfl) ?_ _
   go_wp2
   go_ret
   exact⟨Aa HE.out,hb0.drew.trans (hb2.mono hb0.drew.size)⟩
  ·obtain⟨b,o,ea,x1,x2,x3,x4,x5⟩:=HR.out.1 (i - 1) (by rw[HR.out.2.1,HL.out];omega)
   have KP:Hid (∀w1,Calls Tryz.prog 116 #[(es.getD (i - 1) default).val,e.val] w1 fun r w'=>r= .returned (.int .i64 (Dj (l.getD (i - 1) default) (l.getD i default)))/\Bwz w1 w'):=fun w1=>by
    have h1:=HR.out.2.2 (i - 1) (by rw[HL.out];omega)
    have h2:=HR.out.2.2 i (by rw[HL.out];omega)
    rw[HEE.out]at h2
    have:=Nt (es.getD (i - 1) default) e w1
    rwa[Tk h1 h2]at this
   have hcm:decide (Dj (l.getD (i - 1) default) (l.getD i default)<0)=R:=by
    rw[<-HRR.out,Ot hf h0];exact decide_eq_decide.2 Ns
   obtain⟨C,hC⟩:=nM (Dj (l.getD (i - 1) default) (l.getD i default))
   rw[hC]at KP hcm
   subst ea
   obtain⟨⟨k2,t2,s2,⟨a2,b2,c2⟩,m2⟩,hz⟩:∃z,es.getD (i - 1) default=z:=⟨_,rfl⟩
   rw[hz]at x1 x2 x3 x4 x5 KP
   obtain⟨j,hj⟩:∃j,i=j+1:=⟨i - 1,by omega⟩
   subst hj
   have hjj:j+1 - 1=j:=by omega
   rw[hjj]at x1 x2 x3 x4 x5
   obtain⟨k1,t1,s1,⟨a1,b1,c1⟩,m1⟩:=e
   unfold EM.val hdV at KE KP⊢
   unfold hdV at x4
   dsimp only at KE KP x1 x2 x3 x4 x5⊢
   have HCM:Hid (decide (C<0)=R):=hcm
   obtain⟨I,hI⟩:∃I:Int,((j+1:Nat):Int)=I:=⟨_,rfl⟩
   have hwr:IntKind.i64.wrap (I - 1)=(j:Int):=by rw[<-hI,IntKind.wrap_i64];omega
   have hz0:(I==0)=false:=by rw[<-hI];simp;omega
   rw[hI]
   have i1:(0:Int)<=(j:Int):=by omega
   have i2:(j:Int)<(n:Int):=by omega
   have lb:b<w.heap.size:=bLt _ _ x1
   clear hz hC hcm h0 hjj hI
   have hb0:Bwz w (w.alloc (.cells #[.string k1,.int .i64 t1,.int .i64 s1,.slice a1 b1 c1,.bool m1] 63)):=bR.alloc nR _
   go_enter func182,ntmps182
   go_wp2
   have b0:(w.alloc (.cells #[.string k1,.int .i64 t1,.int .i64 s1,.slice a1 b1 c1,.bool m1] 63)).cell? ⟨w.heap.size,0,none⟩=some (.string k1):=by go_simp
   have b1':(w.alloc (.cells #[.string k1,.int .i64 t1,.int .i64 s1,.slice a1 b1 c1,.bool m1] 63)).cell? ⟨w.heap.size,1,none⟩=some (.int .i64 t1):=by go_simp
   have b2':(w.alloc (.cells #[.string k1,.int .i64 t1,.int .i64 s1,.slice a1 b1 c1,.bool m1] 63)).cell? ⟨w.heap.size,2,none⟩=some (.int .i64 s1):=by go_simp
   have b3':(w.alloc (.cells #[.string k1,.int .i64 t1,.int .i64 s1,.slice a1 b1 c1,.bool m1] 63)).cell? ⟨w.heap.size,3,none⟩=some (.slice a1 b1 c1):=by go_simp
   have b4':(w.alloc (.cells #[.string k1,.int .i64 t1,.int .i64 s1,.slice a1 b1 c1,.bool m1] 63)).cell? ⟨w.heap.size,4,none⟩=some (.bool m1):=by go_simp
   have p0:=cLz hb0 hP
   have y1:=cLz hb0 x1
   have y2:=cLz hb0 x2
   have y3:=cLz hb0 x3
   have y4:=cLz hb0 x4
   have y5:=cLz hb0 x5
   generalize w.alloc (.cells #[.string k1,.int .i64 t1,.int .i64 s1,.slice a1 b1 c1,.bool m1] 63)=V at *
   go_region_held3 (fun w'=>w'.cell? ⟨w.heap.size,0,none⟩=some (.string k1)/\w'.cell? ⟨w.heap.size,1,none⟩=some (.int .i64 t1)/\w'.cell? ⟨w.heap.size,2,none⟩=some (.int .i64 s1)/\w'.cell? ⟨w.heap.size,3,none⟩=some (.slice a1 b1 c1)/\w'.cell? ⟨w.heap.size,4,none⟩=some (.bool m1)/\w'.cell? ⟨PB,0,none⟩=some (.slice (some ⟨b,o,none⟩) n cap)/\w'.cell? ⟨b,o+j * 5,none⟩=some (.string k2)/\w'.cell? ⟨b,o+j * 5+1,none⟩=some (.int .i64 t2)/\w'.cell? ⟨b,o+j * 5+1+1,none⟩=some (.int .i64 s2)/\w'.cell? ⟨b,o+j * 5+1+1+1,none⟩=some (.slice a2 b2 c2)/\w'.cell? ⟨b,o+j * 5+1+1+1+1,none⟩=some (.bool m2))
    (first|go_keep|exact⟨cLz hbA b0,cLz hbA b1',cLz hbA b2',cLz hbA b3',cLz hbA b4',cLz hbA p0,cLz hbA y1,cLz hbA y2,cLz hbA y3,cLz hbA y4,cLz hbA y5⟩|exact⟨cLz hbF b0,cLz hbF b1',cLz hbF b2',cLz hbF b3',cLz hbF b4',cLz hbF p0,cLz hbF y1,cLz hbF y2,cLz hbF y3,cLz hbF y4,cLz hbF y5⟩)
    (first
     |(go_at_call 183;refine(KE.out V.drew hb0.drew).mono ?_;rintro e wA ⟨rfl,hbA0⟩;have hbA:Bwz V wA:=bR.drew.trans hbA0)
     |(go_at_call 116;refine(KP.out wA).mono ?_;rintro e wF ⟨rfl,hbF0⟩;have hbF:Bwz V wF:=hbA.trans (hbF0.mono hbA.size)))
   all_goals
    go_wp2
    go_ret
    exact⟨Aa HCM.out,hb0.trans (hbF.mono hb0.size)⟩
end bf
namespace bf
open Go.ChangeShapes Go.WideShapes Go.ChangeAt Go.RowKit
variable {W : World} {M : Nat}
abbrev Plc:=ByteArray×Int×Int
def Bn(p:Plc):Value:=.agg #[.string p.1,.int .i64 p.2.1,.int .i64 p.2.2]
theorem bytes_beq(a b:ByteArray):(a.toList==b.toList)=decide (a=b):=by
 by_cases h:a=b
 ·subst h;simp
 ·rw[decide_eq_false h,beq_eq_false_iff_ne]
  intro e
  exact h (ByteArray.ext (Array.ext' (by rwa[Lib.toList_data,Lib.toList_data]at e)))
theorem Ou(a b:Plc)(w:World):(Op.equal 232 (Bn a) (Bn b)).run Tryz.prog w= .ok (decide (a=b)) w:=by
 obtain⟨k1,t1,s1⟩:=a
 obtain⟨k2,t2,s2⟩:=b
 show(Op.equalIn 10000 232 (Bn (k1,t1,s1)) (Bn (k2,t2,s2))).run Tryz.prog w=_
 unfold Bn
 have h:(binOp .eql 232 (.agg #[.string k1,.int .i64 t1,.int .i64 s1]) (.agg #[.string k2,.int .i64 t2,.int .i64 s2])).run Tryz.prog w= .ok (.bool (decide ((k1,t1,s1)=(k2,t2,s2)))) w:=by
  by_cases h1:k1.toList=k2.toList
  ·have e1:k1=k2:=by have:=bytes_beq k1 k2;rw[h1]at this;simpa using this.symm
   subst e1
   by_cases h2:t1=t2
   ·subst h2
    by_cases h3:s1=s2
    ·subst h3;go_simp
    ·have h3':(s1==s2)=false:=by simpa using h3
     go_simp
   ·have h2':(t1==t2)=false:=by simpa using h2
    go_simp
  ·have e1:k1≠k2:=fun e=>h1 (by rw[e])
   go_simp
 rw[run_eql_struct]at h
 cases hh:(Op.equalIn 10000 232 (.agg #[.string k1,.int .i64 t1,.int .i64 s1]) (.agg #[.string k2,.int .i64 t2,.int .i64 s2])).run Tryz.prog w with
 |ok b w'=>
  rw[hh]at h
  simp only[Result.andThen]at h
  injection h with h1 h2
  injection h1 with h1
  rw[h1,h2]
 |_=>rw[hh]at h;simp[Result.andThen]at h
structure wfP(a:Plc):Prop where
 key:a.1.size<=maxLen
 time: -9223372036854775808<=a.2.1/\a.2.1<=9223372036854775807
 seq: -9223372036854775808<=a.2.2/\a.2.2<=9223372036854775807
theorem Jf{n:Int}(h: -9223372036854775808<=n/\n<=9223372036854775807):(Lit.int .i64 n).wf=true:=by
 show(decide (IntKind.i64.min<=n)&&decide (n<=IntKind.i64.max))=true
 have e1:IntKind.i64.min= -9223372036854775808:=by decide
 have e2:IntKind.i64.max=9223372036854775807:=by decide
 rw[e1,e2,decide_eq_true h.1,decide_eq_true h.2];rfl
theorem Ov(a b c:Value):Tryz.prog.keyLits 3 232 [a,b,c]=([Tryz.prog.keyLits 2 9 [a],Tryz.prog.keyLits 2 3 [b],Tryz.prog.keyLits 2 3 [c]].mapM id).map List.flatten:=by kernel_rfl
theorem Sw(k:ByteArray)(h:k.size<=maxLen):Tryz.prog.keyLits 2 9 [.string k]=some [.string k.data.toList]:=by
 have e:Tryz.prog.keyLits 2 9 [.string k]=if k.size<=maxLen then some [.string k.data.toList]else none:=by
  unfold Program.keyLits;rw[underlying9]
 rw[e,if_pos h]
theorem MP(n:Int)(h:(Lit.int .i64 n).wf=true):Tryz.prog.keyLits 2 3 [.int .i64 n]=some [.int .i64 n]:=by
 have e:Tryz.prog.keyLits 2 3 [.int .i64 n]=if IntKind.i64=IntKind.i64/\(Lit.int .i64 n).wf=true then some [.int .i64 n]else none:=by
  unfold Program.keyLits;rw[underlying3]
 rw[e,if_pos ⟨rfl,h⟩]
theorem FF(em:Bool)(a:Plc)(w:World)(h:wfP a):(Instr.checkKey em 10000 232 (Bn a)).run Tryz.prog w= .ok () w:=by
 have:=run_checkKey_deep (P:=Tryz.prog) em 9997 3 232 (by kernel_rfl) w 3 (Bn a) [.string a.1.data.toList,.int .i64 a.2.1,.int .i64 a.2.2] (by kernel_rfl) (by
  show Tryz.prog.keyLits 3 232 [.string a.1,.int .i64 a.2.1,.int .i64 a.2.2]=_
  rw[Ov,Sw _ h.key,MP _ (Jf h.time),MP _ (Jf h.seq)]
  rfl)
 exact this
section
variable {p : Plc} {w : World}
theorem Ig:∀(es:List MapEntry) (i:Nat),(∀e∈es,∃q,e.key=Bn q/\q≠p)->(Instr.findAsking 232 (Bn p) es i).run Tryz.prog w= .ok none w
 |[],i,_=>by simp[Instr.findAsking]
 |e::es,i,h=>by
  obtain⟨q,hq,hne⟩:=h e (List.mem_cons_self ..)
  have ih:=Ig es (i+1) (fun x hx=>h x (List.mem_cons_of_mem _ hx))
  have hd:decide (p=q)=false:=decide_eq_false (fun h=>hne h.symm)
  simp only[Instr.findAsking,Sem.run_bind,hq,Ou,Result.andThen_ok,hd,Bool.false_eq_true,if_false]
  exact ih
theorem Ih{e:MapEntry}(he:e.key=Bn p)(B:List MapEntry):∀(A:List MapEntry) (i:Nat),(∀e∈A,∃q,e.key=Bn q/\q≠p)->(Instr.findAsking 232 (Bn p) (A++e::B) i).run Tryz.prog w= .ok (some (i+A.length,e.val)) w
 |[],i,_=>by
  simp only[List.nil_append,Instr.findAsking,Sem.run_bind,he,Ou,Result.andThen_ok,decide_true,if_true]
  simp
 |x::A,i,h=>by
  obtain⟨q,hq,hne⟩:=h x (List.mem_cons_self ..)
  have ih:=Ih he B A (i+1) (fun x hx=>h x (List.mem_cons_of_mem _ hx))
  have hd:decide (p=q)=false:=decide_eq_false (fun h=>hne h.symm)
  simp only[List.cons_append,Instr.findAsking,Sem.run_bind,hq,Ou,Result.andThen_ok,hd,Bool.false_eq_true,if_false]
  rw[ih,List.length_cons]
  congr 3
  omega
theorem GO(es:List MapEntry):(Instr.findKey 232 (Bn p) es).run Tryz.prog w=(Instr.findAsking 232 (Bn p) es 0).run Tryz.prog w:=by
 unfold Instr.findKey
 simp only[Sem.run_bind,run_underlying underlying232,Result.andThen_ok]
 cases es with
 |nil=>simp[Instr.findNow,Instr.findAsking]
 |cons e es=>
  have h:∀fs,Instr.findNow (.struct fs) (Bn p) (e::es) 0=none:=fun fs=>by
   simp[Instr.findNow,Instr.sameNow]
  rw[h]
variable {M clock : Nat} {es : Array MapEntry}
theorem GP(h:w.heap[M]? =some (.map es clock)):(getObj M).run Tryz.prog w= .ok (.map es clock) w:=by simp[getObj,Sem.run,h]
theorem LL(o':Obj)(h:w.heap[M]? =some (.map es clock)):(setObj M o').run Tryz.prog w= .ok () (w.putObj M o'):=by simp[setObj,Sem.run,h,World.putObj]
theorem VF(w:World):(zeroValue 3).run Tryz.prog w= .ok (.int .i64 0) w:=Tryz.zeroValue3 w
theorem QG(hm:w.heap[M]? =some (.map es clock))(hp:wfP p)(hn:∀e∈es.toList,∃q,e.key=Bn q/\q≠p):
 (Instr.lookup 230 (.map (some M)) (Bn p) false).run Tryz.prog w= .ok (.int .i64 0) w:=by
 unfold Instr.lookup
 simp only[Sem.run_bind,run_underlying underlying230,Result.andThen_ok,GP hm,Sem.run_pure,FF _ p w hp,GO,Ig _ _ hn,VF,Bool.false_eq_true,if_false]
theorem EF{A B:List MapEntry}{e:MapEntry}(hm:w.heap[M]? =some (.map (A++e::B).toArray clock))(hp:wfP p)(hn:∀e∈A,∃q,e.key=Bn q/\q≠p)(he:e.key=Bn p):
 (Instr.lookup 230 (.map (some M)) (Bn p) false).run Tryz.prog w= .ok e.val w:=by
 unfold Instr.lookup
 simp only[Sem.run_bind,run_underlying underlying230,Result.andThen_ok,GP hm,Sem.run_pure,FF _ p w hp,GO,Ih he B A 0 hn,Bool.false_eq_true,if_false]
theorem Ow(hm:w.heap[M]? =some (.map es clock))(hp:wfP p)(hn:∀e∈es.toList,∃q,e.key=Bn q/\q≠p):
 (Instr.mapEntry 230 (.map (some M)) (Bn p)).run Tryz.prog w= .ok (.tuple #[.int .i64 0,.int .i64 clock]) (w.putObj M (.map (es.push ⟨Bn p,.int .i64 0,clock⟩) (clock+1))):=by
 unfold Instr.mapEntry
 simp only[Sem.run_bind,run_underlying underlying230,Result.andThen_ok,GP hm,Sem.run_pure,FF _ p w hp,GO,Ig _ _ hn,VF,LL _ hm,goInt]
theorem QH:(Instr.sameBits 10000 (Bn p) (Bn p))=true:=by
 have hb:(p.1==p.1)=true:=by
  obtain⟨⟨⟨x⟩⟩,t⟩:=p
  show((⟨x⟩:Array UInt8)==⟨x⟩)=true
  simp
 unfold Bn
 simp[Instr.sameBits,hb]
theorem Ox{A B:List MapEntry}{e:MapEntry}(hm:w.heap[M]? =some (.map (A++e::B).toArray clock))(hp:wfP p)(hn:∀e∈A,∃q,e.key=Bn q/\q≠p)(he:e.key=Bn p):
 (Instr.mapEntry 230 (.map (some M)) (Bn p)).run Tryz.prog w= .ok (.tuple #[e.val,.int .i64 e.born]) (w.putObj M (.map (A++e::B).toArray clock)):=by
 have h1:(A++e::B).toArray[0+A.length]? =some e:=by simp
 have h2:((A++e::B).toArray.modify (0+A.length) fun x=>{x with key:=Bn p})=(A++e::B).toArray:=by
  refine Array.ext (by simp) (fun i h3 h4=>?_)
  rw[Array.getElem_modify]
  split
  ·rename_i h5
   subst h5
   have:(A++e::B).toArray[0+A.length]=e:=by simp
   rw[this,<-he]
  ·rfl
 unfold Instr.mapEntry
 simp only[Sem.run_bind,run_underlying underlying230,Result.andThen_ok,GP hm,Sem.run_pure,FF _ p w hp,GO,Ih he B A 0 hn,h1,Option.map_some,Option.getD_some,he,Instr.keyThatStays,QH,if_true,h2,LL _ hm,goInt]
theorem MQ{i:Nat}{v:Value}{born:Int}(hm:w.heap[M]? =some (.map es clock))(hi:es.findIdx? (fun e=>(e.born:Int)==born)=some i):
 (Instr.entryStore 230 (.map (some M)) (.int .i64 born) v).run Tryz.prog w= .ok () (w.putObj M (.map (es.modify i fun e=>{e with val:=v}) clock)):=by
 unfold Instr.entryStore
 simp only[Sem.run_bind,Result.andThen_ok,GP hm,Sem.run_pure,asInt,asIntOf,hi,LL _ hm]
end
def Bf:Nat->List Plc->List MapEntry
 |_,[]=>[]
 |i,p::ps=>⟨Bn p,.int .i64 1,i⟩::Bf (i+1) ps
theorem Gl(i:Nat)(ps qs:List Plc):Bf i (ps++qs)=Bf i ps++Bf (i+ps.length) qs:=by
 induction ps generalizing i with
 |nil=>rfl
 |cons p ps ih=>rw[List.cons_append,Bf,ih,Bf,List.length_cons,show i+(ps.length+1)=i+1+ps.length by omega];rfl
theorem Oy(i:Nat)(ps:List Plc):(Bf i ps).length=ps.length:=by
 induction ps generalizing i with
 |nil=>rfl
 |cons p ps ih=>rw[Bf,List.length_cons,ih,List.length_cons]
theorem DS{i:Nat}{ps:List Plc}{e:MapEntry}(h:e∈Bf i ps):(∃q,q∈ps/\e.key=Bn q)/\i<=e.born/\e.born<i+ps.length:=by
 induction ps generalizing i with
 |nil=>cases h
 |cons p ps ih=>
  rw[Bf]at h
  rcases List.mem_cons.1 h with rfl|h
  ·exact⟨⟨p,List.mem_cons_self ..,rfl⟩,Nat.le_refl _,by simp⟩
  ·obtain⟨⟨q,hq,hk⟩,h1,h2⟩:=ih h
   exact⟨⟨q,List.mem_cons_of_mem _ hq,hk⟩,by omega,by rw[List.length_cons];omega⟩
def Ct(W:World)(M:Nat)(ps:List Plc):Prop:=W.heap[M]? =some (.map (Bf 0 ps).toArray ps.length)
theorem EG{ps:List Plc}(h:Ct W M ps):M<W.heap.size:=(Array.getElem?_eq_some_iff.1 h).1
theorem find_born{A B:List MapEntry}{e:MapEntry}{n:Nat}(hA:∀x∈A,x.born≠n)(he:e.born=n):(A++e::B).toArray.findIdx? (fun x=>(x.born:Int)==(n:Int))=some A.length:=by
 rw[List.findIdx?_toArray,List.findIdx?_append]
 have h1:A.findIdx? (fun x=>(x.born:Int)==(n:Int))=none:=by
  rw[List.findIdx?_eq_none_iff]
  intro x hx
  have:=hA x hx
  rw[beq_eq_false_iff_ne];omega
 rw[h1]
 simp[List.findIdx?_cons,he]
theorem Le{A B:List MapEntry}{e:MapEntry}(f:MapEntry->MapEntry):(A++e::B).toArray.modify A.length f=(A++f e::B).toArray:=by
 refine Array.ext (by simp) (fun i h3 h4=>?_)
 rw[Array.getElem_modify]
 simp only[List.getElem_toArray]
 split
 ·rename_i h5
  subst h5
  simp
 ·rename_i h5
  rcases Nat.lt_or_ge i A.length with h|h
  ·rw[List.getElem_append_left h,List.getElem_append_left h]
  ·rw[List.getElem_append_right h,List.getElem_append_right h]
   have:i - A.length=(i - A.length - 1)+1:=by omega
   simp only[List.getElem_cons]
   rw[dif_neg (by omega),dif_neg (by omega)]
theorem MR{ps:List Plc}{p:Plc}(h:p∈ps):∃A B,ps=A++p::B/\p ∉ A:=by
 induction ps with
 |nil=>cases h
 |cons q ps ih=>
  by_cases e:q=p
  ·subst e;exact⟨[],ps,rfl,by simp⟩
  ·obtain⟨A,B,h1,h2⟩:=ih ((List.mem_cons.1 h).resolve_left (fun k=>e k.symm))
   exact⟨q::A,B,by rw[h1];rfl,fun k=>(List.mem_cons.1 k).elim (fun k=>e k.symm) h2⟩
theorem Ux{ps:List Plc}{p:Plc}(hm:Ct W M ps)(hp:wfP p)(hn:p ∉ ps):∃W3 W4,
 (Instr.lookup 230 (.map (some M)) (Bn p) false).run Tryz.prog W= .ok (.int .i64 0) W/\
 (Instr.mapEntry 230 (.map (some M)) (Bn p)).run Tryz.prog W= .ok (.tuple #[.int .i64 0,.int .i64 ps.length]) W3/\
 (Instr.lookup 230 (.map (some M)) (Bn p) false).run Tryz.prog W3= .ok (.int .i64 0) W3/\
 (Instr.entryStore 230 (.map (some M)) (.int .i64 ps.length) (.int .i64 1)).run Tryz.prog W3= .ok () W4/\
 Ct W4 M (ps++[p])/\W.grownBy W4 (some M):=by
 have hno:∀e∈Bf 0 ps,∃q,e.key=Bn q/\q≠p:=fun e he=>by
  obtain⟨⟨q,hq,hk⟩,_⟩:=DS he
  exact⟨q,hk,fun h=>hn (by rw[<-h];exact hq)⟩
 have h1:=QG hm hp (by simpa using hno)
 have h2:=Ow hm hp (by simpa using hno)
 obtain⟨W3,hW3⟩:=nM (W.putObj M (.map ((Bf 0 ps).toArray.push ⟨Bn p,.int .i64 0,ps.length⟩) (ps.length+1)))
 rw[hW3]at h2
 have hm3:W3.heap[M]? =some (.map (Bf 0 ps++(⟨Bn p,.int .i64 0,ps.length⟩:MapEntry)::[]).toArray (ps.length+1)):=by
  rw[<-hW3,World.putObj_heap_same (EG hm)];simp
 have h3:=EF hm3 hp hno rfl
 have h4:=MQ (v:=.int .i64 1) hm3 (find_born (n:=ps.length) (fun x hx=>by have:=(DS hx).2.2;omega) rfl)
 rw[Le]at h4
 obtain⟨W4,hW4⟩:=nM (W3.putObj M (.map (Bf 0 ps++{(⟨Bn p,.int .i64 0,ps.length⟩:MapEntry)with val:=.int .i64 1}::[]).toArray (ps.length+1)))
 rw[hW4]at h4
 refine⟨W3,W4,h1,h2,h3,h4,?_,?_⟩
 ·show W4.heap[M]? =_
  rw[<-hW4,World.putObj_heap_same (Array.getElem?_eq_some_iff.1 hm3).1,Gl,lAp]
  simp[Bf]
 ·rw[<-hW4,<-hW3]
  exact⟨rfl,rfl,rfl,by simp,fun k _ hk=>(World.putObj_heap_other (fun e=>hk (by rw[e]))).trans (World.putObj_heap_other (fun e=>hk (by rw[e])))⟩
theorem Uy{ps:List Plc}{p:Plc}(hm:Ct W M ps)(hp:wfP p)(hn:p∈ps):∃(b:Nat) (W3 W4:World),
 (Instr.lookup 230 (.map (some M)) (Bn p) false).run Tryz.prog W= .ok (.int .i64 1) W/\
 (Instr.mapEntry 230 (.map (some M)) (Bn p)).run Tryz.prog W= .ok (.tuple #[.int .i64 1,.int .i64 b]) W3/\
 (Instr.lookup 230 (.map (some M)) (Bn p) false).run Tryz.prog W3= .ok (.int .i64 1) W3/\
 (Instr.entryStore 230 (.map (some M)) (.int .i64 b) (.int .i64 2)).run Tryz.prog W3= .ok () W4/\
 (∀W5:World,W5.heap[M]? =W4.heap[M]? ->(Instr.lookup 230 (.map (some M)) (Bn p) false).run Tryz.prog W5= .ok (.int .i64 2) W5)/\W.grownBy W4 (some M):=by
 obtain⟨A,B,rfl,hA⟩:∃A B,ps=A++p::B/\p ∉ A:=MR hn
 have hm':W.heap[M]? =some (.map (Bf 0 A++(⟨Bn p,.int .i64 1,A.length⟩:MapEntry)::Bf (A.length+1) B).toArray (A++p::B).length):=by
  have:=hm
  unfold Ct at this
  rw[Gl,Nat.zero_add,Bf]at this
  exact this
 have hno:∀e∈Bf 0 A,∃q,e.key=Bn q/\q≠p:=fun e he=>by
  obtain⟨⟨q,hq,hk⟩,_⟩:=DS he
  exact⟨q,hk,fun h=>hA (by rw[<-h];exact hq)⟩
 have h1:=EF hm' hp hno rfl
 have h2:=Ox hm' hp hno rfl
 obtain⟨W3,hW3⟩:=nM (W.putObj M (.map (Bf 0 A++(⟨Bn p,.int .i64 1,A.length⟩:MapEntry)::Bf (A.length+1) B).toArray (A++p::B).length))
 rw[hW3]at h2
 have hm3:W3.heap[M]? =some (.map (Bf 0 A++(⟨Bn p,.int .i64 1,A.length⟩:MapEntry)::Bf (A.length+1) B).toArray (A++p::B).length):=by
  rw[<-hW3,World.putObj_heap_same (EG hm)]
 have h3:=EF hm3 hp hno rfl
 have hl:(Bf 0 A).length=A.length:=Oy 0 A
 have h4:=MQ (v:=.int .i64 2) hm3 (find_born (n:=A.length) (fun x hx=>by have:=(DS hx).2.2;omega) rfl)
 rw[Le]at h4
 obtain⟨W4,hW4⟩:=nM (W3.putObj M (.map (Bf 0 A++{(⟨Bn p,.int .i64 1,A.length⟩:MapEntry)with val:=.int .i64 2}::Bf (A.length+1) B).toArray (A++p::B).length))
 rw[hW4]at h4
 refine⟨A.length,W3,W4,h1,h2,h3,h4,fun W5 h5=>?_,?_⟩
 ·have hm5:W5.heap[M]? =some (.map (Bf 0 A++{(⟨Bn p,.int .i64 1,A.length⟩:MapEntry)with val:=.int .i64 2}::Bf (A.length+1) B).toArray (A++p::B).length):=by
   rw[h5,<-hW4,World.putObj_heap_same (Array.getElem?_eq_some_iff.1 hm3).1]
  exact EF hm5 hp hno rfl
 ·rw[<-hW4,<-hW3]
  exact⟨rfl,rfl,rfl,by simp,fun k _ hk=>(World.putObj_heap_other (fun e=>hk (by rw[e]))).trans (World.putObj_heap_other (fun e=>hk (by rw[e])))⟩
theorem Sx{ps:List Plc}{p:Plc}(hm:Ct W M (ps++[p]))(hp:wfP p)(hn:p ∉ ps):(Instr.lookup 230 (.map (some M)) (Bn p) false).run Tryz.prog W= .ok (.int .i64 1) W:=by
 have hno:∀e∈Bf 0 ps,∃q,e.key=Bn q/\q≠p:=fun e he=>by
  obtain⟨⟨q,hq,hk⟩,_⟩:=DS he
  exact⟨q,hk,fun h=>hn (by rw[<-h];exact hq)⟩
 unfold Ct at hm
 rw[Gl]at hm
 exact EF hm hp hno rfl
end bf
end Go.Proofs.YtdohnkkbkfhphaaGreat
