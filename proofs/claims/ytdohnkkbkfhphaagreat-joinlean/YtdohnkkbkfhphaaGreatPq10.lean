import Derived.Test.YtdohnkkbkfhphaaGreatPq9
set_option linter.all false
set_option maxHeartbeats 4000000
namespace Go.Proofs.YtdohnkkbkfhphaaGreat
open Go.Proofs.Tryz
namespace bf
open Go.ChangeShapes Go.WideShapes Go.ChangeAt Go.RowKit
open vl
attribute [local go_sem] Oper.semAt_some
variable {b : Buf}
theorem Ch{w:World}{base base':Nat}{x:BX}(h:OB w base x b)(hb:base'<=base):OB w base' x b:=
 ⟨Nat.le_trans hb h.low,h.mem.mono hb,Cx h.hds hb,h.rlen,fun i hi=>(h.runs i hi).mono hb,h.two⟩
theorem U9(h:Ez b=0):Br b.lim 1 64=true/\countB b=true/\Eh b=true:=by
 unfold Ez at h
 by_cases h1:Br b.lim 1 64=false
 ·rw[if_pos h1]at h;cases h
 ·rw[if_neg h1]at h
  by_cases h2:countB b=false
  ·rw[if_pos h2]at h;cases h
  ·rw[if_neg h2]at h
   by_cases h3:Eh b=false
   ·rw[if_pos h3]at h;cases h
   ·exact⟨by simpa using h1,by simpa using h2,by simpa using h3⟩
theorem UA{l:List Ent}(h:l∈partsB b):l.length<=(Ab b).length:=by
 unfold Ab
 rw[List.length_flatten]
 generalize partsB b=p at h
 induction p with
 |nil=>cases h
 |cons x p ih=>
  rw[List.map_cons,List.sum_cons]
  rcases List.mem_cons.1 h with rfl|h
  ·omega
  ·have:=ih h;omega
theorem UB(l:List (List Ent))(h:∀r∈l,0<r.length):l.length<=l.flatten.length:=by
 induction l with
 |nil=>simp
 |cons x l ih=>
  rw[List.flatten_cons,lAp,List.length_cons]
  have:=h x (List.mem_cons_self ..)
  have:=ih (fun r hr=>h r (List.mem_cons_of_mem _ hr))
  omega
structure okB(b:Buf):Prop where
 lim:1<=b.lim/\b.lim<=64
 mem:(b.mem.length:Int)<=b.lim
 all:(Ab b).length<=4096
 fine:∀l∈partsB b,∀y∈l,DJ y
 rise:∀l∈partsB b,∀i,i+1<l.length->ltP (l.getD i default) (l.getD (i+1) default)
 full:∀r∈b.runs,0<r.length
 once:((Ab b).map AS).Nodup
theorem E8(h:Ez b=0):okB b:=by
 obtain⟨h1,h2,h3⟩:=U9 h
 unfold countB at h2
 unfold Eh at h3
 simp only[Bool.and_eq_true,decide_eq_true_eq]at h2 h3
 have hr:=AJ.1 h3.1
 have hp:∀l∈partsB b,∀i,i<l.length->DR l i=true:=fun l hl i hi=>by
  obtain⟨j,hj,rfl⟩:=List.getElem_of_mem hl
  have:=hr j hj
  have e:(partsB b).getD j default=(partsB b)[j]:=by rw[gDe,gEe hj];rfl
  rw[e]at this
  exact AJ.1 this i hi
 refine⟨(Bw _ _ _).1 h1,h2.1,h2.2,fun l hl y hy=>?_,fun l hl i hi=>?_,fun r hr=>?_,?_⟩
 ·obtain⟨i,hi,rfl⟩:=List.getElem_of_mem hy
  have:=hp l hl i hi
  unfold DR at this
  simp only[Bool.and_eq_true]at this
  have h:=Lr.1 this.1
  rw[gDe,gEe hi]at h
  exact h
 ·have:=hp l hl (i+1) hi
  unfold DR at this
  simp only[Bool.and_eq_true,Bool.or_eq_true,decide_eq_true_eq]at this
  rcases this.2 with h|h
  ·omega
  ·exact h
 ·obtain⟨i,hi,rfl⟩:=List.getElem_of_mem hr
  have:=AJ.1 h3.2.1 i hi
  have e:b.runs.getD i default=b.runs[i]:=by rw[gDe,gEe hi];rfl
  rw[e]at this
  simpa using this
 ·have:=h3.2.2
  unfold F1 at this
  exact of_decide_eq_true this
theorem okB.small(h:okB b):(∀l∈partsB b,l.length<=100000)/\b.runs.length<=100000/\∀y∈Ab b,y.row.length<=1000000:=by
 have h1:=h.all
 refine⟨fun l hl=>by have:=UA hl;omega,?_,fun y hy=>?_⟩
 ·have:=UB b.runs h.full
  have e:(Ab b).length=b.mem.length+b.runs.flatten.length:=by unfold Ab partsB;simp
  omega
 ·obtain⟨l,hl,hy⟩:=List.mem_flatten.1 hy
  have hf:=(h.fine l hl y hy).2.1
  unfold AE at hf
  by_cases h8:8<y.row.length
  ·rw[if_pos h8]at hf;cases hf
  ·omega
theorem EY(e:EM)(w:World):Calls Tryz.prog 59 #[e.val] w fun r w'=>r= .returned (.bool true)/\Bwz w w':=by
 obtain⟨k1,t1,s1,⟨a1,b1,c1⟩,m1⟩:=e
 unfold EM.val hdV
 dsimp only
 go_enter func59,ntmps59
 go_wp2
 go_ret
 refine⟨rfl,?_⟩
 repeat (first|exact bR|(refine Below.alloc ?_ (by simp<;>omega) _))
theorem QY(e:EM)(to:Int)(PB:Nat)(w:World)(hP:w.cell? ⟨PB,0,none⟩=some (.int .i64 to)):
 Calls Tryz.prog 263 #[e.val,.pointer (some ⟨PB,0,none⟩)] w fun r w'=>r= .returned (.bool (decide (to<e.time)))/\Bwz w w':=by
 obtain⟨k1,t1,s1,⟨a1,b1,c1⟩,m1⟩:=e
 unfold EM.val hdV
 dsimp only
 have lP:PB<w.heap.size:=bLt _ _ hP
 by_cases hd:to<t1
 ·have HD:Hid (decide (to<t1)=true):=decide_eq_true hd
  go_enter func263,ntmps263
  go_wp2
  go_ret
  exact⟨Aa (by rw[HD.out]),bR.alloc nR _⟩
 ·have HD:Hid (decide (to<t1)=false):=decide_eq_false hd
  go_enter func263,ntmps263
  go_wp2
  go_ret
  exact⟨Aa (by rw[HD.out]),bR.alloc nR _⟩
def Ci(to:Int)(y:Ent):Bool:=decide (to<y.time)
theorem UC(b:Buf)(x:BX)(to:Int)(w:World)(h:bufAt w b x)(hw:∀y∈Ab b,wfE y/\wfP (AS y))(hs:(Ab b).length<=4611686018427387904)(he:Ez b=0):
 Calls Tryz.prog 259 #[AQ b x,.int .i64 to] w fun e w'=>(∃x',e= .returned (.tuple #[AQ (BU (Ci to) b) x',.int .i64 0])/\OB w' w.heap.size x' (BU (Ci to) b))/\Bwz w w':=by
 have KC:Hid (∀w1,Bwz w w1->Calls Tryz.prog 39 #[AQ b x] w1 fun e w'=>e= .returned (.int .i64 0)/\Bwz w1 w'):=fun w1 hb=>by
  have:=Bk b x w1 (Ak h hb) hw hs
  rwa[he]at this
 have hsm:=(E8 he).small
 have KK:Hid (∀w1,Bwz w w1->w1.cell? ⟨w.heap.size+1,0,none⟩=some (.int .i64 to)->Calls Tryz.prog 145 #[AQ b x,.func (.func 263) #[] #[.pointer (some ⟨w.heap.size+1,0,none⟩)]] w1 fun e w'=>(∃x',e= .returned (AQ (BU (Ci to) b) x')/\OB w' w1.heap.size x' (BU (Ci to) b))/\Bwz w1 w'):=fun w1 hb hc=>
  DA 263 (enters_of func263 (by kernel_rfl) rfl) #[.pointer (some ⟨w.heap.size+1,0,none⟩)] (Ci to) b x w1 (Ak h hb) hsm.1 hsm.2.1 hsm.2.2 (fun e y w2 her _ hb2=>by
   have:=QY e to (w.heap.size+1) w2 (cLz hb2 hc)
   rw[her.time]at this
   exact this)
 clear h hw hs he hsm
 obtain⟨lim',hlim⟩:=nM (BU (Ci to) b)
 rw[hlim]at KK⊢
 clear hlim
 obtain⟨ra,rc,⟨⟨m1,m2,m3⟩,ml⟩,rs⟩:=x
 obtain⟨lim,mem,runs⟩:=b
 rw[show AQ ⟨lim,mem,runs⟩ ⟨ra,rc,((m1,m2,m3),ml),rs⟩= .agg #[.int .i64 lim,.slice m1 m2 m3,.slice ra rs.length rc]from rfl]at KC KK⊢
 obtain⟨n,hn⟩:∃n,rs.length=n:=⟨_,rfl⟩
 rw[hn]at KC KK⊢
 clear hn
 have hb0:Bwz w (((w.alloc (.cells #[.int .i64 lim,.slice m1 m2 m3,.slice ra n rc] 29)).alloc (.cells #[.int .i64 to] 3)).alloc (.cells #[.int .i64 0,.slice none 0 0,.slice none 0 0] 29)):=by
  repeat (first|exact bR|(refine Below.alloc ?_ (by simp<;>omega) _))
 have NBV:=Hx ((w.alloc (.cells #[.int .i64 lim,.slice m1 m2 m3,.slice ra n rc] 29)).alloc (.cells #[.int .i64 to] 3))
 rw[World.size_alloc,World.size_alloc]at NBV
 have HNB:Hid (nbAt (((w.alloc (.cells #[.int .i64 lim,.slice m1 m2 m3,.slice ra n rc] 29)).alloc (.cells #[.int .i64 to] 3)).alloc (.cells #[.int .i64 0,.slice none 0 0,.slice none 0 0] 29)) (w.heap.size+1+1)):=NBV
 clear NBV
 go_enter func259,ntmps259
 go_wp2_with (first
  |(go_at_call 39;refine(KC.out _ hb0).mono ?_;rintro e w2 ⟨rfl,hb2⟩;have hbw:Bwz w w2:=hb0.trans (hb2.mono hb0.size);have nb2:=BM hb2 HNB.out;have k0:w2.cell? ⟨w.heap.size,0,none⟩=some (.int .i64 lim):=cLz hb2 (by go_simp);have k1:w2.cell? ⟨w.heap.size,1,none⟩=some (.slice m1 m2 m3):=cLz hb2 (by go_simp);have k2:w2.cell? ⟨w.heap.size,2,none⟩=some (.slice ra n rc):=cLz hb2 (by go_simp);have k3:w2.cell? ⟨w.heap.size+1,0,none⟩=some (.int .i64 to):=cLz hb2 (by go_simp))
  |(go_at_call 145;refine(KK.out _ hbw k3).mono ?_;rintro e w3 ⟨⟨⟨ra',rc',⟨⟨a1,a2,a3⟩,ml'⟩,rs'⟩,rfl,hob⟩,hb3⟩;rw[show AQ lim' ⟨ra',rc',((a1,a2,a3),ml'),rs'⟩= .agg #[.int .i64 lim'.lim,.slice a1 a2 a3,.slice ra' rs'.length rc']from rfl];have HNB3:Hid (nbAt w3 (w.heap.size+1+1)):=BM hb3 nb2;obtain⟨n0,n1,n2,o0,o1,o2,n3⟩:=HNB3.out))
 have hbx:Bwz w w3:=hbw.trans (hb3.mono hbw.size)
 refine bodyPost_ret (v:=.tuple #[.agg #[.int .i64 lim'.lim,.slice a1 a2 a3,.slice ra' rs'.length rc'],.int .i64 0]) (by simp[results,results259,go_sem,n0,n1,n2]) rfl ⟨⟨⟨ra',rc',((a1,a2,a3),ml'),rs'⟩,rfl,?_⟩,((hbx.setCell (by dsimp only;omega) _).setCell (by dsimp only;omega) _).setCell (by dsimp only;omega) _⟩
 exact IX (Ch hob hbw.size) n3 _ _ _
end bf
namespace pl
open Go.ChangeShapes Go.WideShapes Go.ChangeAt Go.RowKit
open vl
variable {i n : Nat} {P : Nat -> Bool}
def Br(n a b:Int):Bool:=decide (a<=n/\n<=b)
theorem Bw(n a b:Int):Br n a b=true↔(a<=n/\n<=b):=by simp[Br]
theorem El(n a b:Int):Br n a b=false↔ ¬(a<=n/\n<=b):=by unfold Br;exact decide_eq_false_iff_not
theorem B9(n a b:Int)(w:World):
 Calls Tryz.prog 117 #[.int .i64 n,.int .i64 a,.int .i64 b] w fun e w'=>e= .returned (.bool (Br n a b))/\w'=w:=by
 by_cases h1:a<=n
 ·by_cases h2:n<=b
  ·rw[(Bw n a b).2 ⟨h1,h2⟩]
   go_enter func117,ntmps117
   go_wp2
   go_ret
   exact⟨rfl,rfl⟩
  ·rw[(El n a b).2 (by omega)]
   go_enter func117,ntmps117
   go_wp2
   go_ret
   exact⟨rfl,rfl⟩
 ·rw[(El n a b).2 (by omega)]
  go_enter func117,ntmps117
  go_wp2
  go_ret
  exact⟨rfl,rfl⟩
def allB(n:Nat)(P:Nat->Bool):Bool:=(List.range n).all P
theorem AJ:allB n P=true↔ ∀i,i<n->P i=true:=by simp[allB]
theorem Eg(hi:i<n)(h:P i=false):allB n P=false:=by
 rcases Bool.eq_false_or_eq_true (allB n P)with h1|h1
 ·have:=AJ.1 h1 i hi;rw[h]at this;cases this
 ·exact h1
theorem EZ(fn:FuncId)(eg:∀args w,(callFunc fn args).run Tryz.prog w= .ok (.enter fn args) w)(caps:Array Value)(P:Nat->Bool)(a:Option Addr)(cap:Nat)(l:List Int)(w:World)(hl:l.length<=9223372036854775807)(ha:A4 w a l)
 (H:∀i w1,i<l.length->Bwz w w1->Calls Tryz.prog fn (#[.int .i64 (i:Nat),.int .i64 (l.getD i 0)]++caps) w1 fun e w'=>e= .returned (.bool (P i))/\Bwz w1 w'):
 Calls Tryz.prog 123 #[.slice a l.length cap,.func (.func fn) #[] caps] w fun e w'=>e= .returned (.bool (allB l.length P))/\Bwz w w':=by
 have HH:Hid (∀i w1,i<l.length->Bwz w w1->Calls Tryz.prog fn (#[.int .i64 (i:Nat),.int .i64 (l.getD i 0)]++caps) w1 fun e w'=>e= .returned (.bool (P i))/\Bwz w1 w'):=H
 clear H
 obtain⟨n,hn⟩:∃n,l.length=n:=⟨_,rfl⟩
 have HN:Hid (l.length=n):=hn
 rw[hn]at hl⊢
 clear hn
 go_enter func123,ntmps123
 go_wp2
 go_loopw [9] (fun i wr=> ∃k:Nat,k<=n/\i= .int .i64 k/\Bwz w wr/\∀i,i<k->P i=true) (fun i _=>n - (intOf i).toNat)
 case atStart=>exact⟨0,Nat.zero_le _,rfl,bR,fun i hi=>absurd hi (Nat.not_lt_zero i)⟩
 case round=>
  obtain⟨k,hk,rfl,hnx,hall⟩:=hrel
  have HA:Hid (∀i,i<k->P i=true):=hall
  clear hall
  by_cases hlt:k<n
  ·obtain⟨b,o,e,x1⟩:=ha k (by rw[HN.out];exact hlt)
   subst e
   have q1:=cLz hnx x1
   clear x1 ha
   have i1:(0:Int)<=(k:Int):=by omega
   have i2:(k:Int)<(n:Int):=by omega
   have KK:Hid (Calls Tryz.prog fn (#[.int .i64 (k:Nat),.int .i64 (l.getD k 0)]++caps) wr fun e w'=>e= .returned (.bool (P k))/\Bwz wr w'):=HH.out k wr (by rw[HN.out];exact hlt) hnx
   obtain⟨z,hz⟩:=nM (l.getD k 0)
   rw[hz]at q1 KK
   clear hz
   have hsz:=hnx.size
   cases hp:P k with
   |true=>
    rw[hp]at KK
    go_wp2_with (go_at_fn fn;refine KK.out.mono ?_;rintro e w1 ⟨rfl,hb1⟩)
    go_roundw
    case rel=>exact⟨k+1,by omega,by go_num,hnx.trans (hb1.mono hsz),fun i hi=>by
     rcases Nat.lt_succ_iff_lt_or_eq.1 hi with h|h
     ·exact HA.out i h
     ·rw[h];exact hp⟩
    case measure=>simp[intOf];omega
   |false=>
    have HE:Hid (allB n P=false):=Eg hlt hp
    rw[hp]at KK
    go_wp2_with (go_at_fn fn;refine KK.out.mono ?_;rintro e w1 ⟨rfl,hb1⟩)
    go_ret
    exact⟨Aa HE.out.symm,hnx.trans (hb1.mono hsz)⟩
  ·have HE:Hid (allB n P=true):=AJ.2 (fun i hi=>HA.out i (by omega))
   go_wp2
   go_ret
   exact⟨Aa HE.out.symm,hnx⟩
def Wd(w:World)(a:Option Addr)(l:List (Option Addr×Nat×Nat)):Prop:=
 ∀i,i<l.length->∃b off,a=some ⟨b,off,none⟩/\w.cell? ⟨b,off+i,none⟩=some (.slice (l.getD i (none,0,0)).1 (l.getD i (none,0,0)).2.1 (l.getD i (none,0,0)).2.2)
theorem Hg(fn:FuncId)(eg:∀args w,(callFunc fn args).run Tryz.prog w= .ok (.enter fn args) w)(caps:Array Value)(P:Nat->Bool)(a:Option Addr)(cap:Nat)(l:List (Int×Int))(w:World)(hl:l.length<=9223372036854775807)(ha:Fa w a l)
 (H:∀i w1,i<l.length->Bwz w w1->Calls Tryz.prog fn (#[.int .i64 (i:Nat),.agg #[.int .i64 (l.getD i (0,0)).1,.int .i64 (l.getD i (0,0)).2]]++caps) w1 fun e w'=>e= .returned (.bool (P i))/\Bwz w1 w'):
 Calls Tryz.prog 167 #[.slice a l.length cap,.func (.func fn) #[] caps] w fun e w'=>e= .returned (.bool (allB l.length P))/\Bwz w w':=by
 have HH:Hid (∀i w1,i<l.length->Bwz w w1->Calls Tryz.prog fn (#[.int .i64 (i:Nat),.agg #[.int .i64 (l.getD i (0,0)).1,.int .i64 (l.getD i (0,0)).2]]++caps) w1 fun e w'=>e= .returned (.bool (P i))/\Bwz w1 w'):=H
 clear H
 obtain⟨n,hn⟩:∃n,l.length=n:=⟨_,rfl⟩
 have HN:Hid (l.length=n):=hn
 rw[hn]at hl⊢
 clear hn
 go_enter func167,ntmps167
 go_wp2
 go_loopw [9] (fun i wr=> ∃k:Nat,k<=n/\i= .int .i64 k/\Bwz w wr/\∀i,i<k->P i=true) (fun i _=>n - (intOf i).toNat)
 case atStart=>exact⟨0,Nat.zero_le _,rfl,bR,fun i hi=>absurd hi (Nat.not_lt_zero i)⟩
 case round=>
  obtain⟨k,hk,rfl,hnx,hall⟩:=hrel
  have HA:Hid (∀i,i<k->P i=true):=hall
  clear hall
  by_cases hlt:k<n
  ·obtain⟨b,o,e,x1,x2⟩:=ha k (by rw[HN.out];exact hlt)
   subst e
   have q1:=cLz hnx x1
   have q2:=cLz hnx x2
   clear x1 x2 ha
   have i1:(0:Int)<=(k:Int):=by omega
   have i2:(k:Int)<(n:Int):=by omega
   have KK:Hid (∀w1,Bwz wr w1->Calls Tryz.prog fn (#[.int .i64 (k:Nat),.agg #[.int .i64 (l.getD k (0,0)).1,.int .i64 (l.getD k (0,0)).2]]++caps) w1 fun e w'=>e= .returned (.bool (P k))/\Bwz w1 w'):=fun w1 hb=>HH.out k w1 (by rw[HN.out];exact hlt) (hnx.trans (hb.mono hnx.size))
   obtain⟨⟨z1,z2⟩,hz⟩:∃z,l.getD k (0,0)=z:=⟨_,rfl⟩
   rw[hz]at q1 q2 KK
   dsimp only at q1 q2 KK
   clear hz
   have hsz:=hnx.size
   cases hp:P k with
   |true=>
    rw[hp]at KK
    go_wp2_with (go_at_fn fn;refine(KK.out _ (bR.alloc nR _)).mono ?_;rintro e w1 ⟨rfl,hb1⟩;have hbx:=(hnx.alloc hsz _).trans (hb1.mono (by simp;omega)))
    go_roundw
    case rel=>exact⟨k+1,by omega,by go_num,hbx,fun i hi=>by
     rcases Nat.lt_succ_iff_lt_or_eq.1 hi with h|h
     ·exact HA.out i h
     ·rw[h];exact hp⟩
    case measure=>simp[intOf];omega
   |false=>
    have HE:Hid (allB n P=false):=Eg hlt hp
    rw[hp]at KK
    go_wp2_with (go_at_fn fn;refine(KK.out _ (bR.alloc nR _)).mono ?_;rintro e w1 ⟨rfl,hb1⟩;have hbx:=(hnx.alloc hsz _).trans (hb1.mono (by simp;omega)))
    go_ret
    exact⟨Aa HE.out.symm,hbx⟩
  ·have HE:Hid (allB n P=true):=AJ.2 (fun i hi=>HA.out i (by omega))
   go_wp2
   go_ret
   exact⟨Aa HE.out.symm,hnx⟩
theorem LU(fn:FuncId)(eg:∀args w,(callFunc fn args).run Tryz.prog w= .ok (.enter fn args) w)(caps:Array Value)(P:Nat->Bool)(a:Option Addr)(cap:Nat)(l:List (Option Addr×Nat×Nat))(w:World)(hl:l.length<=9223372036854775807)(ha:Wd w a l)
 (H:∀i w1,i<l.length->Bwz w w1->Calls Tryz.prog fn (#[.int .i64 (i:Nat),.slice (l.getD i (none,0,0)).1 (l.getD i (none,0,0)).2.1 (l.getD i (none,0,0)).2.2]++caps) w1 fun e w'=>e= .returned (.bool (P i))/\Bwz w1 w'):
 Calls Tryz.prog 121 #[.slice a l.length cap,.func (.func fn) #[] caps] w fun e w'=>e= .returned (.bool (allB l.length P))/\Bwz w w':=by
 have HH:Hid (∀i w1,i<l.length->Bwz w w1->Calls Tryz.prog fn (#[.int .i64 (i:Nat),.slice (l.getD i (none,0,0)).1 (l.getD i (none,0,0)).2.1 (l.getD i (none,0,0)).2.2]++caps) w1 fun e w'=>e= .returned (.bool (P i))/\Bwz w1 w'):=H
 clear H
 obtain⟨n,hn⟩:∃n,l.length=n:=⟨_,rfl⟩
 have HN:Hid (l.length=n):=hn
 rw[hn]at hl⊢
 clear hn
 go_enter func121,ntmps121
 go_wp2
 go_loopw [9] (fun i wr=> ∃k:Nat,k<=n/\i= .int .i64 k/\Bwz w wr/\∀i,i<k->P i=true) (fun i _=>n - (intOf i).toNat)
 case atStart=>exact⟨0,Nat.zero_le _,rfl,bR,fun i hi=>absurd hi (Nat.not_lt_zero i)⟩
 case round=>
  obtain⟨k,hk,rfl,hnx,hall⟩:=hrel
  have HA:Hid (∀i,i<k->P i=true):=hall
  clear hall
  by_cases hlt:k<n
  ·obtain⟨b,o,e,x1⟩:=ha k (by rw[HN.out];exact hlt)
   subst e
   have q1:=cLz hnx x1
   clear x1 ha
   have i1:(0:Int)<=(k:Int):=by omega
   have i2:(k:Int)<(n:Int):=by omega
   have KK:Hid (Calls Tryz.prog fn (#[.int .i64 (k:Nat),.slice (l.getD k (none,0,0)).1 (l.getD k (none,0,0)).2.1 (l.getD k (none,0,0)).2.2]++caps) wr fun e w'=>e= .returned (.bool (P k))/\Bwz wr w'):=HH.out k wr (by rw[HN.out];exact hlt) hnx
   obtain⟨⟨z1,z2,z3⟩,hz⟩:∃z,l.getD k (none,0,0)=z:=⟨_,rfl⟩
   rw[hz]at q1 KK
   dsimp only at q1 KK
   clear hz
   have hsz:=hnx.size
   cases hp:P k with
   |true=>
    rw[hp]at KK
    go_wp2_with (go_at_fn fn;refine KK.out.mono ?_;rintro e w1 ⟨rfl,hb1⟩)
    go_roundw
    case rel=>exact⟨k+1,by omega,by go_num,hnx.trans (hb1.mono hsz),fun i hi=>by
     rcases Nat.lt_succ_iff_lt_or_eq.1 hi with h|h
     ·exact HA.out i h
     ·rw[h];exact hp⟩
    case measure=>simp[intOf];omega
   |false=>
    have HE:Hid (allB n P=false):=Eg hlt hp
    rw[hp]at KK
    go_wp2_with (go_at_fn fn;refine KK.out.mono ?_;rintro e w1 ⟨rfl,hb1⟩)
    go_ret
    exact⟨Aa HE.out.symm,hnx.trans (hb1.mono hsz)⟩
  ·have HE:Hid (allB n P=true):=AJ.2 (fun i hi=>HA.out i (by omega))
   go_wp2
   go_ret
   exact⟨Aa HE.out.symm,hnx⟩
theorem LV(fn:FuncId)(eg:∀args w,(callFunc fn args).run Tryz.prog w= .ok (.enter fn args) w)(caps:Array Value)(P:Nat->Bool)(a:Option Addr)(cap:Nat)(l:List Cel)(w:World)(hl:l.length<=9223372036854775807)(ha:vl.rowAt w a l)
 (H:∀i w1,i<l.length->Bwz w w1->Calls Tryz.prog fn (#[.int .i64 (i:Nat),(l.getD i default).val]++caps) w1 fun e w'=>e= .returned (.bool (P i))/\Bwz w1 w'):
 Calls Tryz.prog 191 #[.slice a l.length cap,.func (.func fn) #[] caps] w fun e w'=>e= .returned (.bool (allB l.length P))/\Bwz w w':=by
 have HH:Hid (∀i w1,i<l.length->Bwz w w1->Calls Tryz.prog fn (#[.int .i64 (i:Nat),(l.getD i default).val]++caps) w1 fun e w'=>e= .returned (.bool (P i))/\Bwz w1 w'):=H
 clear H
 obtain⟨n,hn⟩:∃n,l.length=n:=⟨_,rfl⟩
 have HN:Hid (l.length=n):=hn
 rw[hn]at hl⊢
 clear hn
 go_enter func191,ntmps191
 go_wp2
 go_loopw [9] (fun i wr=> ∃k:Nat,k<=n/\i= .int .i64 k/\Bwz w wr/\∀i,i<k->P i=true) (fun i _=>n - (intOf i).toNat)
 case atStart=>exact⟨0,Nat.zero_le _,rfl,bR,fun i hi=>absurd hi (Nat.not_lt_zero i)⟩
 case round=>
  obtain⟨k,hk,rfl,hnx,hall⟩:=hrel
  have HA:Hid (∀i,i<k->P i=true):=hall
  clear hall
  by_cases hlt:k<n
  ·obtain⟨b,o,e,x1,x2,x3⟩:=ha k (by rw[HN.out];exact hlt)
   subst e
   have q1:=cLz hnx x1
   have q2:=cLz hnx x2
   have q3:=cLz hnx x3
   clear x1 x2 x3 ha
   have i1:(0:Int)<=(k:Int):=by omega
   have i2:(k:Int)<(n:Int):=by omega
   have KK:Hid (∀w1,Bwz wr w1->Calls Tryz.prog fn (#[.int .i64 (k:Nat),(l.getD k default).val]++caps) w1 fun e w'=>e= .returned (.bool (P k))/\Bwz w1 w'):=fun w1 hb=>HH.out k w1 (by rw[HN.out];exact hlt) (hnx.trans (hb.mono hnx.size))
   obtain⟨⟨ka,na,sa⟩,hz⟩:∃z,l.getD k default=z:=⟨_,rfl⟩
   rw[hz]at q1 q2 q3 KK
   dsimp only at q1 q2 q3 KK
   clear hz
   unfold Cel.val at KK
   dsimp only at KK
   have hsz:=hnx.size
   cases hp:P k with
   |true=>
    rw[hp]at KK
    go_wp2_with (go_at_fn fn;refine(KK.out _ (bR.alloc nR _)).mono ?_;rintro e w1 ⟨rfl,hb1⟩;have hbx:=(hnx.alloc hsz _).trans (hb1.mono (by simp;omega)))
    go_roundw
    case rel=>exact⟨k+1,by omega,by go_num,hbx,fun i hi=>by
     rcases Nat.lt_succ_iff_lt_or_eq.1 hi with h|h
     ·exact HA.out i h
     ·rw[h];exact hp⟩
    case measure=>simp[intOf];omega
   |false=>
    have HE:Hid (allB n P=false):=Eg hlt hp
    rw[hp]at KK
    go_wp2_with (go_at_fn fn;refine(KK.out _ (bR.alloc nR _)).mono ?_;rintro e w1 ⟨rfl,hb1⟩;have hbx:=(hnx.alloc hsz _).trans (hb1.mono (by simp;omega)))
    go_ret
    exact⟨Aa HE.out.symm,hbx⟩
  ·have HE:Hid (allB n P=true):=AJ.2 (fun i hi=>HA.out i (by omega))
   go_wp2
   go_ret
   exact⟨Aa HE.out.symm,hnx⟩
theorem Dh{a:Bool}{q:Prop} [Decidable q](h:a=true↔q):a=decide q:=by
 by_cases hq:q
 ·rw[decide_eq_true hq];exact h.2 hq
 ·rw[decide_eq_false hq]
  cases a with
  |false=>rfl
  |true=>exact absurd (h.1 rfl) hq
theorem DI{W w1:World}(hb:Bwz W w1):(∀b o,b<W.heap.size->w1.cell? ⟨b,o,none⟩=W.cell? ⟨b,o,none⟩)/\(∀b o,b<W.heap.size->w1.frozen? ⟨b,o,none⟩=W.frozen? ⟨b,o,none⟩):=
 ⟨fun b o h=>hb.cell (p:=⟨b,o,none⟩) h,fun b o h=>hb.frozen (p:=⟨b,o,none⟩) h⟩
def Ni(l:List (Int×Int)):Bool:=allB l.length (fun i=>Br (l.getD i (0,0)).1 1 4)
theorem DT{α:Type}{l:List α}{d:α}(h:i<l.length):l.getD i d∈l:=by simp[gDe,h]
theorem Fp{α:Type}{l:List α}{d:α}{Q:α->Prop}:(∀i,i<l.length->Q (l.getD i d))↔ ∀x∈l,Q x:=by
 constructor
 ·intro h x hx
  obtain⟨i,hi,rfl⟩:=List.getElem_of_mem hx
  have:=h i hi
  simpa[gDe,hi]using this
 ·intro h i hi
  exact h _ (DT hi)
theorem SV(l:List (Int×Int)):Ni l=true↔ ∀a∈l,1<=a.1/\a.1<=4:=by
 unfold Ni
 rw[AJ]
 simp only[Bw]
 exact Fp (Q:=fun a:Int×Int=>1<=a.1/\a.1<=4)
theorem SW(i:Int)(f c:Int)(w:World):
 Calls Tryz.prog 168 #[.int .i64 i,.agg #[.int .i64 f,.int .i64 c]] w fun e w'=>e= .returned (.bool (Br f 1 4))/\Bwz w w':=by
 go_enter func168,ntmps168
 go_wp2_with (go_at_call 117;refine(B9 _ _ _ _).mono ?_;rintro e w' ⟨rfl,hw⟩;subst hw)
 go_ret
 exact⟨rfl,bR.alloc nR _⟩
theorem Nj(a:Option Addr)(cap:Nat)(l:List (Int×Int))(w:World)(hl:l.length<=9223372036854775807)(ha:Fa w a l):
 Calls Tryz.prog 118 #[.slice a l.length cap] w fun e w'=>e= .returned (.bool (Ni l))/\Bwz w w':=by
 have H:=Hg 168 (enters_of func168 (by kernel_rfl) rfl) #[] (fun i=>Br (l.getD i (0,0)).1 1 4) a cap l w hl ha (fun i w1 _ _=>SW i _ _ w1)
 obtain⟨n,hn⟩:∃n,l.length=n:=⟨_,rfl⟩
 have HB:Hid (Ni l=allB n (fun i=>Br (l.getD i (0,0)).1 1 4)):=by show Ni l=_;unfold Ni;rw[hn]
 rw[hn]at H⊢
 clear hn
 go_enter func118,ntmps118
 go_wp2_with (go_at_call 167;refine H.mono ?_;rintro e w1 ⟨rfl,hb1⟩)
 go_ret
 exact⟨Aa HB.out.symm,hb1⟩
theorem Jz(p:Pln)(x:PA)(w:World)(hp:planAt w p x)(hw:wfPlan p):
 Calls Tryz.prog 60 #[As p x] w fun e w'=>e= .returned (.bool (decide (CJ p)))/\Bwz w w':=by
 have HF:=hIz (fun(w1:World) (hb:Bwz w w1)=>Nj x.a x.ac p.aggs w1 hw.a (DL hp.a hb))
 have HK:Hid (decide (CJ p)=(Br p.kind 1 3&&Br p.mode 1 (if p.kind=3 then 2 else 4)&&(!p.grouped||Ni p.aggs))):=by
  refine(Dh ?_).symm
  simp only[Bool.and_eq_true,Bool.or_eq_true,Bw,SV,CJ,Bool.not_eq_true',and_assoc]
  cases p.grouped<;>simp
 obtain⟨kind,mode,low,high,size,limit,left,right,lkeys,rkeys,grouped,group,aggs⟩:=p
 obtain⟨l,lc,r,rc,lk,lkc,rk,rkc,g,gc,a,ac⟩:=x
 unfold As
 dsimp only at HF HK⊢
 clear hp hw
 obtain⟨n6,h6⟩:∃n,left.length=n:=⟨_,rfl⟩
 obtain⟨n7,h7⟩:∃n,right.length=n:=⟨_,rfl⟩
 obtain⟨n8,h8⟩:∃n,lkeys.length=n:=⟨_,rfl⟩
 obtain⟨n9,h9⟩:∃n,rkeys.length=n:=⟨_,rfl⟩
 obtain⟨n11,h11⟩:∃n,group.length=n:=⟨_,rfl⟩
 obtain⟨n12,h12⟩:∃n,aggs.length=n:=⟨_,rfl⟩
 rw[h12]at HF
 rw[h6,h7,h8,h9,h11,h12]
 clear h6 h7 h8 h9 h11 h12
 obtain⟨fb,hfb⟩:=nM (Ni aggs)
 rw[hfb]at HF HK
 clear hfb
 by_cases hk:kind=3
 ·subst hk
  have HK2:Hid (decide (CJ ⟨3,mode,low,high,size,limit,left,right,lkeys,rkeys,grouped,group,aggs⟩)=(true&&Br mode 1 2&&(!grouped||fb))):=HK.out
  clear HK
  have b0:Br 3 1 3=true:=by decide
  cases hb:Br mode 1 2<;>rw[hb]at HK2<;>cases grouped<;>cases fb
  all_goals
   go_enter func60,ntmps60
   go_wp2_with (first
    |(go_at_call 117;refine(B9 _ _ _ _).mono ?_;rintro e w' ⟨rfl,hw⟩;subst hw)
    |(go_at_call 118;refine(HF.out _ (bR.alloc nR _)).mono ?_;rintro e w1 ⟨rfl,hb1⟩))
   go_ret
   refine⟨Aa HK2.out.symm,?_⟩
   first
    |exact(bR.alloc nR _).trans (hb1.mono (by simp))
    |exact bR.alloc nR _
 ·have hk3:(kind==3)=false:=by simpa using hk
  rw[if_neg hk]at HK
  clear hk
  cases h0:Br kind 1 3<;>rw[h0]at HK<;>cases hb:Br mode 1 4<;>rw[hb]at HK<;>cases grouped<;>cases fb
  all_goals
   go_enter func60,ntmps60
   go_wp2_with (first
    |(go_at_call 117;refine(B9 _ _ _ _).mono ?_;rintro e w' ⟨rfl,hw⟩;subst hw)
    |(go_at_call 118;refine(HF.out _ (bR.alloc nR _)).mono ?_;rintro e w1 ⟨rfl,hb1⟩))
   go_ret
   refine⟨Aa HK.out.symm,?_⟩
   first
    |exact(bR.alloc nR _).trans (hb1.mono (by simp))
    |exact bR.alloc nR _
def Lm(p:Pln):Bool:=if p.kind=1 then tm.AP p.low&&tm.AP p.high else decide (p.low=0)&&decide (p.high=0)
def Ln(p:Pln):Bool:=if p.kind=2 then Br p.size 1 1099511627776 else decide (p.size=0)
theorem OH(p:Pln):decide (Cn p)=(Lm p&&Ln p&&Br p.limit 1 64):=by
 refine(Dh ?_).symm
 unfold Cn Lm Ln
 simp only[Bool.and_eq_true,Bw,and_assoc]
 refine and_congr ?_ (and_congr ?_ Iff.rfl)
 ·split
  ·simp only[Bool.and_eq_true,tm.CI,fit]
  ·simp
 ·split
  ·simp only[Bw]
  ·simp
theorem Kr(p:Pln)(x:PA)(w:World):
 Calls Tryz.prog 119 #[As p x] w fun e w'=>e= .returned (.bool (Lm p))/\Bwz w w':=by
 have HS:Hid (Lm p=if p.kind=1 then tm.AP p.low&&tm.AP p.high else decide (p.low=0)&&decide (p.high=0)):=rfl
 obtain⟨kind,mode,low,high,size,limit,left,right,lkeys,rkeys,grouped,group,aggs⟩:=p
 obtain⟨l,lc,r,rc,lk,lkc,rk,rkc,g,gc,a,ac⟩:=x
 unfold As
 dsimp only at HS⊢
 by_cases hk:kind=1
 ·subst hk
  rw[if_pos rfl]at HS
  cases h0:tm.AP low<;>rw[h0]at HS
  all_goals
   go_enter func119,ntmps119
   go_wp2_with (go_at_call 88;refine(tm.Ca _ _).mono ?_;rintro e w' ⟨rfl,hw⟩;subst hw)
   go_ret
   exact⟨Aa (by rw[HS.out];rfl),bR.alloc nR _⟩
 ·have hk3:(kind==1)=false:=by simpa using hk
  rw[if_neg hk]at HS
  clear hk
  by_cases h0:low=0
  ·subst h0
   go_enter func119,ntmps119
   go_wp2
   go_ret
   exact⟨Aa (by rw[HS.out];exact Bool.eq_iff_iff.2 (by simp)),bR.alloc nR _⟩
  ·have hb:(low==0)=false:=by simpa using h0
   rw[decide_eq_false h0]at HS
   clear h0
   go_enter func119,ntmps119
   go_wp2
   go_ret
   exact⟨Aa (by rw[HS.out];rfl),bR.alloc nR _⟩
theorem Ks(p:Pln)(x:PA)(w:World):
 Calls Tryz.prog 120 #[As p x] w fun e w'=>e= .returned (.bool (Ln p))/\Bwz w w':=by
 have HS:Hid (Ln p=if p.kind=2 then Br p.size 1 1099511627776 else decide (p.size=0)):=rfl
 obtain⟨kind,mode,low,high,size,limit,left,right,lkeys,rkeys,grouped,group,aggs⟩:=p
 obtain⟨l,lc,r,rc,lk,lkc,rk,rkc,g,gc,a,ac⟩:=x
 unfold As
 dsimp only at HS⊢
 by_cases hk:kind=2
 ·subst hk
  rw[if_pos rfl]at HS
  go_enter func120,ntmps120
  go_wp2_with (go_at_call 117;refine(B9 _ _ _ _).mono ?_;rintro e w' ⟨rfl,hw⟩;subst hw)
  go_ret
  exact⟨Aa HS.out.symm,bR.alloc nR _⟩
 ·have hk3:(kind==2)=false:=by simpa using hk
  rw[if_neg hk]at HS
  clear hk
  go_enter func120,ntmps120
  go_wp2
  go_ret
  exact⟨Aa (by rw[HS.out];exact Bool.eq_iff_iff.2 (by simp)),bR.alloc nR _⟩
theorem DE(p:Pln)(x:PA)(w:World):
 Calls Tryz.prog 61 #[As p x] w fun e w'=>e= .returned (.bool (decide (Cn p)))/\Bwz w w':=by
 have K1:=hIz (fun(w1:World)=>Kr p x w1)
 have K2:=hIz (fun(w1:World)=>Ks p x w1)
 have HK:Hid (decide (Cn p)=(Lm p&&Ln p&&Br p.limit 1 64)):=OH p
 obtain⟨b1,h1⟩:=nM (Lm p)
 obtain⟨b2,h2⟩:=nM (Ln p)
 rw[h1]at K1 HK
 rw[h2]at K2 HK
 clear h1 h2
 obtain⟨kind,mode,low,high,size,limit,left,right,lkeys,rkeys,grouped,group,aggs⟩:=p
 obtain⟨l,lc,r,rc,lk,lkc,rk,rkc,g,gc,a,ac⟩:=x
 unfold As at K1 K2⊢
 dsimp only at K1 K2 HK⊢
 cases b1<;>cases b2
 all_goals
  go_enter func61,ntmps61
  go_wp2_with (first
   |(go_at_call 119;refine(K1.out _).mono ?_;rintro e w1 ⟨rfl,hb1⟩;have hba:=(bR.alloc nR _).trans (hb1.mono (by simp));obtain⟨hc1,hf1⟩:=DI hb1)
   |(go_at_call 120;refine(K2.out _).mono ?_;rintro e w2 ⟨rfl,hb2⟩;have hbb:=hba.trans (hb2.mono hba.size);obtain⟨hc2,hf2⟩:=DI hb2;have hz:w.heap.size<w1.heap.size:=by have:=hb1.size;simp at this;omega)
   |(go_at_call 117;refine(B9 _ _ _ _).mono ?_;rintro e w' ⟨rfl,hw⟩;subst hw))
  go_ret
  refine⟨Aa (by rw[HK.out];simp),?_⟩
  first
   |exact hbb
   |exact hba
theorem SX(i:Int)(a:Option Addr)(n c:Nat)(w:World):
 Calls Tryz.prog 122 #[.int .i64 i,.slice a n c] w fun e w'=>e= .returned (.bool (Br n 1 4))/\Bwz w w':=by
 go_enter func122,ntmps122
 go_wp2_with (go_at_call 117;refine(B9 _ _ _ _).mono ?_;rintro e w' ⟨rfl,hw⟩;subst hw)
 go_ret
 exact⟨rfl,bR⟩
def Gr(a b c d:Nat):Bool:=Br a 1 4&&(Br b 1 4&&(Br c 1 4&&Br d 1 4))
theorem We(g:Nat)(h0 h1 h2 h3:Option Addr×Nat×Nat)(w:World)
 (e0:w.cell? ⟨g,0,none⟩=some (.slice h0.1 h0.2.1 h0.2.2)) (e1:w.cell? ⟨g,1,none⟩=some (.slice h1.1 h1.2.1 h1.2.2)) (e2:w.cell? ⟨g,2,none⟩=some (.slice h2.1 h2.2.1 h2.2.2)) (e3:w.cell? ⟨g,3,none⟩=some (.slice h3.1 h3.2.1 h3.2.2)):
 Calls Tryz.prog 121 #[.slice (some ⟨g,0,none⟩) 4 4,.func (.func 122) #[] #[]] w fun e w'=>e= .returned (.bool (Gr h0.2.1 h1.2.1 h2.2.1 h3.2.1))/\Bwz w w':=by
 have H:=LU 122 (enters_of func122 (by kernel_rfl) rfl) #[] (fun i=>Br (([h0,h1,h2,h3]:List (Option Addr×Nat×Nat)).getD i (none,0,0)).2.1 1 4) (some ⟨g,0,none⟩) 4 [h0,h1,h2,h3] w (by simp)
  (fun i hi=>by
   match i,hi with
   |0,_=>exact⟨g,0,rfl,e0⟩
   |1,_=>exact⟨g,0,rfl,e1⟩
   |2,_=>exact⟨g,0,rfl,e2⟩
   |3,_=>exact⟨g,0,rfl,e3⟩) (fun i w1 _ _=>SX i _ _ _ w1)
 refine H.mono fun e w' ⟨he,hb⟩=>⟨he.trans (Aa ?_),hb⟩
 simp[allB,List.range,List.range.loop,Gr]
def LW(p:Pln):Bool:=if p.grouped=true then Br p.aggs.length 1 4&&decide ((p.group.length:Int)<=8 - p.aggs.length)else decide (p.group.length=0)&&decide (p.aggs.length=0)
theorem SY(p:Pln):decide (CQ p)=(Gr p.left.length p.right.length p.lkeys.length p.rkeys.length&&LW p):=by
 refine(Dh ?_).symm
 unfold CQ Gr LW Hj
 simp only[Bool.and_eq_true,Bw]
 refine and_congr ?_ ?_
 ·omega
 ·split
  ·simp only[Bool.and_eq_true,Bw,decide_eq_true_eq];omega
  ·simp
theorem DD(p:Pln)(x:PA)(w:World)(hw:wfPlan p):
 Calls Tryz.prog 62 #[As p x] w fun e w'=>e= .returned (.bool (decide (CQ p)))/\Bwz w w':=by
 have HK:Hid (decide (CQ p)=(Gr p.left.length p.right.length p.lkeys.length p.rkeys.length&&LW p)):=SY p
 have HG:Hid (LW p=if p.grouped=true then Br p.aggs.length 1 4&&decide ((p.group.length:Int)<=8 - p.aggs.length)else decide (p.group.length=0)&&decide (p.aggs.length=0)):=rfl
 have l11:=hw.g
 have l12:=hw.a
 rw[HG.out]at HK
 obtain⟨kind,mode,low,high,size,limit,left,right,lkeys,rkeys,grouped,group,aggs⟩:=p
 obtain⟨l,lc,r,rc,lk,lkc,rk,rkc,g,gc,a,ac⟩:=x
 unfold As
 dsimp only at HK l11 l12⊢
 clear HG hw
 obtain⟨n6,h6⟩:∃n,left.length=n:=⟨_,rfl⟩
 obtain⟨n7,h7⟩:∃n,right.length=n:=⟨_,rfl⟩
 obtain⟨n8,h8⟩:∃n,lkeys.length=n:=⟨_,rfl⟩
 obtain⟨n9,h9⟩:∃n,rkeys.length=n:=⟨_,rfl⟩
 obtain⟨n11,h11⟩:∃n,group.length=n:=⟨_,rfl⟩
 obtain⟨n12,h12⟩:∃n,aggs.length=n:=⟨_,rfl⟩
 rw[h11]at l11
 rw[h12]at l12
 rw[h6,h7,h8,h9,h11,h12]at HK
 rw[h6,h7,h8,h9,h11,h12]
 clear h6 h7 h8 h9 h11 h12
 have HE:Hid (∀(g0:Nat) (w1:World),w1.cell? ⟨g0,0,none⟩=some (.slice l n6 lc)->w1.cell? ⟨g0,1,none⟩=some (.slice r n7 rc)->w1.cell? ⟨g0,2,none⟩=some (.slice lk n8 lkc)->w1.cell? ⟨g0,3,none⟩=some (.slice rk n9 rkc)->
  Calls Tryz.prog 121 #[.slice (some ⟨g0,0,none⟩) 4 4,.func (.func 122) #[] #[]] w1 fun e w'=>e= .returned (.bool (Gr n6 n7 n8 n9))/\Bwz w1 w'):=
  fun g0 w1 e0 e1 e2 e3=>We g0 (l,n6,lc) (r,n7,rc) (lk,n8,lkc) (rk,n9,rkc) w1 e0 e1 e2 e3
 obtain⟨sb,hsb⟩:=nM (Gr n6 n7 n8 n9)
 rw[hsb]at HE HK
 clear hsb
 cases sb
 ·cases grouped
  all_goals
   go_enter func62,ntmps62
   go_wp2_with (first
    |(go_at_call 121;refine(HE.out _ _ (by go_simp) (by go_simp) (by go_simp) (by go_simp)).mono ?_;rintro e w1 ⟨rfl,hb1⟩;have hba:=((bR.alloc nR _).alloc (by simp) _).trans (hb1.mono (by simp;omega));obtain⟨hc1,hf1⟩:=DI hb1))
   go_ret
   exact⟨Aa (by rw[HK.out];simp),hba⟩
 ·cases grouped
  ·rw[if_neg (by decide)]at HK
   by_cases h0:n11=0
   ·subst h0
    go_enter func62,ntmps62
    go_wp2_with (first
     |(go_at_call 121;refine(HE.out _ _ (by go_simp) (by go_simp) (by go_simp) (by go_simp)).mono ?_;rintro e w1 ⟨rfl,hb1⟩;have hba:=((bR.alloc nR _).alloc (by simp) _).trans (hb1.mono (by simp;omega));obtain⟨hc1,hf1⟩:=DI hb1))
    go_ret
    exact⟨Aa (by rw[HK.out];exact Bool.eq_iff_iff.2 (by simp)),hba⟩
   ·have hn0:((n11:Int)==0)=false:=by simpa using h0
    rw[decide_eq_false h0]at HK
    clear h0
    go_enter func62,ntmps62
    go_wp2_with (first
     |(go_at_call 121;refine(HE.out _ _ (by go_simp) (by go_simp) (by go_simp) (by go_simp)).mono ?_;rintro e w1 ⟨rfl,hb1⟩;have hba:=((bR.alloc nR _).alloc (by simp) _).trans (hb1.mono (by simp;omega));obtain⟨hc1,hf1⟩:=DI hb1))
    go_ret
    exact⟨Aa (by rw[HK.out];rfl),hba⟩
  ·rw[if_pos rfl]at HK
   obtain⟨ab,hab⟩:=nM (Br n12 1 4)
   rw[hab]at HK
   cases ab
   ·go_enter func62,ntmps62
    go_wp2_with (first
     |(go_at_call 121;refine(HE.out _ _ (by go_simp) (by go_simp) (by go_simp) (by go_simp)).mono ?_;rintro e w1 ⟨rfl,hb1⟩;have hba:=((bR.alloc nR _).alloc (by simp) _).trans (hb1.mono (by simp;omega));obtain⟨hc1,hf1⟩:=DI hb1)
     |(go_at_call 117;refine(B9 _ _ _ _).mono ?_;rintro e w' ⟨rfl,hw⟩;subst hw))
    go_ret
    exact⟨Aa (by rw[HK.out];rfl),hba⟩
   ·have hn12:=(Bw _ _ _).1 hab
    obtain⟨u1,u2⟩:=hn12
    go_enter func62,ntmps62
    go_wp2_with (first
     |(go_at_call 121;refine(HE.out _ _ (by go_simp) (by go_simp) (by go_simp) (by go_simp)).mono ?_;rintro e w1 ⟨rfl,hb1⟩;have hba:=((bR.alloc nR _).alloc (by simp) _).trans (hb1.mono (by simp;omega));obtain⟨hc1,hf1⟩:=DI hb1)
     |(go_at_call 117;refine(B9 _ _ _ _).mono ?_;rintro e w' ⟨rfl,hw⟩;subst hw))
    go_ret
    exact⟨Aa (by rw[HK.out];simp),hba⟩
end pl
end Go.Proofs.YtdohnkkbkfhphaaGreat
