import Derived.Test.YtdohnkkbkfhphaaGreatPc43
set_option linter.all false
set_option maxHeartbeats 16000000
set_option maxRecDepth 100000
namespace Go.Proofs.YtdohnkkbkfhphaaGreat
open Go.Proofs.Tryz
namespace bf
open Go.ChangeShapes Go.WideShapes Go.ChangeAt Go.RowKit
open vl
attribute [local go_sem] Oper.semAt_some
variable {b : Buf} {k : Nat} {l : List Ent} {f : Bool}
def FC(b:Buf)(k:Nat):Nat:=b.mem.length+((b.runs.take k).flatten).length
def Fs(b:Buf)(k:Nat):Bool:=(b.runs.take k).any fun r=>decide (r.length=0)
theorem SN(b:Buf):FC b 0=b.mem.length:=by simp[FC]
theorem SO(h:k<b.runs.length):FC b (k+1)=FC b k+(b.runs.getD k default).length:=by
 unfold FC
 rw[Dn (d:=default) h,List.flatten_append,lAp]
 simp;omega
theorem UC(b:Buf):FC b b.runs.length=(Ab b).length:=by
 unfold FC;rw[List.take_length,CF,lAp]
theorem WT(k:Nat):FC b k<=(Ab b).length:=by
 unfold FC
 rw[CF,lAp]
 have:b.runs.flatten=(b.runs.take k).flatten++(b.runs.drop k).flatten:=by rw[<-List.flatten_append,List.take_append_drop]
 rw[this,lAp];omega
theorem SP(h:k<b.runs.length):Fs b (k+1)=(Fs b k||decide ((b.runs.getD k default).length=0)):=by
 unfold Fs
 rw[Dn (d:=default) h,List.any_append]
 simp
theorem UD(h:Fs b k=true):¬okB b:=fun ok=>by
 unfold Fs at h
 obtain⟨r,hr,e⟩:=List.any_eq_true.1 h
 have:=ok.full r (List.mem_of_mem_take hr)
 have e2:r.length=0:=by simpa using e
 omega
theorem WU(h:Fs b b.runs.length=false):∀r∈b.runs,0<r.length:=fun r hr=>by
 unfold Fs at h
 rw[List.take_length]at h
 have:=List.any_eq_false.1 h r hr
 simp at this
 rcases Nat.eq_zero_or_pos r.length with e|e
 ·exact absurd (List.length_eq_zero_iff.1 e) this
 ·exact e
theorem Qh(h:Az b.lim 1 64=false):3=C4 b:=by unfold C4;rw[if_pos h]
theorem UE(h:Az b.lim 1 64=true)(h2:(Ab b).length>4096\/(b.mem.length:Int)>b.lim):2=C4 b:=by
 have hc:countB b=false:=by
  unfold countB
  rcases h2 with h2|h2
  ·rw[decide_eq_false (by omega:¬(Ab b).length<=4096),Bool.and_false]
  ·rw[decide_eq_false (by omega:¬(b.mem.length:Int)<=b.lim),Bool.false_and]
 unfold C4
 rw[h,hc];rfl
theorem UF(h:Az b.lim 1 64=true)(h2:(Ab b).length<=4096)(h3:(b.mem.length:Int)<=b.lim)(hn:¬okB b):1=C4 b:=by
 have hc:countB b=true:=by
  unfold countB
  rw[decide_eq_true h2,decide_eq_true h3];rfl
 have hf:Ee b=false:=by
  cases e:Ee b with
  |false=>rfl
  |true=>exact absurd (Df (by unfold C4;rw[h,hc,e];rfl)) hn
 unfold C4
 rw[h,hc,hf];rfl
theorem WV(h1:Az b.lim 1 64=true)(h2:(Ab b).length<=4096)(h3:(b.mem.length:Int)<=b.lim)(h4:Fs b b.runs.length=false)(h5:upB b.mem=true)(h6:∀j,j<b.runs.length->upB (b.runs.getD j default)=true)(h7:ES (Ab b) l f)(h8:f=true/\∀j,j<l.length->Ct (l.getD j default)=true):okB b:=by
 have hp:=h7.perm h8.1
 refine N9 ((AJ _ _ _).1 h1) h3 h2 (fun y hy=>?_) (fun p hp=>?_) (WU h4) (h7.fine.1 h8.1)
 ·obtain⟨j,hj,rfl⟩:=List.getElem_of_mem (hp.mem_iff.2 hy)
  have:=h8.2 j hj
  rw[getD_at hj]at this
  exact IJ.1 this
 ·rcases List.mem_cons.1 hp with rfl|hp
  ·exact J8.1 h5
  ·obtain⟨j,hj,rfl⟩:=List.getElem_of_mem hp
   have:=h6 j hj
   rw[getD_at hj]at this
   exact J8.1 this
theorem UG(ok:okB b)(h:l∈partsB b)(k:upB l=false):False:=by
 rw[J8.2 (ok.rises h)]at k;cases k
theorem WW{j:Nat}(ok:okB b)(h7:ES (Ab b) l f)(hj:j<l.length)(k:Ct (l.getD j default)=false):False:=by
 have hf:=h7.fine.2 ok.once
 have:=ok.entry ((h7.perm hf).mem_iff.1 (A1 (d:=default) hj))
 rw[Ei this]at k;cases k
theorem Ad{x y:Int}(h:x=y):Ending.returned (.int .i64 x)= .returned (.int .i64 y):=by rw[h]
theorem Et(b:Buf)(x:BX)(w:World)(h:bufAt w b x)(hw:∀y∈Ab b,wfE y/\y.key.size<=140737488355328/\y.row.length<=2000000)(hs:(Ab b).length<=4611686018427387904):
 Calls Tryz.prog 42 #[AN b x] w fun e w'=>e= .returned (.int .i64 (C4 b))/\Bwz w w':=by
 have KE:Hid (∀w1,(Ab b).length<=4096->Bwz w w1->CTz 81 #[AN b x] w1 fun r w'=>(∃(hh:Hdr) (es:List EM) (l:List Ent) (f:Bool),r= .returned (.tuple #[hdV hh,.bool f])/\OE w' (w1.heap.size+1) (hdV hh) es l/\ES (Ab b) l f)/\Bwz w1 w'):=
  fun w1 hl hb=>Jg b x w1 (Ai h hb) (by omega) (fun y hy=>(hw y hy).2.2)
 have hm1:x.m∈x.m::x.rs:=List.mem_cons_self ..
 have KM:Hid (∀w1,b.mem.length<=4096->Bwz w w1->CTz 80 #[hdV x.m.1] w1 fun r w'=>r= .returned (.bool (upB b.mem))/\Bwz w1 w'):=fun w1 hl hb=>by
  have k:=Mr x.m.1.1 x.m.1.2.2 x.m.2 b.mem w1 (Bk (h.ems _ hm1) hb) (h.mem.below hb) (by omega)
  unfold hdV
  rw[(h.len _ hm1).1,h.mem.1]
  exact k
 have KR:Hid (∀i w1,i<b.runs.length->(b.runs.getD i default).length<=4096->Bwz w w1->CTz 80 #[hdV (x.rs.getD i default).1] w1 fun r w'=>r= .returned (.bool (upB (b.runs.getD i default)))/\Bwz w1 w'):=fun i w1 hi hl hb=>by
  have g1:x.rs.getD i default∈x.m::x.rs:=List.mem_cons_of_mem _ (A1 (by rw[h.rlen];exact hi))
  have e1:=h.runs i hi
  have k:=Mr (x.rs.getD i default).1.1 (x.rs.getD i default).1.2.2 (x.rs.getD i default).2 (b.runs.getD i default) w1 (Bk (h.ems _ g1) hb) (e1.below hb) (by omega)
  unfold hdV
  rw[(h.len _ g1).1,e1.1]
  exact k
 have KF:=hIz (fun e y (w1:World) (he:ER w1 e y) (hy:y∈Ab b)=>S3 e y w1 he (hw y hy).1 (hw y hy).2.1)
 have KW:Hid (∀w1,CTz 29 #[.int .i64 b.lim,.int .i64 1,.int .i64 64] w1 fun e w'=>e= .returned (.bool (Az b.lim 1 64))/\w'=w1):=fun w1=>Ak _ _ _ w1
 obtain⟨R,hR⟩:=nM (C4 b)
 have H3:Hid (Az b.lim 1 64=false->3=R):=fun h=>by rw[<-hR];exact Qh h
 have H2:Hid (Az b.lim 1 64=true->(Ab b).length>4096\/(b.mem.length:Int)>b.lim->2=R):=fun h k=>by rw[<-hR];exact UE h k
 have H1:Hid (Az b.lim 1 64=true->(Ab b).length<=4096->(b.mem.length:Int)<=b.lim->¬okB b->1=R):=fun h k1 k2 k3=>by rw[<-hR];exact UF h k1 k2 k3
 have H0:Hid (∀l f,Az b.lim 1 64=true->(Ab b).length<=4096->(b.mem.length:Int)<=b.lim->Fs b b.runs.length=false->upB b.mem=true->(∀j,j<b.runs.length->upB (b.runs.getD j default)=true)->ES (Ab b) l f->(f=true/\∀j,j<l.length->Ct (l.getD j default)=true)->0=R):=fun l f h1 h2 h3 h4 h5 h6 h7 h8=>by rw[<-hR];exact(Ds (WV h1 h2 h3 h4 h5 h6 h7 h8)).symm
 rw[hR]
 have HD:Hid (EU w x.ra (x.rs.map (·.1))):=h.hds
 have hfew:=h.few
 have HRN:Hid (∀k,k<b.runs.length->b.runs.getD k default∈partsB b):=fun k hk=>List.mem_cons_of_mem _ (A1 hk)
 have HLE:Hid (∀k,k<b.runs.length->(b.runs.getD k default).length<=(Ab b).length):=fun k hk=>MW (List.mem_cons_of_mem _ (A1 hk))
 have HML:Hid (b.mem.length<=(Ab b).length):=MW (List.mem_cons_self ..)
 have HS0:Hid (FC b 0=b.mem.length):=SN b
 have HS1:Hid (∀k,k<b.runs.length->FC b (k+1)=FC b k+(b.runs.getD k default).length):=fun k hk=>SO hk
 have HS2:Hid (∀k,FC b k<=(Ab b).length):=fun k=>WT k
 have HS3:Hid (FC b b.runs.length=(Ab b).length):=UC b
 have HH1:Hid (∀k,k<b.runs.length->Fs b (k+1)=(Fs b k||decide ((b.runs.getD k default).length=0))):=fun k hk=>SP hk
 have HH2:Hid (∀k,Fs b k=true->¬okB b):=fun k hk=>UD hk
 have HRL:Hid (∀i,i<b.runs.length->(x.rs.getD i default).1.2.1=(b.runs.getD i default).length):=fun i hi=>by
  have g1:x.rs.getD i default∈x.m::x.rs:=List.mem_cons_of_mem _ (A1 (by rw[h.rlen];exact hi))
  rw[(h.len _ g1).1,(h.runs i hi).1]
 have HMM:Hid (x.m.1.2.1=b.mem.length):=by show _=_;rw[(h.len _ hm1).1,h.mem.1]
 have hrl:=h.rlen
 have HBV:Hid (Fs b 0=false):=by show _=_;simp[Fs]
 clear hR h hw hm1
 obtain⟨ra,rc,⟨⟨m1,m2,m3⟩,ml⟩,rs⟩:=x
 obtain⟨lim,hlim⟩:=nM b.lim
 obtain⟨RN,hRN⟩:∃z:Nat->List Ent,(fun k=>b.runs.getD k default)=z:=⟨_,rfl⟩
 have hRN':∀k,b.runs.getD k default=RN k:=fun k=>congrFun hRN k
 obtain⟨n,hn⟩:=nM b.runs.length
 obtain⟨T,hT⟩:=nM ((Ab b).length)
 have HEL:Hid (∀k,k<=(Ab b).length->k<=T):=fun k hk=>by rw[<-hT];exact hk
 have hms:b.mem.length=m2:=HMM.out.symm
 unfold AN hdV at KE⊢
 unfold hdV at KM
 simp only[hRN',hn,hlim,hT,hms]at KE KM KR KW H3 H2 H1 H0 HRN HLE HML HS0 HS1 HS2 HS3 HH1 HRL hs hrl hfew⊢
 have HN:Hid (rs.length=n/\True):=⟨hrl,trivial⟩
 rw[hrl]at KE hfew⊢
 clear hlim hRN hRN' hn hms hrl HMM
 have hb0:Bwz w (w.alloc (.cells #[.int .i64 lim,.slice m1 m2 m3,.slice ra n rc] 29)):=bR.alloc nR _
 have k0:(w.alloc (.cells #[.int .i64 lim,.slice m1 m2 m3,.slice ra n rc] 29)).cell? ⟨w.heap.size,0,none⟩=some (.int .i64 lim):=by go_simp
 have k1:(w.alloc (.cells #[.int .i64 lim,.slice m1 m2 m3,.slice ra n rc] 29)).cell? ⟨w.heap.size,1,none⟩=some (.slice m1 m2 m3):=by go_simp
 have k2:(w.alloc (.cells #[.int .i64 lim,.slice m1 m2 m3,.slice ra n rc] 29)).cell? ⟨w.heap.size,2,none⟩=some (.slice ra n rc):=by go_simp
 have hmT:m2<=T:=HML.out
 obtain⟨BT,hBT⟩:=nM (Az lim 1 64)
 rw[hBT]at KW H3 H2 H1 H0
 clear hBT
 cases BT with
 |false=>
  have HE:Hid (3=R):=H3.out rfl
  go_enter func42,ntmps42
  go_wp2_with (go_at_call 29;refine(KW.out _).mono ?_;rintro e w' ⟨rfl,hww⟩;subst hww)
  go_ret
  exact⟨Ad HE.out,hb0⟩
 |true=>
  have hbt:true=true:=rfl
  go_enter func42,ntmps42
  go_wp2_with (go_at_call 29;refine(KW.out _).mono ?_;rintro e w' ⟨rfl,hww⟩;subst hww)
  generalize w.alloc (.cells #[.int .i64 lim,.slice m1 m2 m3,.slice ra n rc] 29)=W0 at *
  go_loopw [3,4,5] (fun sn ho ii wr=> ∃k:Nat,k<=n/\ii= .int .i64 k/\sn= .int .i64 (FC b k)/\ho= .bool (Fs b k)/\wr=W0) (fun _ _ ii _=>n - (intOf ii).toNat)
  case atStart=>exact⟨0,Nat.zero_le _,rfl,by rw[HS0.out],by rw[HBV.out],rfl⟩
  case round=>
   obtain⟨k,hk,rfl,rfl,rfl,rfl⟩:=hrel
   have lw:w.heap.size<wr.heap.size:=bLt _ _ k0
   obtain⟨p,hp⟩:=nM (FC b k)
   have HP:Hid (FC b k=p):=hp
   have hpT:p<=T:=by rw[<-hp];exact HS2.out k
   obtain⟨ho,hho⟩:=nM (Fs b k)
   have HO:Hid (Fs b k=ho):=hho
   rw[hp,hho]
   clear hp hho
   by_cases hkn:k<n
   ·obtain⟨b4,o4,e4,x4⟩:=HD.out k (by rw[lMp,HN.out.1];exact hkn)
    subst e4
    have z0:=cLz hb0 x4
    have ee1:(rs.map (·.1)).getD k (none,0,0)=(rs.getD k default).1:=by rw[gDe,List.getElem?_map,gEe (by rw[HN.out.1];exact hkn),gDe,gEe (by rw[HN.out.1];exact hkn)];rfl
    rw[ee1]at z0
    have hln:=HRL.out k hkn
    have hs1:=HS1.out k hkn
    have hh1:=HH1.out k hkn
    have hs2:=HS2.out (k+1)
    rw[HP.out]at hs1
    rw[HO.out]at hh1
    obtain⟨⟨⟨s1,s2,s3⟩,sl⟩,hz⟩:∃z,rs.getD k default=z:=⟨_,rfl⟩
    rw[hz]at z0 hln
    unfold hdV at z0
    dsimp only at z0 hln
    rw[<-hln]at hs1 hh1
    obtain⟨zb,hzb⟩:=nM (decide (s2=0))
    rw[hzb]at hh1
    have hzq:((s2:Int)==0)=zb:=by rw[<-hzb];by_cases e:s2=0<;>simp[e]
    have HS4:Hid (FC b (k+1)=p+s2):=hs1
    have HH4:Hid (Fs b (k+1)=(ho||zb)):=hh1
    rw[hs1]at hs2
    have hwp:IntKind.i64.wrap ((p:Int)+(s2:Int))=(p:Int)+(s2:Int):=by rw[B7];omega
    have i1:(0:Int)<=(k:Int):=by omega
    have i2:(k:Int)<(n:Int):=by omega
    clear hz hln ee1 x4 hs1 hh1 hzb
    by_cases hbig:(p:Int)+(s2:Int)>4096
    ·have HE:Hid (2=R):=H2.out hbt (.inl (by omega))
     cases ho
     all_goals
      go_wp2
      go_ret
      exact⟨Ad HE.out,hb0⟩
    ·have hbig':¬4096<(p:Int)+(s2:Int):=by omega
     cases ho with
     |false=>
      go_wp2
      go_roundw
      case rel=>exact⟨k+1,by omega,by go_num,by rw[HS4.out];go_num,by rw[HH4.out];rfl,by trivial⟩
      case measure=>simp[intOf]<;>omega
     |true=>
      go_wp2
      go_roundw
      case rel=>exact⟨k+1,by omega,by go_num,by rw[HS4.out];go_num,by rw[HH4.out];rfl,by trivial⟩
      case measure=>simp[intOf]<;>omega
   ·have hke:n=k:=by omega
    subst hke
    have hpe:p=T:=by rw[<-HP.out];exact HS3.out
    subst hpe
    by_cases hbig:(p:Int)>4096
    ·have HE:Hid (2=R):=H2.out hbt (.inl (by omega))
     go_wp2
     go_ret
     exact⟨Ad HE.out,hb0⟩
    ·have ht:p<=4096:=by omega
     by_cases hml:(m2:Int)>lim
     ·have HE:Hid (2=R):=H2.out hbt (.inr hml)
      go_wp2
      go_ret
      exact⟨Ad HE.out,hb0⟩
     ·have hm:(m2:Int)<=lim:=by omega
      cases ho with
      |true=>
       have HE:Hid (1=R):=H1.out hbt ht hm (HH2.out _ HO.out)
       go_wp2
       go_ret
       exact⟨Ad HE.out,hb0⟩
      |false=>
       have HHOL:Hid (Fs b n=false):=HO.out
       have KX:=KM.out wr (by omega) hb0
       obtain⟨UM,hUM⟩:=nM (upB b.mem)
       have HUM:Hid (upB b.mem=UM):=hUM
       rw[hUM]at KX
       clear hUM
       cases UM with
       |false=>
        have HE:Hid (1=R):=H1.out hbt ht hm (fun ok=>UG ok (List.mem_cons_self ..) HUM.out)
        go_wp2_with (go_at_call 80;refine KX.mono ?_;rintro e6 w6 ⟨rfl,hb6⟩)
        go_ret
        exact⟨Ad HE.out,hb0.trans (hb6.mono hb0.size)⟩
       |true=>
        go_wp2_with (go_at_call 80;refine KX.mono ?_;rintro e6 w2 ⟨rfl,hb6⟩;have hb2:Bwz w w2:=hb0.trans (hb6.mono hb0.size);have c0:=cLz hb6 k0;have c1:=cLz hb6 k1;have c2:=cLz hb6 k2;have lwz:w.heap.size<w2.heap.size:=bLt _ _ c0)
        go_loopw [6] (fun ii wr=> ∃k:Nat,k<=n/\ii= .int .i64 k/\Bwz w2 wr/\∀j,j<k->upB (RN j)=true) (fun ii _=>n - (intOf ii).toNat)
        case atStart=>exact⟨0,Nat.zero_le _,rfl,bR,fun j hj=>absurd hj (Nat.not_lt_zero j)⟩
        case round=>
         obtain⟨k,hk,rfl,hny,hur⟩:=hrel
         have HUK:Hid (∀j,j<k->upB (RN j)=true):=hur
         have hby:Bwz w wr:=hb2.trans (hny.mono hb2.size)
         have d0:=cLz hny c0
         have d1:=cLz hny c1
         have d2:=cLz hny c2
         have lw2:w.heap.size<wr.heap.size:=bLt _ _ d0
         clear hur
         by_cases hkn:k<n
         ·obtain⟨b4,o4,e4,x4⟩:=HD.out k (by rw[lMp,HN.out.1];exact hkn)
          subst e4
          have z0:=cLz hby x4
          have ee1:(rs.map (·.1)).getD k (none,0,0)=(rs.getD k default).1:=by rw[gDe,List.getElem?_map,gEe (by rw[HN.out.1];exact hkn),gDe,gEe (by rw[HN.out.1];exact hkn)];rfl
          rw[ee1]at z0
          have KX:Hid (CTz 80 #[hdV (rs.getD k default).1] wr fun r w'=>r= .returned (.bool (upB (RN k)))/\Bwz wr w'):=KR.out k wr hkn (Nat.le_trans (HLE.out k hkn) (by omega)) hby
          obtain⟨UB,hUB⟩:=nM (upB (RN k))
          have HUB:Hid (upB (RN k)=UB):=hUB
          rw[hUB]at KX
          obtain⟨⟨⟨s1,s2,s3⟩,sl⟩,hz⟩:∃z,rs.getD k default=z:=⟨_,rfl⟩
          rw[hz]at z0 KX
          unfold hdV at z0 KX
          dsimp only at z0 KX
          have i1:(0:Int)<=(k:Int):=by omega
          have i2:(k:Int)<(n:Int):=by omega
          clear hz hUB ee1 x4
          cases UB with
          |false=>
           have HE:Hid (1=R):=H1.out hbt ht hm (fun ok=>UG ok (HRN.out k hkn) HUB.out)
           go_wp2_with (go_at_call 80;refine KX.out.mono ?_;rintro e6 w6 ⟨rfl,hb6⟩)
           go_ret
           exact⟨Ad HE.out,hby.trans (hb6.mono hby.size)⟩
          |true=>
           go_wp2_with (go_at_call 80;refine KX.out.mono ?_;rintro e6 w6 ⟨rfl,hb6⟩)
           go_roundw
           case rel=>exact⟨k+1,by omega,by go_num,hny.trans (hb6.mono hny.size),fun j hj=>by
            rcases Nat.lt_succ_iff_lt_or_eq.1 hj with h1|h1
            ·exact HUK.out j h1
            ·rw[h1];exact HUB.out⟩
           case measure=>simp[intOf]<;>omega
         ·have hke:k=n:=by omega
          subst hke
          have HUR:Hid (∀j,j<k->upB (RN j)=true):=HUK.out
          have KX:=KE.out wr (by omega) hby
          go_wp2_with (go_at_call 81;refine KX.mono ?_;rintro e6 w3 ⟨⟨⟨q1,q2,q3⟩,es,l,f,rfl,hoe,hes⟩,hb3'⟩;have hb3:Bwz w w3:=hby.trans (hb3'.mono hby.size);have HES3:Hid (ES (Ab b) l f/\es.length=l.length):=⟨hes,hoe.len⟩;have HER3:Hid (ERs w3 es l):=hoe.ers;(try dsimp only);dsimp only at hoe;have hq2:q2=es.length:=(by obtain⟨ad,cp,e⟩:=hoe.form;cases e;rfl);subst hq2;have HAT3:Hid (BD w3 q1 es):=hoe.at;obtain⟨en,hen⟩:=nM es.length;have HEN:Hid (es.length=en):=hen;rw[hen];have hen2:en<=4096:=(by rw[<-hen,hoe.len];exact Nat.le_trans (HEL.out _ hes.len) ht);clear hoe hes hb3' hen)
          go_loopw [8,9] (fun fi ii wr=> ∃(k:Nat) (g:Bool),k<=en/\ii= .int .i64 k/\fi= .bool g/\Bwz w3 wr/\(g=true↔f=true/\∀j,j<k->Ct (l.getD j default)=true)) (fun _ ii _=>en - (intOf ii).toNat)
          case atStart=>exact⟨0,f,Nat.zero_le _,rfl,rfl,bR,by simp⟩
          case round=>
           obtain⟨k,g,hk,rfl,rfl,hnz,hg⟩:=hrel
           have HG:Hid (g=true↔f=true/\∀j,j<k->Ct (l.getD j default)=true):=hg
           have hbz:Bwz w wr:=hb3.trans (hnz.mono hb3.size)
           clear hg
           by_cases hke:k<en
           ·have hkl:k<l.length:=by rw[<-HES3.out.2,HEN.out];exact hke
            have i1:(0:Int)<=(k:Int):=by omega
            have i2:(k:Int)<(en:Int):=by omega
            cases g with
            |false=>
             go_wp2
             go_roundw
             case rel=>exact⟨k+1,false,by omega,by go_num,rfl,hnz,by
              constructor
              ·intro h;cases h
              ·rintro ⟨h1,h2⟩;exact HG.out.2 ⟨h1,fun j hj=>h2 j (by omega)⟩⟩
             case measure=>simp[intOf]<;>omega
            |true=>
             have HFT:Hid (f=true):=(HG.out.1 rfl).1
             have hmem:l.getD k default∈Ab b:=(HES3.out.1.perm HFT.out).mem_iff.1 (A1 hkl)
             obtain⟨b1,o1,ee,x1,x2,x3,x4,x5⟩:=HAT3.out k (by rw[HEN.out];exact hke)
             subst ee
             have z1:=cLz hnz x1
             have z2:=cLz hnz x2
             have z3:=cLz hnz x3
             have z4:=cLz hnz x4
             have z5:=cLz hnz x5
             have KX:Hid (CTz 82 #[(es.getD k default).val] wr fun r w'=>r= .returned (.bool (Ct (l.getD k default)))/\Bwz wr w'):=KF.out _ _ wr ((HER3.out.2 k hkl).below hnz) hmem
             obtain⟨FB,hFB⟩:=nM (Ct (l.getD k default))
             have HFB:Hid (Ct (l.getD k default)=FB):=hFB
             rw[hFB]at KX
             obtain⟨⟨fk,ft,fs,⟨f1,f3,f4⟩,fm⟩,hz⟩:∃z,es.getD k default=z:=⟨_,rfl⟩
             rw[hz]at z1 z2 z3 z4 z5 KX
             unfold EM.val at KX
             unfold hdV at z4
             dsimp only at z1 z2 z3 z4 z5 KX
             rw[show hdV (f1,f3,f4)= .slice f1 f3 f4 from rfl]at KX
             clear hz hFB x1 x2 x3 x4 x5 hmem
             go_wp2_with (go_at_call 82;refine KX.out.mono ?_;rintro e6 w6 ⟨rfl,hb6⟩)
             have HG6:Hid (FB=true↔f=true/\∀j,j<k+1->Ct (l.getD j default)=true):=by
              constructor
              ·intro h
               refine⟨HFT.out,fun j hj=>?_⟩
               rcases Nat.lt_succ_iff_lt_or_eq.1 hj with h1|h1
               ·exact(HG.out.1 (by trivial)).2 j h1
               ·rw[h1,HFB.out];exact h
              ·rintro ⟨_,h2⟩
               rw[<-HFB.out];exact h2 k (by omega)
             go_roundw
             case rel=>exact⟨k+1,FB,by omega,by go_num,rfl,hnz.trans (hb6.mono hnz.size),HG6.out⟩
             case measure=>simp[intOf]<;>omega
           ·have hkn:k=en:=by omega
            subst hkn
            cases g with
            |false=>
             have HE:Hid (1=R):=H1.out hbt ht hm (fun ok=>by
              have h9:=HES3.out.1.fine.2 ok.once
              have:false=true:=HG.out.2 ⟨h9,fun j hj=>by
               cases e:Ct (l.getD j default)with
               |true=>rfl
               |false=>exact(WW ok HES3.out.1 (by rw[<-HES3.out.2,HEN.out];exact hj) e).elim⟩
              cases this)
             go_wp2
             go_ret
             exact⟨Ad HE.out,hbz⟩
            |true=>
             have HE:Hid (0=R):=H0.out l f hbt ht hm HHOL.out HUM.out HUR.out HES3.out.1 ⟨(HG.out.1 rfl).1,fun j hj=>(HG.out.1 rfl).2 j (by rw[<-HEN.out,HES3.out.2];exact hj)⟩
             go_wp2
             go_ret
             exact⟨Ad HE.out,hbz⟩
theorem okB.ents(ok:okB b)(h:ES (Ab b) l f):f=true/\l.Perm (Ab b)/\C9 l:=by
 have hf:=h.fine.2 ok.once
 exact⟨hf,h.perm hf,h.rise⟩
theorem okB.size(ok:okB b):(Ab b).length<=100000/\∀y∈Ab b,y.row.length<=2000000:=
 ⟨by have:=ok.all;omega,fun y hy=>by have:=ok.small.2.2 y hy;omega⟩
theorem Oo(b:Buf)(x:BX)(w:World)(h:bufAt w b x)(ok:okB b):
 Calls Tryz.prog 43 #[AN b x] w fun e w'=>(∃(hh:Hdr) (es:List EM) (l:List Ent),e= .returned (hdV hh)/\OE w' w.heap.size (hdV hh) es l/\l.Perm (Ab b)/\C9 l)/\Bwz w w':=by
 have KE:Hid (∀w1,Bwz w w1->CTz 81 #[AN b x] w1 fun r w'=>(∃(hh:Hdr) (es:List EM) (l:List Ent) (f:Bool),r= .returned (.tuple #[hdV hh,.bool f])/\OE w' w.heap.size (hdV hh) es l/\l.Perm (Ab b)/\C9 l)/\Bwz w1 w'):=fun w1 hb=>
  (Jg b x w1 (Ai h hb) ok.size.1 ok.size.2).mono (fun e w' ⟨⟨hh,es,l,f,he,hoe,hes⟩,hbb⟩=>⟨⟨hh,es,l,f,he,hoe.mono (by have:=hb.size;omega),(ok.ents hes).2⟩,hbb⟩)
 obtain⟨L,hL⟩:=nM (Ab b)
 rw[hL]at KE⊢
 clear h ok hL
 obtain⟨ra,rc,⟨⟨m1,m2,m3⟩,ml⟩,rs⟩:=x
 obtain⟨lim,mem,runs⟩:=b
 rw[show AN ⟨lim,mem,runs⟩ ⟨ra,rc,((m1,m2,m3),ml),rs⟩= .agg #[.int .i64 lim,.slice m1 m2 m3,.slice ra rs.length rc]from rfl]at KE⊢
 obtain⟨n,hn⟩:∃n,rs.length=n:=⟨_,rfl⟩
 rw[hn]at KE⊢
 clear hn
 have hb0:Bwz w (w.alloc (.cells #[.int .i64 lim,.slice m1 m2 m3,.slice ra n rc] 29)):=bR.alloc nR _
 go_enter func43,ntmps43
 go_wp2_with (go_at_call 81;refine(KE.out _ hb0).mono ?_;rintro e w2 ⟨⟨⟨q1,q2,q3⟩,es,l,f,rfl,hoe,hp,hri⟩,hb2⟩;unfold hdV at hoe⊢;dsimp only at hoe⊢)
 go_ret
 exact⟨⟨(q1,q2,q3),es,l,rfl,hoe,hp,hri⟩,hb0.trans (hb2.mono hb0.size)⟩
end bf
namespace jn
open Go.ChangeShapes Go.WideShapes Go.ChangeAt Go.RowKit
open vl bf
variable {p : pl.Pln} {s : Jn} {a b q : List Ent} {k : Nat}
def sqE(y:Ent):Ent:=⟨⟨#[]⟩,0,y.seq,[],false⟩
structure CJ(p:pl.Pln)(s:Jn)(D:List (Int×Ent))(q:List Ent):Prop where
 below:∀e∈D,e.2.seq<s.seq
 row:∀e∈D,DF p e.1 e.2=true
 once:(D.map (·.2.seq)).Nodup
 perm:q.Perm (D.map fun e=>sqE e.2)
 rise:C9 q
theorem Y3(p:pl.Pln)(s:Jn):CJ p s [] []:=⟨fun e he=>absurd he List.not_mem_nil,fun e he=>absurd he List.not_mem_nil,List.nodup_nil,List.Perm.refl _,List.Pairwise.nil⟩
theorem CJ.has{D:List (Int×Ent)}(h:CJ p s D q)(y:Ent):hasB q (Ay (sqE y))=true↔y.seq∈D.map (·.2.seq):=by
 unfold hasB
 rw[List.any_eq_true]
 constructor
 ·rintro ⟨z,hz,ez⟩
  obtain⟨e,he,rfl⟩:=List.mem_map.1 (h.perm.mem_iff.1 hz)
  have ez:=of_decide_eq_true ez
  have:e.2.seq=y.seq:=congrArg (fun t=>t.2.2) ez
  exact List.mem_map.2 ⟨e,he,this⟩
 ·intro hy
  obtain⟨e,he,ee⟩:=List.mem_map.1 hy
  refine⟨sqE e.2,h.perm.mem_iff.2 (List.mem_map.2 ⟨e,he,rfl⟩),decide_eq_true ?_⟩
  show(_,_,_)=(_,_,_)
  have ee:e.2.seq=y.seq:=ee
  rw[show(sqE e.2).seq=(sqE y).seq from ee]
  rfl
theorem CJ.more{D:List (Int×Ent)}{q':List Ent}{d:Int}{y:Ent}(h:CJ p s D q)(h1:y.seq<s.seq)(h2:DF p d y=true)(h3:hasB q (Ay (sqE y))=false)(hp:q'.Perm (sqE y::q))(hr:C9 q'):CJ p s (D++[(d,y)]) q':=by
 have hn:y.seq ∉ D.map (·.2.seq):=fun k=>by
  have:=(h.has y).2 k
  rw[h3]at this
  cases this
 refine⟨fun e he=>?_,fun e he=>?_,?_,?_,hr⟩
 ·rcases List.mem_append.1 he with k|k
  ·exact h.below e k
  ·rw[List.mem_singleton.1 k];exact h1
 ·rcases List.mem_append.1 he with k|k
  ·exact h.row e k
  ·rw[List.mem_singleton.1 k];exact h2
 ·rw[List.map_append]
  refine List.nodup_append.2 ⟨h.once,List.pairwise_singleton ..,fun a ha b hb e=>?_⟩
  have hb:b=y.seq:=List.mem_singleton.1 hb
  rw[hb]at e
  exact hn (e▸ha)
 ·rw[List.map_append]
  exact hp.trans ((h.perm.cons _).trans (List.perm_append_singleton (sqE y) _).symm)
def BH(a b:List Ent):List (Int×Ent):=a.map (fun y=>((1:Int),y))++b.map (fun y=>((2:Int),y))
theorem R7(a b:List Ent):(BH a b).map (·.2.seq)=(a++b).map (·.seq):=by
 unfold BH
 rw[List.map_append,List.map_append,List.map_map,List.map_map]
 rfl
def Mw(p:pl.Pln)(s:Jn):Bool:=decide (s.L.lim=p.limit)&&decide (s.R.lim=p.limit)
theorem UH(ha:a.Perm (Ab s.L))(hb:b.Perm (Ab s.R))(hl:Mw p s=true)(h:CJ p s (BH a b) q):Bx p s=true:=by
 have hab:(a++b).Perm (Ab s.L++Ab s.R):=ha.append hb
 unfold Mw at hl
 rw[Bool.and_eq_true]at hl
 have hs:GJ s=true:=by
  unfold GJ
  refine decide_eq_true ⟨fun y hy=>?_,?_⟩
  ·rcases List.mem_append.1 (hab.mem_iff.2 hy)with k|k
   ·exact h.below (1,y) (List.mem_append.2 (.inl (List.mem_map.2 ⟨y,k,rfl⟩)))
   ·exact h.below (2,y) (List.mem_append.2 (.inr (List.mem_map.2 ⟨y,k,rfl⟩)))
  ·have:=h.once
   rw[R7]at this
   exact((hab.map (·.seq)).nodup_iff).1 this
 have h1:F9 p 1 s.L=true:=List.all_eq_true.2 fun y hy=>h.row (1,y) (List.mem_append.2 (.inl (List.mem_map.2 ⟨y,ha.mem_iff.2 hy,rfl⟩)))
 have h2:F9 p 2 s.R=true:=List.all_eq_true.2 fun y hy=>h.row (2,y) (List.mem_append.2 (.inr (List.mem_map.2 ⟨y,hb.mem_iff.2 hy,rfl⟩)))
 unfold Bx
 rw[hl.1,hl.2,hs,h1,h2]
 rfl
theorem Mx(hl:Mw p s=false):Bx p s=false:=by
 unfold Mw at hl
 unfold Bx
 rw[hl]
 simp
theorem R8(ha:a.Perm (Ab s.L))(hb:b.Perm (Ab s.R))(h:CJ p s ((BH a b).take k) q)(hk:k<(BH a b).length)
 (hw:s.seq<=((BH a b).getD k (0,default)).2.seq\/DF p ((BH a b).getD k (0,default)).1 ((BH a b).getD k (0,default)).2=false\/hasB q (Ay (sqE ((BH a b).getD k (0,default)).2))=true):Bx p s=false:=by
 have hab:(a++b).Perm (Ab s.L++Ab s.R):=ha.append hb
 have hm:(BH a b).getD k (0,default)∈BH a b:=A1 hk
 have hcase:∀e∈BH a b,(e.1=1/\e.2∈Ab s.L)\/(e.1=2/\e.2∈Ab s.R):=fun e he=>by
  rcases List.mem_append.1 he with j|j
  ·obtain⟨y,hy,rfl⟩:=List.mem_map.1 j
   exact .inl ⟨rfl,ha.mem_iff.1 hy⟩
  ·obtain⟨y,hy,rfl⟩:=List.mem_map.1 j
   exact .inr ⟨rfl,hb.mem_iff.1 hy⟩
 have hsn:∀hq:¬DR s.seq (Ab s.L++Ab s.R),Bx p s=false:=fun hq=>by
  have e:GJ s=false:=decide_eq_false hq
  unfold Bx
  rw[e]
  simp
 rcases hw with hw|hw|hw
 ·refine hsn (fun hq=>?_)
  have:((BH a b).getD k (0,default)).2∈Ab s.L++Ab s.R:=by
   rcases hcase _ hm with⟨_,j⟩|⟨_,j⟩
   ·exact List.mem_append.2 (.inl j)
   ·exact List.mem_append.2 (.inr j)
  have:=hq.1 _ this
  omega
 ·rcases hcase _ hm with⟨e1,j⟩|⟨e1,j⟩
  ·rw[e1]at hw
   have:F9 p 1 s.L=false:=List.all_eq_false.2 ⟨_,j,by rw[hw];decide⟩
   unfold Bx
   rw[this]
   simp
  ·rw[e1]at hw
   have:F9 p 2 s.R=false:=List.all_eq_false.2 ⟨_,j,by rw[hw];decide⟩
   unfold Bx
   rw[this]
   simp
 ·refine hsn (fun hq=>?_)
  have h1:=(h.has _).1 hw
  have h2:((BH a b).map (·.2.seq)).Nodup:=by
   rw[R7]
   exact((hab.map (·.seq)).nodup_iff).2 hq.2
  have e:BH a b=(BH a b).take k++((BH a b).getD k (0,default)::(BH a b).drop (k+1)):=by
   rw[getD_at hk,List.getElem_cons_drop,List.take_append_drop]
  rw[e,List.map_append,List.map_cons]at h2
  have h3:=(List.nodup_append.1 h2).2.2 _ h1 _ (List.mem_cons_self ..)
  exact h3 rfl
theorem WX(h:k<a.length):(BH a b).getD k (0,default)=(1,a.getD k default)/\(BH a b).take (k+1)=(BH a b).take k++[(1,a.getD k default)]:=by
 have hl:k<(BH a b).length:=by unfold BH;rw[lAp,lMp];omega
 have e:(BH a b).getD k (0,default)=(1,a.getD k default):=by
  rw[gDe,gDe]
  unfold BH
  rw[List.getElem?_append_left (by rw[lMp];exact h),List.getElem?_map,gEe h]
  rfl
 refine⟨e,?_⟩
 rw[List.take_succ_eq_append_getElem hl,<-getD_at (d:=(0,default)) hl,e]
theorem WY(h:k<b.length):(BH a b).getD (a.length+k) (0,default)=(2,b.getD k default)/\(BH a b).take (a.length+(k+1))=(BH a b).take (a.length+k)++[(2,b.getD k default)]:=by
 have hl:a.length+k<(BH a b).length:=by unfold BH;rw[lAp,lMp,lMp];omega
 have e:(BH a b).getD (a.length+k) (0,default)=(2,b.getD k default):=by
  rw[gDe,gDe]
  unfold BH
  rw[List.getElem?_append_right (by rw[lMp];omega),lMp,Nat.add_sub_cancel_left,List.getElem?_map,gEe h]
  rfl
 refine⟨e,?_⟩
 rw[<-Nat.add_assoc,List.take_succ_eq_append_getElem hl,<-getD_at (d:=(0,default)) hl,e]
theorem My(m:Int):bf.Az m (-1099511627777) 1099511627776=CH m:=by
 unfold bf.Az CH tm.Bb noMark
 rw[Bool.eq_iff_iff]
 simp only[Bool.or_eq_true,decide_eq_true_eq]
 omega
end jn
end Go.Proofs.YtdohnkkbkfhphaaGreat
