import Derived.Test.YtdohnkkbkfhphaaGreatPc21
import Derived.Shelf.SlIter.Nil
import Derived.Shelf.SortM.Plain
import Derived.Shelf.SortM.SortNone
import Derived.Maps.Ext
set_option linter.all false
set_option maxHeartbeats 4000000
set_option maxRecDepth 100000
namespace Go.Proofs.YtdohnkkbkfhphaaGreat.jn
open Go.Proofs.Tryz
open Go.ChangeShapes Go.WideShapes Go.ChangeAt Go.RowKit
open vl bf
attribute [local go_sem] Oper.semAt_some
variable {w : World} {b : Nat}
def DI(s:Jn)(side time:Int):Jn:=if side=2 then⟨s.L,s.R,s.lm,time,s.seq⟩else⟨s.L,s.R,time,s.rm,s.seq⟩
theorem mark_le(side:Int):B4 side=6\/B4 side=7:=by
 unfold B4
 split
 ·exact .inr rfl
 ·exact .inl rfl
theorem cell_far{i j:Nat}{v u:Value}(h:w.cell? ⟨b,i,none⟩=some v)(hij:j≠i):(w.setCell ⟨b,j,none⟩ u).cell? ⟨b,i,none⟩=some v:=(World.cell?_setCell_other _ _ _ _ (fun e=>hij (by injection e))).trans h
theorem Tg{p:pl.Pln}{x:pl.PA}{s:Jn}{y:JX}{t:Value}(h:boxC w b p x s y t)(side time:Int):boxC (w.setCell ⟨b,13+B4 side,none⟩ (.int .i64 time)) b p x (DI s side time) y t:=by
 have hm:=mark_le side
 refine⟨?_,?_,cell_far h.told (by omega),fun j hj=>?_⟩
 ·obtain⟨v0,v1,v2,v3,v4,v5,v6,v7,v8,v9,v10,v11,v12⟩:=h.plan
  exact⟨cell_far v0 (by omega),cell_far v1 (by omega),cell_far v2 (by omega),cell_far v3 (by omega),cell_far v4 (by omega),cell_far v5 (by omega),cell_far v6 (by omega),cell_far v7 (by omega),cell_far v8 (by omega),cell_far v9 (by omega),cell_far v10 (by omega),cell_far v11 (by omega),cell_far v12 (by omega)⟩
 ·have hc:=Nh h.join side
  have hn:=World.cell?_setCell_same _ _ (.int .i64 time) hc
  obtain⟨u0,u1,u2,u3,u4,u5,u6,u7,u8⟩:=h.join
  unfold DI
  unfold B4 at hn hm⊢
  by_cases e:side=2
  ·rw[if_pos e]at hn⊢
   rw[if_pos e]
   exact⟨cell_far u0 (by omega),cell_far u1 (by omega),cell_far u2 (by omega),cell_far u3 (by omega),cell_far u4 (by omega),cell_far u5 (by omega),cell_far u6 (by omega),hn,cell_far u8 (by omega)⟩
  ·rw[if_neg e]at hn⊢
   rw[if_neg e]
   exact⟨cell_far u0 (by omega),cell_far u1 (by omega),cell_far u2 (by omega),cell_far u3 (by omega),cell_far u4 (by omega),cell_far u5 (by omega),hn,cell_far u7 (by omega),cell_far u8 (by omega)⟩
 ·exact⟨by
   obtain⟨u,hu⟩:=Option.isSome_iff_exists.1 (h.room j hj).1
   obtain⟨u',hu'⟩:=cell?_setCell_some (p:=⟨b,13+B4 side,none⟩) (x:=.int .i64 time) hu
   rw[hu'];rfl,by rw[World.frozen?_setCell];exact(h.room j hj).2⟩
theorem Vk(b:Nat)(p:pl.Pln)(x:pl.PA)(s:Jn)(y:JX)(t:Value)(side time:Int)(w:World)(h:boxC w b p x s y t):
 Calls Tryz.prog 255 #[.pointer (some ⟨b,0,none⟩),.int .i64 side,.int .i64 time] w fun e w'=>e= .returned (.tuple #[])/\w'=w.setCell ⟨b,13+B4 side,none⟩ (.int .i64 time):=by
 have KM:Hid (∀w1,CTz 143 #[.pointer (some ⟨b,13,none⟩),.int .i64 side] w1 fun e w'=>e= .returned (.pointer (some ⟨b,13+B4 side,none⟩))/\w'=w1):=fun w1=>M3 b 13 side w1
 have hc:=Nh h.join side
 have hf:w.frozen? ⟨b,13+B4 side,none⟩=false:=by
  have:=(h.room (13+B4 side) (by rcases mark_le side with e|e<;>omega)).2
  simpa using this
 clear h
 obtain⟨k,hk⟩:=nM (13+B4 side)
 rw[hk]at KM hc hf⊢
 clear hk
 go_enter func255,ntmps255
 go_wp2_with (go_at_call 143;refine(KM.out _).mono ?_;rintro e w2 ⟨rfl,rfl⟩)
 exact bodyPost_end (v:=.tuple #[]) (by simp[results,results255,go_sem]) rfl ⟨rfl,rfl⟩
theorem Vl(b:Nat)(p:pl.Pln)(x:pl.PA)(s:Jn)(y:JX)(ta:Option Addr)(tn tc:Nat)(w:World)(h:boxC w b p x s y (.slice ta tn tc)):
 Calls Tryz.prog 257 #[.pointer (some ⟨b,0,none⟩)] w fun e w'=>e= .returned (.tuple #[joinV s y,.slice ta tn tc])/\Bwz w w':=by
 have hlt:=h.lt
 obtain⟨u0,u1,u2,u3,u4,u5,u6,u7,u8⟩:=h.join
 have ut:=h.told
 clear h
 rw[A6]
 go_enter func257,ntmps257
 go_wp2
 have hne:b≠w.heap.size:=by omega
 go_region_held3 (fun w'=>w'.cell? ⟨b,13,none⟩=some (.int .i64 s.L.lim)/\w'.cell? ⟨b,14,none⟩=some (.slice y.l.m.1.1 y.l.m.1.2.1 y.l.m.1.2.2)/\w'.cell? ⟨b,15,none⟩=some (.slice y.l.ra y.l.rs.length y.l.rc)/\w'.cell? ⟨b,16,none⟩=some (.int .i64 s.R.lim)/\w'.cell? ⟨b,17,none⟩=some (.slice y.r.m.1.1 y.r.m.1.2.1 y.r.m.1.2.2)/\w'.cell? ⟨b,18,none⟩=some (.slice y.r.ra y.r.rs.length y.r.rc)/\w'.cell? ⟨b,19,none⟩=some (.int .i64 s.lm)/\w'.cell? ⟨b,20,none⟩=some (.int .i64 s.rm)/\w'.cell? ⟨b,21,none⟩=some (.int .i64 s.seq)/\w'.cell? ⟨b,22,none⟩=some (.slice ta tn tc)) (first|go_keep|(refine⟨?_,?_,?_,?_,?_,?_,?_,?_,?_,?_⟩<;>go_simp))
  (fail)
 all_goals
  go_wp2
  exact bodyPost_ret (v:=.tuple #[.agg #[.int .i64 s.L.lim,.slice y.l.m.1.1 y.l.m.1.2.1 y.l.m.1.2.2,.slice y.l.ra y.l.rs.length y.l.rc,.int .i64 s.R.lim,.slice y.r.m.1.1 y.r.m.1.2.1 y.r.m.1.2.2,.slice y.r.ra y.r.rs.length y.r.rc,.int .i64 s.lm,.int .i64 s.rm,.int .i64 s.seq],.slice ta tn tc]) (by simp[results,results257,go_sem]) rfl ⟨rfl,(bR.alloc nR _).drew⟩
end Go.Proofs.YtdohnkkbkfhphaaGreat.jn
namespace Go.Proofs.YtdohnkkbkfhphaaGreat.pl
open Go.Proofs.Tryz
open Go.ChangeShapes Go.WideShapes Go.ChangeAt Go.RowKit
open vl
theorem Ns{s t:ByteArray}{a b:Bool}(h1:s=t)(h2:a=b):Ending.returned (.tuple #[.string s,.bool a])= .returned (.tuple #[.string t,.bool b]):=by rw[h1,h2]
theorem Vm(r:List Cel)(l:List Int)(k:Nat)(h:k<l.length):(Bd r l).getD k default=r.getD (l.getD k 0).toNat default:=by
 unfold Bd
 simp[gDe,h]
theorem Lk(p:Pln)(x:PA)(side:Int)(ar:Option Addr)(cr:Nat)(r:List Cel)(w:World)(hw:wfPlan p)(hp:planAt w p x)(h0:AB p side r=0)(hr:vl.rowAt w ar r)(hwr:BE r)(hlr:r.length<=9223372036854775807):
 Calls Tryz.prog 45 #[Ap p x,.int .i64 side,.slice ar r.length cr] w fun e w'=>e= .returned (.tuple #[.string (Aq p side r),.bool (hasB p side r)])/\Bwz w w':=by
 have h:=C7 h0
 have hk:=keys_in (side:=side) h.1
 have hkl:=hk.2
 have HKO:Hid (rowOk (B9 p side r)):=NC (by omega) (by rw[h.2.2.1];exact hk.1) h.2.2.2.1 hwr
 have HH:Hid (hasB p side r= !E5 (B9 p side r)):=by show(decide (AB p side r=0)&& !E5 (B9 p side r))=_;rw[decide_eq_true h0];rfl
 have HKS:Hid (Aq p side r=⟨(if hasB p side r=true then encR (B9 p side r)else []).toArray⟩):=rfl
 have HA:Hid (vl.rowAt w ar r):=hr
 have HL:Hid (A2 w (kA x side) (keysOf p side)):=EW hp side
 have HP:Hid (∀i,i<(keysOf p side).length->0<=(keysOf p side).getD i 0/\(keysOf p side).getD i 0<(r.length:Int)):=fun i hi=>by rw[h.2.2.1];exact hk.1 _ (C3 hi)
 have HPK:Hid (∀k,k<(keysOf p side).length->Bd r ((keysOf p side).take (k+1))=Bd r ((keysOf p side).take k)++[r.getD ((keysOf p side).getD k 0).toNat default]):=fun k hk=>by
  show Bd r ((keysOf p side).take (k+1))=_
  rw[L0 _ k hk];simp[Bd]
 have HPE:Hid (∀k,(keysOf p side).length<=k->Bd r ((keysOf p side).take k)=B9 p side r):=fun k hk=>by
  show Bd r ((keysOf p side).take k)=_
  rw[List.take_of_length_le hk];rfl
 have HPL:Hid (∀k,(Bd r ((keysOf p side).take k)).length<=(keysOf p side).length):=fun k=>by
  show(Bd r ((keysOf p side).take k)).length<=_
  unfold Bd;rw[lMp,List.length_take];omega
 have HKA:Hid (∀k,k<(keysOf p side).length->(B9 p side r).getD k default=r.getD ((keysOf p side).getD k 0).toNat default):=fun k hk=>Vm r _ k hk
 have HQ:Hid ((B9 p side r).length=(keysOf p side).length):=by show(B9 p side r).length=_;unfold B9 Bd;rw[lMp]
 have HNY:Hid (∀j,j<(keysOf p side).length->((B9 p side r).getD j default).k=0->E5 (B9 p side r)=true):=fun j hj h=>MF (by rw[HQ.out];exact hj) h
 have HNO:Hid ((∀i,i<(keysOf p side).length->((B9 p side r).getD i default).k≠0)->E5 (B9 p side r)=false):=fun h=>Pp (fun i hi=>h i (by rw[HQ.out]at hi;exact hi))
 have H2:Hid (side=2->kA x side=x.rk/\kC x side=x.rkc/\(keysOf p side).length=p.rkeys.length):=fun h=>by show kA x side=x.rk/\kC x side=x.rkc/\_;unfold kA kC keysOf;simp only[if_pos h];exact⟨trivial,trivial,trivial⟩
 have H1:Hid (¬side=2->kA x side=x.lk/\kC x side=x.lkc/\(keysOf p side).length=p.lkeys.length):=fun h=>by show kA x side=x.lk/\kC x side=x.lkc/\_;unfold kA kC keysOf;simp only[if_neg h];exact⟨trivial,trivial,trivial⟩
 obtain⟨kr,hkr⟩:=nM (B9 p side r)
 obtain⟨hb,hhb⟩:=nM (hasB p side r)
 obtain⟨ks,hks⟩:=nM (Aq p side r)
 obtain⟨ka,hka⟩:=nM (kA x side)
 obtain⟨kc,hkc⟩:=nM (kC x side)
 obtain⟨ky,hky⟩:=nM (keysOf p side)
 rw[hkr]at HKO HH HKS HPE HKA HQ HNY HNO
 rw[hhb]at HH HKS⊢
 rw[hks]at HKS⊢
 rw[hka]at HL H1 H2
 rw[hkc]at H1 H2
 rw[hky]at HL HP HPK HPE HPL HKA HQ HNY HNO H1 H2 hkl
 obtain⟨kn,hkn⟩:=nM ky.length
 have HKN:Hid (ky.length=kn):=hkn
 rw[hkn]at HP HPK HPE HPL HKA HQ HNY HNO H1 H2 hkl
 obtain⟨m,hm⟩:=nM r.length
 have HM:Hid (r.length=m):=hm
 rw[hm]at HP hlr⊢
 clear hkr hhb hks hka hkc hky hkn hm h hk h0 hp hw hr hwr
 obtain⟨kind,mode,low,high,size,limit,left,right,lkeys,rkeys,grouped,group,aggs⟩:=p
 obtain⟨l,lc,rr,rc,lk,lkc,rk,rkc,g,gc,a,ac⟩:=x
 unfold Ap
 dsimp only at H1 H2⊢
 obtain⟨n8,h8⟩:∃n,lkeys.length=n:=⟨_,rfl⟩
 obtain⟨n9,h9⟩:∃n,rkeys.length=n:=⟨_,rfl⟩
 rw[h8]at H1⊢
 rw[h9]at H2⊢
 clear h8 h9
 by_cases s2:side=2
 ·subst s2
  obtain⟨rfl,rfl,rfl⟩:=H2.out rfl
  clear H1 H2
  go_enter func45,ntmps45
  go_wp2
  go_loopw [9,10] (fun v i wr=> ∃k:Nat,k<=kn/\i= .int .i64 k/\AA wr w.heap.size v (Bd r (ky.take k))/\Bwz w wr/\∀i,i<k->(kr.getD i default).k≠0) (fun _ i _=>kn - (intOf i).toNat)
  case atStart=>exact⟨0,Nat.zero_le _,rfl,World.ownsRow_nil _ _ _ _,bR.alloc nR _,fun i hi=>absurd hi (Nat.not_lt_zero i)⟩
  case round=>
   obtain⟨k,hk,rfl,hov,hnx,hall⟩:=hrel
   have HO:Hid (AA wr w.heap.size u9 (Bd r (ky.take k))):=hov
   have HAL:Hid (∀i,i<k->(kr.getD i default).k≠0):=hall
   have hsz:=hnx.size
   clear hov hall
   by_cases hlt:k<kn
   ·obtain⟨b,o,e,xk⟩:=HL.out k (by rw[HKN.out];exact hlt)
    subst e
    have hpk:=HP.out k hlt
    have HPKk:=HPK.out k hlt
    have HAT:=HKA.out k hlt
    obtain⟨z,hz⟩:=nM (ky.getD k 0)
    rw[hz]at xk hpk HPKk HAT
    obtain⟨zn,rfl⟩:=Int.eq_ofNat_of_zero_le hpk.1
    rw[Int.toNat_natCast]at HPKk HAT
    obtain⟨b1,o1,e1,x1,x2,x3⟩:=HA.out zn (by rw[HM.out];omega)
    subst e1
    have qk:=cLz hnx xk
    have q1:=cLz hnx x1
    have q2:=cLz hnx x2
    have q3:=cLz hnx x3
    obtain⟨⟨kv,nv,sv⟩,hcv⟩:∃z,r.getD zn default=z:=⟨_,rfl⟩
    rw[hcv]at q1 q2 q3 HPKk HAT
    dsimp only at q1 q2 q3
    have HPK2:Hid (Bd r (ky.take (k+1))=Bd r (ky.take k)++[⟨kv,nv,sv⟩]):=HPKk
    have HA2:Hid (kr.getD k default=⟨kv,nv,sv⟩):=HAT
    have i1:(0:Int)<=(k:Int):=by omega
    have i2:(k:Int)<(kn:Int):=by omega
    have i3:(0:Int)<=(zn:Int):=by omega
    have i4:(zn:Int)<(m:Int):=by omega
    have hpl:=HPL.out k
    obtain⟨pr,hpr⟩:=nM (Bd r (ky.take k))
    rw[hpr]at HO HPK2 hpl
    clear xk x1 x2 x3 hz hcv HPKk HAT hpk hpr
    by_cases hk0:kv=0
    ·subst hk0
     have HX:Hid (hb=false):=by show hb=false;rw[HH.out,HNY.out k hlt (by rw[HA2.out])];rfl
     have HY:Hid (ks=⟨#[]⟩):=by show ks=_;rw[HKS.out,HX.out];rfl
     go_wp2
     go_ret2
     exact⟨Ns HY.out.symm HX.out.symm,hnx⟩
    ·have hk':(kv==0)=false:=by simpa using hk0
     have HS3:Hid (∀i,i<k+1->(kr.getD i default).k≠0):=fun i hi=>by
      rcases Nat.lt_succ_iff_lt_or_eq.1 hi with h1|h1
      ·exact HAL.out i h1
      ·rw[h1,HA2.out];exact hk0
     clear hk0
     go_wp2_with (at_builtin;refine Dq rfl (.tmp 32) (.tmp 40) rfl w.heap.size u9 pr rfl wr HO.out ⟨kv,nv,sv⟩ wr.heap.size rfl rfl (by omega) hsz ?_;intro v2 w3 hown3 hgrow3)
     obtain⟨ad2,c2,hv,_⟩:=BU hown3
     have hbn:=C6 hnx hsz HO.out hgrow3
     subst hv
     go_roundw
     case rel=>exact⟨k+1,by omega,by go_num,by rw[HPK2.out];exact hown3,hbn,HS3.out⟩
     case measure=>simp[intOf];omega
   ·have HPEk:=HPE.out k (by omega)
    have HNN:Hid (E5 kr=false):=HNO.out (fun i hi=>HAL.out i (by omega))
    have HX:Hid (hb=true):=by show hb=true;rw[HH.out,HNN.out];rfl
    have HY:Hid (ks=⟨(encR kr).toArray⟩):=by show ks=_;rw[HKS.out,HX.out];rfl
    obtain⟨ad2,c2,hv,_⟩:=BU HO.out
    rw[HPEk]at HO hv
    rw[HQ.out]at hv
    subst hv
    have HRW:Hid (vl.rowAt wr ad2 kr):=D7 (cap:=c2) (base:=w.heap.size) (by rw[HQ.out];exact HO.out)
    have KK:Hid (CTz 85 #[.slice ad2 kn c2] wr fun e w'=>e= .returned (.string ⟨(encR kr).toArray⟩)/\Bwz wr w'):=by
     have:=vl.FG ad2 c2 kr wr HRW.out HKO.out
     rwa[HQ.out]at this
    obtain⟨kb,hkb⟩:=nM (⟨(encR kr).toArray⟩:ByteArray)
    rw[hkb]at KK HY
    clear HPEk HPE HPK HPL hkb
    go_wp2_with fail
    refine KK.out.mono ?_
    rintro e w4 ⟨rfl,hb4⟩
    go_wp2
    go_ret2
    exact⟨Ns HY.out.symm HX.out.symm,hnx.trans (hb4.mono hsz)⟩
 ·obtain⟨rfl,rfl,rfl⟩:=H1.out s2
  have s2':(side==2)=false:=by simpa using s2
  clear H1 H2 s2
  go_enter func45,ntmps45
  go_wp2
  go_loopw [9,10] (fun v i wr=> ∃k:Nat,k<=kn/\i= .int .i64 k/\AA wr w.heap.size v (Bd r (ky.take k))/\Bwz w wr/\∀i,i<k->(kr.getD i default).k≠0) (fun _ i _=>kn - (intOf i).toNat)
  case atStart=>exact⟨0,Nat.zero_le _,rfl,World.ownsRow_nil _ _ _ _,bR.alloc nR _,fun i hi=>absurd hi (Nat.not_lt_zero i)⟩
  case round=>
   obtain⟨k,hk,rfl,hov,hnx,hall⟩:=hrel
   have HO:Hid (AA wr w.heap.size u9 (Bd r (ky.take k))):=hov
   have HAL:Hid (∀i,i<k->(kr.getD i default).k≠0):=hall
   have hsz:=hnx.size
   clear hov hall
   by_cases hlt:k<kn
   ·obtain⟨b,o,e,xk⟩:=HL.out k (by rw[HKN.out];exact hlt)
    subst e
    have hpk:=HP.out k hlt
    have HPKk:=HPK.out k hlt
    have HAT:=HKA.out k hlt
    obtain⟨z,hz⟩:=nM (ky.getD k 0)
    rw[hz]at xk hpk HPKk HAT
    obtain⟨zn,rfl⟩:=Int.eq_ofNat_of_zero_le hpk.1
    rw[Int.toNat_natCast]at HPKk HAT
    obtain⟨b1,o1,e1,x1,x2,x3⟩:=HA.out zn (by rw[HM.out];omega)
    subst e1
    have qk:=cLz hnx xk
    have q1:=cLz hnx x1
    have q2:=cLz hnx x2
    have q3:=cLz hnx x3
    obtain⟨⟨kv,nv,sv⟩,hcv⟩:∃z,r.getD zn default=z:=⟨_,rfl⟩
    rw[hcv]at q1 q2 q3 HPKk HAT
    dsimp only at q1 q2 q3
    have HPK2:Hid (Bd r (ky.take (k+1))=Bd r (ky.take k)++[⟨kv,nv,sv⟩]):=HPKk
    have HA2:Hid (kr.getD k default=⟨kv,nv,sv⟩):=HAT
    have i1:(0:Int)<=(k:Int):=by omega
    have i2:(k:Int)<(kn:Int):=by omega
    have i3:(0:Int)<=(zn:Int):=by omega
    have i4:(zn:Int)<(m:Int):=by omega
    have hpl:=HPL.out k
    obtain⟨pr,hpr⟩:=nM (Bd r (ky.take k))
    rw[hpr]at HO HPK2 hpl
    clear xk x1 x2 x3 hz hcv HPKk HAT hpk hpr
    by_cases hk0:kv=0
    ·subst hk0
     have HX:Hid (hb=false):=by show hb=false;rw[HH.out,HNY.out k hlt (by rw[HA2.out])];rfl
     have HY:Hid (ks=⟨#[]⟩):=by show ks=_;rw[HKS.out,HX.out];rfl
     go_wp2
     go_ret2
     exact⟨Ns HY.out.symm HX.out.symm,hnx⟩
    ·have hk':(kv==0)=false:=by simpa using hk0
     have HS3:Hid (∀i,i<k+1->(kr.getD i default).k≠0):=fun i hi=>by
      rcases Nat.lt_succ_iff_lt_or_eq.1 hi with h1|h1
      ·exact HAL.out i h1
      ·rw[h1,HA2.out];exact hk0
     clear hk0
     go_wp2_with (at_builtin;refine Dq rfl (.tmp 32) (.tmp 40) rfl w.heap.size u9 pr rfl wr HO.out ⟨kv,nv,sv⟩ wr.heap.size rfl rfl (by omega) hsz ?_;intro v2 w3 hown3 hgrow3)
     obtain⟨ad2,c2,hv,_⟩:=BU hown3
     have hbn:=C6 hnx hsz HO.out hgrow3
     subst hv
     go_roundw
     case rel=>exact⟨k+1,by omega,by go_num,by rw[HPK2.out];exact hown3,hbn,HS3.out⟩
     case measure=>simp[intOf];omega
   ·have HPEk:=HPE.out k (by omega)
    have HNN:Hid (E5 kr=false):=HNO.out (fun i hi=>HAL.out i (by omega))
    have HX:Hid (hb=true):=by show hb=true;rw[HH.out,HNN.out];rfl
    have HY:Hid (ks=⟨(encR kr).toArray⟩):=by show ks=_;rw[HKS.out,HX.out];rfl
    obtain⟨ad2,c2,hv,_⟩:=BU HO.out
    rw[HPEk]at HO hv
    rw[HQ.out]at hv
    subst hv
    have HRW:Hid (vl.rowAt wr ad2 kr):=D7 (cap:=c2) (base:=w.heap.size) (by rw[HQ.out];exact HO.out)
    have KK:Hid (CTz 85 #[.slice ad2 kn c2] wr fun e w'=>e= .returned (.string ⟨(encR kr).toArray⟩)/\Bwz wr w'):=by
     have:=vl.FG ad2 c2 kr wr HRW.out HKO.out
     rwa[HQ.out]at this
    obtain⟨kb,hkb⟩:=nM (⟨(encR kr).toArray⟩:ByteArray)
    rw[hkb]at KK HY
    clear HPEk HPE HPK HPL hkb
    go_wp2_with fail
    refine KK.out.mono ?_
    rintro e w4 ⟨rfl,hb4⟩
    go_wp2
    go_ret2
    exact⟨Ns HY.out.symm HX.out.symm,hnx.trans (hb4.mono hsz)⟩
end Go.Proofs.YtdohnkkbkfhphaaGreat.pl
namespace Go.Proofs.YtdohnkkbkfhphaaGreat.bt
open Go.ChangeShapes Go.WideShapes Go.ChangeAt Go.RowKit
open vl pl
end Go.Proofs.YtdohnkkbkfhphaaGreat.bt
namespace Go.Proofs.YtdohnkkbkfhphaaGreat.bt
open vl pl
def CD(n:Nat):List Cel:=List.replicate n ⟨0,0,⟨#[]⟩⟩
end Go.Proofs.YtdohnkkbkfhphaaGreat.bt
namespace Go.Proofs.YtdohnkkbkfhphaaGreat.bt
open Go.Proofs.Tryz
open Go.ChangeShapes Go.WideShapes Go.ChangeAt Go.RowKit
open vl pl
theorem Ze:(Tryz.prog.info? 103).map (fun i=>(i.zero,i.size,i.bytes))=some (some (.agg #[.int .i64 0,.int .i64 0,.string ⟨#[]⟩]),3,32):=by kernel_rfl
theorem Vn(n:Nat)(w:World)(hn:n<=400):
 (Instr.makeSlice 41 (.int .i64 (n:Int)) (.int .i64 (n:Int))).run Tryz.prog w= .ok (.slice (some ⟨w.heap.size,0,none⟩) n n) (w.alloc (.cells (madeCells #[.int .i64 0,.int .i64 0,.string ⟨#[]⟩] (n * 3)) 103)):=by
 have hI:=Ze
 cases hi:Tryz.prog.info? 103 with
 |none=>rw[hi]at hI;cases hI
 |some i=>
  rw[hi]at hI
  simp only[Option.map_some,Option.some.injEq,Prod.mk.injEq]at hI
  obtain⟨hz,hs,hb⟩:=hI
  have:=run_makeSlice (P:=Tryz.prog) (w:=w) 41 103 i _ underlying41 hi hz .i64 .i64 n n (by omega) (Int.le_refl _) (by rw[hs];simp;omega) (by rw[hb];omega) (by omega)
  rw[hs,Int.toNat_natCast]at this
  exact this
theorem Vo(n:Nat)(w:World)(h1:1<=n)(h4:n<=4):vl.rowAt (w.alloc (.cells (madeCells #[.int .i64 0,.int .i64 0,.string ⟨#[]⟩] (n * 3)) 103)) (some ⟨w.heap.size,0,none⟩) (CD n):=by
 have m1:madeCells #[.int .i64 0,.int .i64 0,.string ⟨#[]⟩] (1 * 3)=#[.int .i64 0,.int .i64 0,.string ⟨#[]⟩]:=by kernel_rfl
 have m2:madeCells #[.int .i64 0,.int .i64 0,.string ⟨#[]⟩] (2 * 3)=#[.int .i64 0,.int .i64 0,.string ⟨#[]⟩,.int .i64 0,.int .i64 0,.string ⟨#[]⟩]:=by kernel_rfl
 have m3:madeCells #[.int .i64 0,.int .i64 0,.string ⟨#[]⟩] (3 * 3)=#[.int .i64 0,.int .i64 0,.string ⟨#[]⟩,.int .i64 0,.int .i64 0,.string ⟨#[]⟩,.int .i64 0,.int .i64 0,.string ⟨#[]⟩]:=by kernel_rfl
 have m4:madeCells #[.int .i64 0,.int .i64 0,.string ⟨#[]⟩] (4 * 3)=#[.int .i64 0,.int .i64 0,.string ⟨#[]⟩,.int .i64 0,.int .i64 0,.string ⟨#[]⟩,.int .i64 0,.int .i64 0,.string ⟨#[]⟩,.int .i64 0,.int .i64 0,.string ⟨#[]⟩]:=by kernel_rfl
 have hn:n=1\/n=2\/n=3\/n=4:=by omega
 intro i hi
 have hi':i<n:=by simpa[CD]using hi
 refine⟨_,_,rfl,?_⟩
 have e:(CD n).getD i default=⟨0,0,⟨#[]⟩⟩:=by simp[CD,gDe,hi']
 rw[e]
 have hj:i=0\/i=1\/i=2\/i=3:=by omega
 rcases hn with rfl|rfl|rfl|rfl<;>rcases hj with rfl|rfl|rfl|rfl<;>first|(exact absurd hi' (by decide))|((first|rw[m1]|rw[m2]|rw[m3]|rw[m4]);clear m1 m2 m3 m4;refine⟨?_,?_,?_⟩<;>go_simp)
theorem Th(p:Pln)(x:PA)(side:Int)(w:World)(h1:1<=(Aw p side).length)(h4:(Aw p side).length<=4):
 Calls Tryz.prog 275 #[Ap p x,.int .i64 side] w fun e w'=>(∃gb,e= .returned (.slice (some ⟨gb,0,none⟩) (Aw p side).length (Aw p side).length)/\w.heap.size<=gb/\vl.rowAt w' (some ⟨gb,0,none⟩) (CD (Aw p side).length))/\Bwz w w':=by
 have K1:=hIz (fun(w1:World)=>Jz p x side w1)
 have HC:Hid (∀w1,vl.rowAt (World.alloc w1 (.cells (madeCells #[.int .i64 0,.int .i64 0,.string ⟨#[]⟩] ((Aw p side).length * 3)) 103)) (some ⟨w1.heap.size,0,none⟩) (CD (Aw p side).length)):=fun w1=>Vo _ w1 h1 h4
 have HM:Hid (∀w1,(Instr.makeSlice 41 (.int .i64 ((Aw p side).length:Int)) (.int .i64 ((Aw p side).length:Int))).run Tryz.prog w1= .ok (.slice (some ⟨w1.heap.size,0,none⟩) (Aw p side).length (Aw p side).length) (w1.alloc (.cells (madeCells #[.int .i64 0,.int .i64 0,.string ⟨#[]⟩] ((Aw p side).length * 3)) 103))):=fun w1=>Vn _ w1 (by omega)
 obtain⟨n,hn⟩:∃n,(Aw p side).length=n:=⟨_,rfl⟩
 obtain⟨ca,hca⟩:=nM (cA x side)
 obtain⟨cc,hcc⟩:=nM (cC x side)
 rw[hn]at HC HM⊢
 rw[hn,hca,hcc]at K1
 clear hn hca hcc h1 h4
 obtain⟨kind,mode,low,high,size,limit,left,right,lkeys,rkeys,grouped,group,aggs⟩:=p
 obtain⟨l,lc,rr,rc,lk,lkc,rk,rkc,g,gc,a,ac⟩:=x
 unfold Ap at K1⊢
 dsimp only at K1⊢
 obtain⟨n6,h6⟩:∃n,left.length=n:=⟨_,rfl⟩
 obtain⟨n7,h7⟩:∃n,right.length=n:=⟨_,rfl⟩
 obtain⟨n8,h8⟩:∃n,lkeys.length=n:=⟨_,rfl⟩
 obtain⟨n9,h9⟩:∃n,rkeys.length=n:=⟨_,rfl⟩
 obtain⟨n11,h11⟩:∃n,group.length=n:=⟨_,rfl⟩
 obtain⟨n12,h12⟩:∃n,aggs.length=n:=⟨_,rfl⟩
 rw[h6,h7,h8,h9,h11,h12]at K1
 rw[h6,h7,h8,h9,h11,h12]
 clear h6 h7 h8 h9 h11 h12
 go_enter func275,ntmps275
 go_wp2_with fail
 refine(K1.out _).mono ?_
 rintro e w1 ⟨rfl,hb1⟩
 have hba:=(bR.alloc nR _).trans (hb1.mono (by simp))
 have hm:=HM.out w1
 have hs:=hba.size
 go_wp2
 go_ret
 exact⟨⟨_,rfl,hs,HC.out w1⟩,hba.alloc hs _⟩
end Go.Proofs.YtdohnkkbkfhphaaGreat.bt
namespace Go.Proofs
open Go.RowKit Go.Maps Go.Sort Go.Shelf
def Tryz.keys178_ren:Go.Shelf.Ren:=⟨fun|7=>178|10=>211|n=>n,fun|23=>115|26=>9|3=>3|28=>222|0=>0|27=>221|33=>256|4=>4|n=>n,fun|n=>n⟩
theorem Tryz.keys178:Go.Proofs.SlLaysZ.n7 Tryz.prog Tryz.keys178_ren:={
 mixed:=by kernel_rfl
 f7:=⟨Tryz.f178.name,by decide,Tryz.func178.trans (congrArg some (by kernel_rfl))⟩
 f10:=⟨Tryz.f211.name,by decide,Tryz.func211.trans (congrArg some (by kernel_rfl))⟩
 t0:=Tryz.underlying0
 a0:=Tryz.isAgg0
 z0:=Tryz.sizeOf0
 v0:=Tryz.zeroValue0
 t4:=Tryz.underlying4
 a4:=Tryz.isAgg4
 z4:=Tryz.sizeOf4
 v4:=Tryz.zeroValue4
 t23:=Tryz.underlying115
 a23:=Tryz.isAgg115
 z23:=Tryz.sizeOf115
 v23:=Tryz.zeroValue115
 t26:=Tryz.underlying9
 a26:=Tryz.isAgg9
 z26:=Tryz.sizeOf9
 v26:=Tryz.zeroValue9
 t27:=Tryz.underlying221
 a27:=Tryz.isAgg221
 z27:=Tryz.sizeOf221
 v27:=Tryz.zeroValue221
 t28:=Tryz.underlying222
 a28:=Tryz.isAgg222
 z28:=Tryz.sizeOf222
 v28:=Tryz.zeroValue222
 t33:=Tryz.underlying256
 a33:=Tryz.isAgg256
 z33:=Tryz.sizeOf256
 v33:=Tryz.zeroValue256}
def Tryz.sorted177_ren:Go.Shelf.Ren:=⟨fun|6=>177|8=>209|9=>210|11=>219|13=>163|12=>220|23=>203|24=>204|14=>224|15=>225|16=>226|17=>227|18=>228|19=>229|20=>230|21=>231|22=>232|25=>233|26=>214|27=>215|28=>234|29=>235|30=>236|31=>237|n=>n,fun|26=>9|28=>222|24=>118|0=>0|3=>3|37=>211|48=>251|50=>253|4=>4|40=>244|39=>243|45=>248|5=>5|9=>9|51=>259|55=>193|57=>269|58=>270|33=>256|n=>n,fun|n=>n⟩
theorem Tryz.sorted177:Go.Proofs.SlLaysZ.n6 Tryz.prog Tryz.sorted177_ren:={
 mixed:=by kernel_rfl
 f6:=⟨Tryz.f177.name,by decide,Tryz.func177.trans (congrArg some (by kernel_rfl))⟩
 f8:=⟨Tryz.f209.name,by decide,Tryz.func209.trans (congrArg some (by kernel_rfl))⟩
 f11:=⟨Tryz.f219.name,by decide,Tryz.func219.trans (congrArg some (by kernel_rfl))⟩
 t0:=Tryz.underlying0
 a0:=Tryz.isAgg0
 z0:=Tryz.sizeOf0
 v0:=Tryz.zeroValue0
 t24:=Tryz.underlying118
 a24:=Tryz.isAgg118
 z24:=Tryz.sizeOf118
 v24:=Tryz.zeroValue118
 t26:=Tryz.underlying9
 a26:=Tryz.isAgg9
 z26:=Tryz.sizeOf9
 v26:=Tryz.zeroValue9
 t28:=Tryz.underlying222
 a28:=Tryz.isAgg222
 z28:=Tryz.sizeOf222
 v28:=Tryz.zeroValue222
 i26:=by kernel_rfl}
def Tryz.sort210_ren:Go.Shelf.Ren:=⟨fun|6=>210|8=>163|9=>220|19=>203|20=>204|21=>224|22=>225|23=>226|24=>227|25=>228|26=>229|27=>230|28=>231|29=>232|36=>233|31=>214|32=>215|37=>234|38=>235|39=>236|41=>237|n=>n,fun|27=>118|29=>9|3=>3|32=>211|26=>118|0=>0|44=>251|46=>253|4=>4|36=>244|35=>243|41=>248|5=>5|9=>9|53=>259|57=>193|63=>269|64=>270|n=>n,fun|n=>n⟩
theorem Tryz.sort210:Go.Proofs.SlLaysM.n6 Tryz.prog Tryz.sort210_ren:={
 mixed:=by kernel_rfl
 f6:=⟨Tryz.f210.name,by decide,Tryz.func210.trans (congrArg some (by kernel_rfl))⟩
 f8:=Tryz.func163.trans (congrArg some (by kernel_rfl))
 f9:=⟨Tryz.f220.name,by decide,Tryz.func220.trans (congrArg some (by kernel_rfl))⟩
 f19:=Tryz.func203.trans (congrArg some (by kernel_rfl))
 f20:=Tryz.func204.trans (congrArg some (by kernel_rfl))
 f21:=⟨Tryz.f224.name,by decide,Tryz.func224.trans (congrArg some (by kernel_rfl))⟩
 f22:=⟨Tryz.f225.name,by decide,Tryz.func225.trans (congrArg some (by kernel_rfl))⟩
 f23:=⟨Tryz.f226.name,by decide,Tryz.func226.trans (congrArg some (by kernel_rfl))⟩
 f24:=⟨Tryz.f227.name,by decide,Tryz.func227.trans (congrArg some (by kernel_rfl))⟩
 f25:=⟨Tryz.f228.name,by decide,Tryz.func228.trans (congrArg some (by kernel_rfl))⟩
 f26:=⟨Tryz.f229.name,by decide,Tryz.func229.trans (congrArg some (by kernel_rfl))⟩
 f27:=⟨Tryz.f230.name,by decide,Tryz.func230.trans (congrArg some (by kernel_rfl))⟩
 f28:=⟨Tryz.f231.name,by decide,Tryz.func231.trans (congrArg some (by kernel_rfl))⟩
 f29:=⟨Tryz.f232.name,by decide,Tryz.func232.trans (congrArg some (by kernel_rfl))⟩
 f31:=Tryz.func214.trans (congrArg some (by kernel_rfl))
 f32:=Tryz.func215.trans (congrArg some (by kernel_rfl))
 f36:=⟨Tryz.f233.name,by decide,Tryz.func233.trans (congrArg some (by kernel_rfl))⟩
 f37:=⟨Tryz.f234.name,by decide,Tryz.func234.trans (congrArg some (by kernel_rfl))⟩
 f38:=⟨Tryz.f235.name,by decide,Tryz.func235.trans (congrArg some (by kernel_rfl))⟩
 f39:=⟨Tryz.f236.name,by decide,Tryz.func236.trans (congrArg some (by kernel_rfl))⟩
 f41:=⟨Tryz.f237.name,by decide,Tryz.func237.trans (congrArg some (by kernel_rfl))⟩
 t0:=Tryz.underlying0
 a0:=Tryz.isAgg0
 z0:=Tryz.sizeOf0
 v0:=Tryz.zeroValue0
 t3:=Tryz.underlying3
 a3:=Tryz.isAgg3
 z3:=Tryz.sizeOf3
 v3:=Tryz.zeroValue3
 t4:=Tryz.underlying4
 a4:=Tryz.isAgg4
 z4:=Tryz.sizeOf4
 v4:=Tryz.zeroValue4
 t5:=Tryz.underlying5
 a5:=Tryz.isAgg5
 z5:=Tryz.sizeOf5
 v5:=Tryz.zeroValue5
 t9:=Tryz.underlying9
 a9:=Tryz.isAgg9
 z9:=Tryz.sizeOf9
 v9:=Tryz.zeroValue9
 t26:=Tryz.underlying118
 a26:=Tryz.isAgg118
 z26:=Tryz.sizeOf118
 v26:=Tryz.zeroValue118
 t27:=Tryz.underlying118
 a27:=Tryz.isAgg118
 z27:=Tryz.sizeOf118
 v27:=Tryz.zeroValue118
 t29:=Tryz.underlying9
 a29:=Tryz.isAgg9
 z29:=Tryz.sizeOf9
 v29:=Tryz.zeroValue9
 t32:=Tryz.underlying211
 a32:=Tryz.isAgg211
 z32:=Tryz.sizeOf211
 v32:=Tryz.zeroValue211
 t35:=Tryz.underlying243
 a35:=Tryz.isAgg243
 z35:=Tryz.sizeOf243
 v35:=Tryz.zeroValue243
 t36:=Tryz.underlying244
 a36:=Tryz.isAgg244
 z36:=Tryz.sizeOf244
 v36:=Tryz.zeroValue244
 t41:=Tryz.underlying248
 a41:=Tryz.isAgg248
 z41:=Tryz.sizeOf248
 v41:=Tryz.zeroValue248
 t44:=Tryz.underlying251
 a44:=Tryz.isAgg251
 z44:=Tryz.sizeOf251
 v44:=Tryz.zeroValue251
 t46:=Tryz.underlying253
 a46:=Tryz.isAgg253
 z46:=Tryz.sizeOf253
 v46:=Tryz.zeroValue253
 t53:=Tryz.underlying259
 a53:=Tryz.isAgg259
 z53:=Tryz.sizeOf259
 v53:=Tryz.zeroValue259
 t57:=Tryz.underlying193
 a57:=Tryz.isAgg193
 z57:=Tryz.sizeOf193
 v57:=Tryz.zeroValue193
 t63:=Tryz.underlying269
 a63:=Tryz.isAgg269
 z63:=Tryz.sizeOf269
 v63:=Tryz.zeroValue269
 t64:=Tryz.underlying270
 a64:=Tryz.isAgg270
 z64:=Tryz.sizeOf270
 v64:=Tryz.zeroValue270}
theorem Tryz.sorts177(m:Nat):AnyZ.SortsIn Tryz.prog Tryz.sorted177_ren Fence.wide m:=
 ⟨fun blk off cap ss W hH hblk hsz=>callsIn_wide.2 (AnyM.slices_Sort_string Tryz.sort210 blk off cap ss W hH hblk hsz),
  fun p cap W=>callsIn_wide.2 (AnyM.slices_Sort_string_none Tryz.sort210 p cap W)⟩
theorem Tryz.maps_Keys_178(mb:Option Nat)(W:World):CallsIn Fence.wide 5 Tryz.prog 178 #[.map mb] W fun e w'=>e= .returned (.func (.func 211) #[] #[.pointer (some ⟨W.heap.size,0,none⟩)])/\w'=W.alloc (.cells #[.map mb] 115):=
 AnyZ.keys_in Tryz.keys178 Fence.wide 5 trivial rfl mb W
theorem Tryz.slices_Sorted_keys_177_178{H:Type}(b nn:Nat)(D0:DataW H)(R:Value->Option (DataW H×List MemPlace))(w:World)(hown:w.ownsMap Tryz.prog 9 R b nn D0)(hmax:Maps.size D0<=maxLen)(hbytes:Maps.size D0 * 16<=140737488355328):
 CallsIn Fence.wide 5 Tryz.prog 177 #[.func (.func 211) #[] #[.pointer (some ⟨w.heap.size,0,none⟩)]] (w.alloc (.cells #[.map (some b)] 115)) fun e w'=> ∃(v:Value) (ss:List (List UInt8)),e= .returned v/\ss.Perm (strKeys D0)/\
  w'.ownsRow (w.alloc (.cells #[.map (some b)] 115)).heap.size 9 1 v ss.length ((ss.mergeSort (fun x y=>decide (x<=y))).map encStr)/\(v= .slice none 0 0↔ss=[])/\Below (w.alloc (.cells #[.map (some b)] 115)).heap.size (w.alloc (.cells #[.map (some b)] 115)) w':=by
 have hbl:=hown.lt
 have hseq:SeqGives Fence.wide 2 Tryz.prog 211 #[.pointer (some ⟨w.heap.size,0,none⟩)] encStr (fun ss=>ss.Perm (strKeys D0)) (Maps.size D0) (w.alloc (.cells #[.map (some b)] 115)):=
  AnyZ.keys_gives (ρ:=Tryz.keys178_ren) {Tryz.keys178 with} Fence.wide _ trivial rfl (by omega) w.heap.size b nn D0 _ (by simp) (by simp) (by
   obtain⟨es,clock,hb,Ft,hs,hD⟩:=hown
   exact⟨es,clock,(Below.heap_alloc _ _ b hbl).trans hb,Ft,hs,hD⟩)
 exact AnyZ.sorted_in Tryz.sorted177 Fence.wide 5 trivial trivial trivial trivial rfl (by omega) (Tryz.sorts177 _) (enters_of Tryz.func210 (by kernel_rfl) rfl) 211 #[.pointer (some ⟨w.heap.size,0,none⟩)] trivial (enters_of Tryz.func211 (by kernel_rfl) rfl) _ _ hmax hbytes _ hseq
end Go.Proofs
namespace Go.Proofs.YtdohnkkbkfhphaaGreat.ch
open Go.Proofs.Tryz
open Go.ChangeShapes Go.WideShapes Go.ChangeAt Go.RowKit Go.Maps
open Go.WideAt Go.WideElems Go.WideMaps
abbrev KV:=List (List UInt8×Int)
def insK(x:List UInt8×Int):KV->KV
 |[]=>[x]
 |y::r=>if bytesBefore x.1 y.1 then x::y::r else y::insK x r
def GU(kv:KV)(k:List UInt8):KV:=kv.filter fun p=> !(p.1==k)
def Ik(kv:KV)(k:List UInt8)(n:Int):KV:=insK (k,n) (GU kv k)
def D9(kv:KV)(k:List UInt8):Int:=match kv.find? (fun p=>p.1==k)with|some p=>p.2|none=>0
def ent(p:List UInt8×Int):Lit×DataW Unit:=(.string p.1,.lit (.int .i64 p.2))
def toD(kv:KV):DataW Unit:=.map (kv.map ent)
theorem Xp(x:List UInt8×Int)(l:KV):(insK x l).map ent=DataW.insert (ent x) (l.map ent):=by
 induction l with
 |nil=>rfl
 |cons y r ih=>
  rw[insK,List.map_cons,DataW.insert]
  have e:(ent x).1.before (ent y).1=bytesBefore x.1 y.1:=rfl
  rw[e]
  split
  ·rfl
  ·rw[List.map_cons,ih]
theorem RL(l:KV)(k:List UInt8):(GU l k).map ent=(l.map ent).filter fun p=> !p.1.sameKey (.string k):=by
 unfold GU
 rw[List.filter_map]
 rfl
theorem Nt(kv:KV)(k:List UInt8)(n:Int):(toD kv).put (.string k) (.lit (.int .i64 n))=toD (Ik kv k n):=by
 unfold toD Ik
 rw[Xp,RL]
 rfl
theorem Xq(kv:KV)(k:List UInt8):(toD kv).del (.string k)=toD (GU kv k):=by
 unfold toD
 rw[RL]
 rfl
theorem YD(kv:KV)(k:List UInt8):(toD kv).atKey (.string k) (.lit (.int .i64 0))= .lit (.int .i64 (D9 kv k)):=by
 unfold toD DataW.atKey D9
 simp only[List.find?_map]
 have e:((fun p:Lit×DataW Unit=>p.1.sameKey (.string k))∘ent)=fun p=>p.1==k:=rfl
 rw[e]
 cases kv.find? (fun p=>p.1==k)<;>rfl
theorem Il(kv:KV):Maps.size (toD kv)=kv.length:=by
 unfold toD;rw[Maps.size_eq,lMp]
theorem law:Keyed Tryz.prog 9:=string_keyed underlying9
theorem F8(w:World):(zeroValue 3).run Tryz.prog w= .ok (.int .i64 0) w:=by kernel_rfl
def CS(w:World)(B nn:Nat)(kv:KV):Prop:=w.ownsMap Tryz.prog 9 (plainElem (H:=Unit) Tryz.prog 3) B nn (toD kv)
theorem F0{kv:KV}{k:List UInt8}{c:Int}(h:(toD kv).atKey (.string k) (.lit (.int .i64 0))= .lit (.int .i64 c)):c=D9 kv k:=by
 rw[YD]at h
 injection h with h
 injection h with _ h
 exact h.symm
def Xr(kv:KV)(k:List UInt8)(n:Int):Int:=
 if D9 kv k+n<0 then 9 else if 1073741824<D9 kv k+n then 2 else if D9 kv k+n=0 then 0 else if D9 kv k=0/\kv.length=4096 then 2 else 0
def Qw(kv:KV)(k:List UInt8)(n:Int):KV:=
 if D9 kv k+n<0 then kv else if 1073741824<D9 kv k+n then kv else if D9 kv k+n=0 then GU kv k else if D9 kv k=0/\kv.length=4096 then kv else Ik kv k (D9 kv k+n)
theorem Xs(B nn:Nat)(kv:KV)(k:ByteArray)(n:Int)(w:World)(hm:CS w B nn kv)(hk:k.size<=maxLen)(hnn:nn<maxLen)
 (h1: -1152921504606846976<=D9 kv k.data.toList) (h2:D9 kv k.data.toList<=1152921504606846976) (n1: -1152921504606846976<=n) (n2:n<=1152921504606846976) (hlen:kv.length<=1152921504606846976):
 Calls Tryz.prog 71 #[.map (some B),.string k,.int .i64 n] w fun e w'=>e= .returned (.int .i64 (Xr kv k.data.toList n))/\CS w' B (nn+1) (Qw kv k.data.toList n)/\w.grownBy w' (some B):=by
 have HM:Hid (CS w B nn kv):=hm
 obtain⟨h,hh⟩:∃h,D9 kv k.data.toList=h:=⟨_,rfl⟩
 have HH:Hid (D9 kv k.data.toList=h):=hh
 rw[hh]at h1 h2
 unfold Xr Qw
 rw[hh]
 clear hh hm
 by_cases c1:h+n<0
 ·rw[if_pos c1,if_pos c1]
  go_enter func71,ntmps71
  go_wp2_with (at_lookup;refine wpList_lookup_own_int _ rfl (.tmp 9) (.tmp 10) 115 rfl 9 3 .i64 law underlying115 underlying3 (F8 _) B nn _ rfl HM.out _ (.string k.data.toList) rfl (keyOf_string_mk underlying9 hk) ?_;intro c hat hwc;have hc:c=h:=(F0 hat).trans HH.out;clear hat;subst hc)
  go_ret
  exact⟨rfl,HM.out.mono (by omega),World.grownBy.refl _ _⟩
 ·rw[if_neg c1,if_neg c1]
  by_cases c2:1073741824<h+n
  ·rw[if_pos c2,if_pos c2]
   go_enter func71,ntmps71
   go_wp2_with (at_lookup;refine wpList_lookup_own_int _ rfl (.tmp 9) (.tmp 10) 115 rfl 9 3 .i64 law underlying115 underlying3 (F8 _) B nn _ rfl HM.out _ (.string k.data.toList) rfl (keyOf_string_mk underlying9 hk) ?_;intro c hat hwc;have hc:c=h:=(F0 hat).trans HH.out;clear hat;subst hc)
   go_ret
   exact⟨rfl,HM.out.mono (by omega),World.grownBy.refl _ _⟩
  ·rw[if_neg c2,if_neg c2]
   by_cases c3:h+n=0
   ·rw[if_pos c3,if_pos c3]
    have c3':(h+n==0)=true:=by rw[beq_iff_eq];exact c3
    have HC3:Hid (h+n=0):=c3
    clear c3
    go_enter func71,ntmps71
    go_wp2_with (first
     |(at_lookup;refine wpList_lookup_own_int _ rfl (.tmp 9) (.tmp 10) 115 rfl 9 3 .i64 law underlying115 underlying3 (F8 _) B nn _ rfl HM.out _ (.string k.data.toList) rfl (keyOf_string_mk underlying9 hk) ?_;intro c hat hwc;have hc:c=h:=(F0 hat).trans HH.out;clear hat;subst hc)
     |(at_delete;refine wpList_delete_own _ rfl (.tmp 24) (.tmp 25) 115 9 rfl 3 law underlying115 _ B nn _ rfl HM.out _ (.string k.data.toList) rfl (keyOf_string_mk underlying9 hk) ?_;intro w1 hown1 hturn1))
    go_ret
    exact⟨rfl,by rw[Xq]at hown1;exact hown1.mono (by omega),hturn1.grown⟩
   ·rw[if_neg c3,if_neg c3]
    have c3':(h+n==0)=false:=by rw[beq_eq_false_iff_ne];exact c3
    by_cases c4:h=0
    ·have c4':(h==0)=true:=by rw[beq_iff_eq];exact c4
     have HC4:Hid (h=0):=c4
     clear c4
     have hlx:=fun ty=>HM.out.len underlying115 ty
     simp only[Il]at hlx
     by_cases c5:kv.length=4096
     ·have c5':((kv.length:Int)==4096)=true:=by rw[beq_iff_eq];omega
      rw[if_pos ⟨HC4.out,c5⟩,if_pos ⟨HC4.out,c5⟩]
      clear c5
      go_enter func71,ntmps71
      go_wp2_with (first
       |(at_lookup;refine wpList_lookup_own_int _ rfl (.tmp 9) (.tmp 10) 115 rfl 9 3 .i64 law underlying115 underlying3 (F8 _) B nn _ rfl HM.out _ (.string k.data.toList) rfl (keyOf_string_mk underlying9 hk) ?_;intro c hat hwc;have hc:c=h:=(F0 hat).trans HH.out;clear hat;subst hc))
      go_ret
      exact⟨rfl,HM.out.mono (by omega),World.grownBy.refl _ _⟩
     ·have c5':((kv.length:Int)==4096)=false:=by rw[beq_eq_false_iff_ne];omega
      rw[if_neg (fun h=>c5 h.2),if_neg (fun h=>c5 h.2)]
      go_enter func71,ntmps71
      go_wp2_with (first
       |(at_lookup;refine wpList_lookup_own_int _ rfl (.tmp 9) (.tmp 10) 115 rfl 9 3 .i64 law underlying115 underlying3 (F8 _) B nn _ rfl HM.out _ (.string k.data.toList) rfl (keyOf_string_mk underlying9 hk) ?_;intro c hat hwc;have hc:c=h:=(F0 hat).trans HH.out;clear hat;subst hc)
       |(at_mapUpdate;refine wpList_mapUpdate_own _ rfl (.tmp 34) (.tmp 35) (.tmp 36) 115 rfl 9 3 law underlying115 _ B nn _ rfl HM.out hnn _ _ (.string k.data.toList) rfl rfl (keyOf_string_mk underlying9 hk) _ [] (plainElem_int underlying3 (WalkArith.wf_i64 (by omega))) ?_;intro w1 hown1 hgrow1))
      go_ret
      exact⟨rfl,by rw[Nt]at hown1;exact hown1,hgrow1⟩
    ·have c4':(h==0)=false:=by rw[beq_eq_false_iff_ne];exact c4
     rw[if_neg (fun h=>c4 h.1),if_neg (fun h=>c4 h.1)]
     go_enter func71,ntmps71
     go_wp2_with (first
      |(at_lookup;refine wpList_lookup_own_int _ rfl (.tmp 9) (.tmp 10) 115 rfl 9 3 .i64 law underlying115 underlying3 (F8 _) B nn _ rfl HM.out _ (.string k.data.toList) rfl (keyOf_string_mk underlying9 hk) ?_;intro c hat hwc;have hc:c=h:=(F0 hat).trans HH.out;clear hat;subst hc)
      |(at_mapUpdate;refine wpList_mapUpdate_own _ rfl (.tmp 34) (.tmp 35) (.tmp 36) 115 rfl 9 3 law underlying115 _ B nn _ rfl HM.out hnn _ _ (.string k.data.toList) rfl rfl (keyOf_string_mk underlying9 hk) _ [] (plainElem_int underlying3 (WalkArith.wf_i64 (by omega))) ?_;intro w1 hown1 hgrow1))
     go_ret
     exact⟨rfl,by rw[Nt]at hown1;exact hown1,hgrow1⟩
end Go.Proofs.YtdohnkkbkfhphaaGreat.ch
namespace Go.Proofs.YtdohnkkbkfhphaaGreat.ch
open Go.ChangeShapes Go.WideShapes Go.ChangeAt Go.RowKit Go.Maps Go.Sort
def rising(kv:KV):Prop:=kv.Pairwise fun p q=>bytesBefore p.1 q.1=true
theorem Dr:∀(a b:List UInt8),bytesBefore a b=decide (a<b)
 |[],[]=>by simp[bytesBefore]
 |[],_::_=>by simp[bytesBefore]
 |_::_,[]=>by simp[bytesBefore]
 |a::x,b::y=>by
  rw[bytesBefore,Dr x y]
  simp only[List.cons_lt_cons_iff]
  by_cases h1:a<b<;>by_cases h2:a=b<;>by_cases h3:x<y<;>simp[h1,h2,h3]
theorem Jr(kv:KV):strKeys (toD kv)=kv.map (·.1):=by
 show(kv.map ent).map (fun p=>strOf p.1)=kv.map (·.1)
 rw[List.map_map]
 rfl
theorem OJ{kv:KV}(hr:rising kv){ss:List (List UInt8)}(h:ss.Perm (strKeys (toD kv))):ss.mergeSort (fun x y=>decide (x<=y))=kv.map (·.1):=by
 have e:=mergeSort_of_perm h
 rw[Jr]at e
 refine e.trans ?_
 refine List.mergeSort_of_pairwise ?_
 rw[List.pairwise_map]
 refine hr.imp ?_
 intro p q hpq
 rw[Dr]at hpq
 exact decide_eq_true (List.le_of_lt (of_decide_eq_true hpq))
theorem Vp(B:Nat)(w:World):Calls Tryz.prog 178 #[.map (some B)] w fun e w'=>e= .returned (.func (.func 211) #[] #[.pointer (some ⟨w.heap.size,0,none⟩)])/\w'=w.alloc (.cells #[.map (some B)] 115):=
 callsIn_wide.1 (Tryz.maps_Keys_178 (some B) w)
theorem Qx(B nn:Nat)(kv:KV)(w:World)(hm:CS w B nn kv)(hr:rising kv)(hlen:kv.length<=1000000):
 Calls Tryz.prog 177 #[.func (.func 211) #[] #[.pointer (some ⟨w.heap.size,0,none⟩)]] (w.alloc (.cells #[.map (some B)] 115))
  fun e w'=>(∃v,e= .returned v/\w'.ownsRow (w.heap.size+1) 9 1 v kv.length ((kv.map (·.1)).map encStr))/\Below (w.heap.size+1) (w.alloc (.cells #[.map (some B)] 115)) w':=by
 have h:=Tryz.slices_Sorted_keys_177_178 B nn (toD kv) (plainElem (H:=Unit) Tryz.prog 3) w hm (by rw[Il];unfold maxLen;omega) (by rw[Il];omega)
 refine(callsIn_wide.1 h).mono ?_
 rintro e w' ⟨v,ss,he,hp,hrow,hnil,hb⟩
 have hlen2:ss.length=kv.length:=by rw[hp.length_eq,Jr,lMp]
 rw[OJ hr hp,hlen2]at hrow
 simp only[World.size_alloc]at hrow hb
 exact⟨⟨v,he,hrow⟩,hb⟩
end Go.Proofs.YtdohnkkbkfhphaaGreat.ch
namespace Go.Proofs.YtdohnkkbkfhphaaGreat.ch
open Go.ChangeShapes Go.WideShapes Go.ChangeAt Go.RowKit Go.Maps Go.Sort Go.WideMaps
variable {w : World} {B nn : Nat}
theorem BV{w':World}{kv:KV}(h:CS w B nn kv)(hb:Bwz w w'):CS w' B nn kv:=by
 obtain⟨es,clock,h1,h2,h3,h4⟩:=h
 have hlt:B<w.heap.size:=by
  rcases Nat.lt_or_ge B w.heap.size with hlt|hge
  ·exact hlt
  ·rw[Array.getElem?_eq_none hge]at h1;cases h1
 exact⟨es,clock,by rw[hb.block B hlt];exact h1,h2,h3,h4⟩
theorem Dj{kv:KV}(h:CS w B nn kv)(o:Obj):CS (w.alloc o) B nn kv:=BV h (bR.alloc nR o)
theorem JF{kv:KV}(h:CS w B nn kv):B<w.heap.size:=by
 obtain⟨es,clock,h1,h2,h3,h4⟩:=h
 rcases Nat.lt_or_ge B w.heap.size with hlt|hge
 ·exact hlt
 ·rw[Array.getElem?_eq_none hge]at h1;cases h1
theorem EL:∀(a b:List UInt8),Op.bytesLess a b=decide (a<b)
 |[],[]=>by simp[Op.bytesLess]
 |_::_,[]=>by simp[Op.bytesLess]
 |[],_::_=>by simp[Op.bytesLess]
 |a::x,b::y=>by
  rw[Op.bytesLess,EL x y]
  simp only[List.cons_lt_cons_iff]
  by_cases h1:a<b<;>by_cases h2:a=b<;>by_cases h3:x<y<;>simp[h1,h2,h3]
end Go.Proofs.YtdohnkkbkfhphaaGreat.ch
