import Derived.Test.YtdohnkkbkfhphaaGreatPq12
set_option linter.all false
set_option maxHeartbeats 8000000
set_option maxRecDepth 100000
namespace Go.Proofs.YtdohnkkbkfhphaaGreat
open Go.Proofs.Tryz
namespace pl
open Go.ChangeShapes Go.WideShapes Go.ChangeAt Go.RowKit
open vl
variable {r : List Cel} {p : Pln} {side : Int}
def Qc(sb:Bool)(n m:Nat)(er:Int)(tb:Bool):Int:=if sb=false then 4 else if n≠m then 2 else if er≠0 then er else if tb=false then 5 else 0
theorem Qd(p:Pln)(x:PA)(side:Int)(ar:Option Addr)(cr:Nat)(r:List Cel)(w:World)(hw:wfPlan p)(hp:planAt w p x)(hr:vl.rowAt w ar r)(hwr:Co r)(hlr:r.length<=9223372036854775807):
 Calls Tryz.prog 106 #[As p x,.int .i64 side,.slice ar r.length cr] w fun e w'=>e= .returned (.int .i64 (AV p side r))/\Bwz w w':=by
 have K1:=hIz (fun(w1:World) (hb:Bwz w w1)=>D6 p x w1 hw (Ah hp hb))
 have K2:=hIz (fun(w1:World)=>IA p x side w1)
 have K3:=hIz (fun(w1:World) (hb:Bwz w w1)=>R9 ar (cA x side) cr (cC x side) r (A1 p side) w1 hlr (Ql hw side) (Ac hr hb) (At (W6 hp side) hb))
 have HE:Hid (AV p side r=if Ai p=0 then Qc (A0 side) r.length (A1 p side).length (E7 r) (Gz r (A1 p side))else Ai p):=rfl
 have hcl:=Ql hw side
 have HR:Hid (vl.rowAt w ar r):=hr
 obtain⟨pe,hpe⟩:=nM (Ai p)
 obtain⟨res,hres⟩:=nM (AV p side r)
 obtain⟨ca,hca⟩:=nM (cA x side)
 obtain⟨cc,hcc⟩:=nM (cC x side)
 obtain⟨ka,hka⟩:=nM (kA x side)
 obtain⟨kc,hkc⟩:=nM (kC x side)
 obtain⟨cn,hcn⟩:=nM ((A1 p side).length)
 obtain⟨kn,hkn⟩:=nM ((keysOf p side).length)
 obtain⟨tb,htb⟩:=nM (Gz r (A1 p side))
 rw[hpe]at K1 HE
 rw[hca,hcc,hcn]at K2
 rw[hca,hcc,hcn,htb]at K3
 rw[hres,hcn,htb]at HE
 rw[hcn]at hcl
 rw[hres]
 clear hpe hres hca hcc hka hkc hcn hkn htb hp hw hr
 obtain⟨n,hn⟩:=nM r.length
 have HN:Hid (r.length=n):=hn
 rw[hn]at K3 HE hlr⊢
 clear hn
 obtain⟨kind,mode,low,high,size,limit,left,right,lkeys,rkeys,grouped,group,aggs⟩:=p
 obtain⟨l,lc,rr,rc,lk,lkc,rk,rkc,g,gc,a,ac⟩:=x
 unfold As at K1 K2⊢
 dsimp only at K1 K2⊢
 obtain⟨n6,h6⟩:∃n,left.length=n:=⟨_,rfl⟩
 obtain⟨n7,h7⟩:∃n,right.length=n:=⟨_,rfl⟩
 obtain⟨n8,h8⟩:∃n,lkeys.length=n:=⟨_,rfl⟩
 obtain⟨n9,h9⟩:∃n,rkeys.length=n:=⟨_,rfl⟩
 obtain⟨n11,h11⟩:∃n,group.length=n:=⟨_,rfl⟩
 obtain⟨n12,h12⟩:∃n,aggs.length=n:=⟨_,rfl⟩
 rw[h6,h7,h8,h9,h11,h12]at K1 K2
 rw[h6,h7,h8,h9,h11,h12]
 clear h6 h7 h8 h9 h11 h12
 go_enter func106,ntmps106
 go_wp2_with fail
 refine(K1.out _ (bR.alloc nR _)).mono ?_
 rintro e w1 ⟨rfl,hb1⟩
 have hba:=(bR.alloc nR _).trans (hb1.mono (by simp))
 obtain⟨hc1,hf1⟩:=DI hb1
 by_cases h0:pe=0
 ·subst h0
  rw[if_pos rfl]at HE
  cases hsb:A0 side
  ·rw[hsb]at HE
   go_wp2_with (go_at_call 87;refine(Ck _ _).mono ?_;rintro e w' ⟨rfl,hw⟩;subst hw)
   go_ret
   exact⟨Ao (by rw[HE.out];rfl),hba⟩
  rw[hsb]at HE
  go_wp2_with fail
  refine(Ck _ _).mono ?_
  rintro e w' ⟨rfl,hw'⟩
  subst hw'
  rw[hsb]
  go_wp2_with fail
  refine(K2.out _).mono ?_
  rintro e w2 ⟨rfl,hb2⟩
  have hbb:=hba.trans (hb2.mono hba.size)
  clear hc1 hf1 K1 K2 hb1 hb2
  by_cases hnc:n=cn
  ·subst hnc
   have hnc':((n:Int) !=n)=false:=by simp
   go_wp2
   go_loopw [11,30] (fun _ i wr=> ∃j:Nat,j<=n/\i= .int .i64 j/\Bwz w wr/\∀i,i<j->(r.getD i default).ok) (fun _ i _=>n - (intOf i).toNat)
   case atStart=>exact⟨0,Nat.zero_le _,rfl,hbb,fun i hi=>absurd hi (Nat.not_lt_zero i)⟩
   case round=>
    obtain⟨j,hj,rfl,hnx,hall⟩:=hrel
    have HAL:Hid (∀i,i<j->(r.getD i default).ok):=hall
    have hsz:=hnx.size
    clear hall
    by_cases hlt:j<n
    ·obtain⟨b1,o1,e1,x1,x2,x3⟩:=HR.out j (by rw[HN.out];exact hlt)
     subst e1
     have q1:=cLz hnx x1
     have q2:=cLz hnx x2
     have q3:=cLz hnx x3
     have hww:=VO hwr j (by rw[HN.out];exact hlt)
     have HER:Hid (¬(r.getD j default).ok->E7 r=chk (r.getD j default).k (r.getD j default).n (r.getD j default).s):=Qm r j (by rw[HN.out];exact hlt) HAL.out
     have HOK:Hid ((r.getD j default).ok↔chk (r.getD j default).k (r.getD j default).n (r.getD j default).s=0):=Iff.rfl
     have HST:Hid ((r.getD j default).ok->∀i,i<j+1->(r.getD i default).ok):=fun h i hi=>by
      rcases Nat.lt_succ_iff_lt_or_eq.1 hi with h1|h1
      ·exact HAL.out i h1
      ·rw[h1];exact h
     obtain⟨OK,hOK⟩:=nM ((r.getD j default).ok)
     rw[hOK]at HER HOK HST
     obtain⟨⟨kv,nv,sv⟩,hcv⟩:∃z,r.getD j default=z:=⟨_,rfl⟩
     rw[hcv]at q1 q2 q3 hww HER HOK
     dsimp only at q1 q2 q3 hww HER HOK
     obtain⟨⟨w1a,w2a⟩,w3a⟩:=hww
     have i1:(0:Int)<=(j:Int):=by omega
     have i2:(j:Int)<(n:Int):=by omega
     clear hOK hcv x1 x2 x3
     by_cases hc:chk kv nv sv=0
     ·have hc':(chk kv nv sv !=0)=false:=by simpa using hc
      have HO:Hid OK:=HOK.out.2 hc
      clear hc
      go_wp2_with (go_at_call 156;refine(vl.Bk _ _ _ _ w3a).mono ?_;rintro e wc ⟨rfl,hbc⟩;have hlow:=(hnx.alloc hsz _).trans (hbc.mono (by simp;omega)))
      go_roundw
      case rel=>exact⟨j+1,by omega,by go_num,hlow,HST.out HO.out⟩
      case measure=>simp[intOf];omega
     ·have hc':(chk kv nv sv !=0)=true:=by simpa using hc
      have HX:Hid (res=chk kv nv sv):=by
       show res=_
       rw[HE.out,HER.out (fun h=>hc (HOK.out.1 h))]
       unfold Qc
       rw[if_neg (by decide),if_neg (by simp),if_pos hc]
      clear hc
      go_wp2_with (go_at_call 156;refine(vl.Bk _ _ _ _ w3a).mono ?_;rintro e wc ⟨rfl,hbc⟩;have hlow:=(hnx.alloc hsz _).trans (hbc.mono (by simp;omega)))
      go_ret
      exact⟨Ao HX.out.symm,hlow⟩
    ·have HX:Hid (res=if tb=false then 5 else 0):=by
      show res=_
      rw[HE.out,NF r j (by rw[HN.out];omega) HAL.out]
      unfold Qc
      rw[if_neg (by decide),if_neg (by simp),if_neg (by simp)]
     go_wp2_with fail
     refine(K3.out _ hnx).mono ?_
     rintro e w3 ⟨rfl,hb3⟩
     have hbc:=hnx.trans (hb3.mono hsz)
     cases tb
     all_goals
      go_wp2
      go_ret
      exact⟨Ao HX.out.symm,hbc⟩
  ·have hnc':((n:Int) !=cn)=true:=by simp;omega
   have HX:Hid (res=2):=by
    show res=2
    rw[HE.out]
    unfold Qc
    rw[if_neg (by decide),if_pos hnc]
   clear hnc
   go_wp2
   go_ret
   exact⟨Ao HX.out.symm,hbb⟩
 ·have h0':(pe !=0)=true:=by simpa using h0
  have HX:Hid (res=pe):=by show res=pe;rw[HE.out,if_neg h0]
  clear h0
  go_wp2
  go_ret
  exact⟨Ao HX.out.symm,hba⟩
def Cz(r:List Cel)(l:List Int):List Cel:=l.map fun i=>r.getD i.toNat default
theorem OV(l:List Int)(k:Nat)(h:k<l.length):l.take (k+1)=l.take k++[l.getD k 0]:=by
 rw[List.take_succ_eq_append_getElem h,FC h]
theorem Tr(a ad:Option Addr)(ca cp:Nat)(r:List Cel)(l:List Int)(w:World)(hlr:r.length<=9223372036854775807)(hll:l.length<=1000)(ha:vl.rowAt w a r)(hl:A4 w ad l)(hpl:∀x∈l,0<=x/\x<(r.length:Int)):
 Calls Tryz.prog 107 #[.slice a r.length ca,.slice ad l.length cp] w fun e w'=>(∃ad' c',e= .returned (.slice ad' (Cz r l).length c')/\AM w' w.heap.size (.slice ad' (Cz r l).length c') (Cz r l))/\Bwz w w':=by
 have HA:Hid (vl.rowAt w a r):=ha
 have HL:Hid (A4 w ad l):=hl
 have HP:Hid (∀i,i<l.length->0<=l.getD i 0/\l.getD i 0<(r.length:Int)):=fun i hi=>hpl _ (DT hi)
 obtain⟨m,hm⟩:=nM r.length
 obtain⟨n,hn⟩:=nM l.length
 have HM:Hid (r.length=m):=hm
 have HN:Hid (l.length=n):=hn
 rw[hm]at hlr HP⊢
 rw[hn]at hll HP⊢
 clear hm hn ha hl hpl
 obtain⟨i0,hi,hz0,hz1,hz2⟩:=info_parts Tryz.infoV
 obtain⟨w0,hmk,hown0,hgrow0⟩:=run_make_own (P:=Tryz.prog) w w.heap.size 41 103 i0 (.agg #[.int .i64 0,.int .i64 0,.string ⟨#[]⟩]) 3 underlying41 hi hz0 hz1 .i64 .i64 n (by rw[hz2];omega) (by unfold maxLen;omega) nR
 have hb0:Bwz w w0:=bR.grown hgrow0 nR (fun b hb=>by cases hb)
 have HO0:Hid (AM w0 w.heap.size (.slice (some ⟨w.heap.size,0,none⟩) 0 n) []):=hown0
 clear hi hz0 hz1 hz2 hown0 hgrow0
 have HPK:Hid (∀k,k<n->Cz r (l.take (k+1))=Cz r (l.take k)++[r.getD (l.getD k 0).toNat default]):=fun k hk=>by
  show Cz r (l.take (k+1))=_
  rw[OV l k (by rw[HN.out];exact hk)];simp[Cz]
 have HPE:Hid (∀k,n<=k->Cz r (l.take k)=Cz r l):=fun k hk=>by
  show Cz r (l.take k)=_
  rw[List.take_of_length_le (by rw[HN.out];exact hk)]
 have HPL:Hid (∀k,(Cz r (l.take k)).length<=n):=fun k=>by
  show(Cz r (l.take k)).length<=n
  have:(l.take k).length<=l.length:=by rw[List.length_take];omega
  unfold Cz;rw[lMp,<-HN.out];exact this
 obtain⟨pn,hpn⟩:=nM ((Cz r l).length)
 have HPN:Hid ((Cz r l).length=pn):=hpn
 rw[hpn]
 clear hpn
 go_enter func107,ntmps107
 go_wp2
 go_loopw [5,7,13] (fun v _ i wr=> ∃k:Nat,k<=n/\i= .int .i64 k/\AM wr w.heap.size v (Cz r (l.take k))/\Bwz w wr) (fun _ _ i _=>n - (intOf i).toNat)
 case atStart=>exact⟨0,Nat.zero_le _,rfl,HO0.out,hb0⟩
 case round=>
  obtain⟨k,hk,rfl,hov,hnx⟩:=hrel
  have HO:Hid (AM wr w.heap.size u5 (Cz r (l.take k))):=hov
  have hsz:=hnx.size
  clear hov hmk
  by_cases hlt:k<n
  ·obtain⟨b,o,e,xk⟩:=HL.out k (by rw[HN.out];exact hlt)
   subst e
   have hpk:=HP.out k hlt
   have HPKk:=HPK.out k hlt
   obtain⟨z,hz⟩:=nM (l.getD k 0)
   rw[hz]at xk hpk HPKk
   obtain⟨zn,rfl⟩:=Int.eq_ofNat_of_zero_le hpk.1
   rw[Int.toNat_natCast]at HPKk
   obtain⟨b1,o1,e1,x1,x2,x3⟩:=HA.out zn (by rw[HM.out];omega)
   subst e1
   have qk:=cLz hnx xk
   have q1:=cLz hnx x1
   have q2:=cLz hnx x2
   have q3:=cLz hnx x3
   obtain⟨⟨kv,nv,sv⟩,hcv⟩:∃z,r.getD zn default=z:=⟨_,rfl⟩
   rw[hcv]at q1 q2 q3 HPKk
   dsimp only at q1 q2 q3
   have HPK2:Hid (Cz r (l.take (k+1))=Cz r (l.take k)++[⟨kv,nv,sv⟩]):=HPKk
   have i1:(0:Int)<=(k:Int):=by omega
   have i2:(k:Int)<(n:Int):=by omega
   have i3:(0:Int)<=(zn:Int):=by omega
   have i4:(zn:Int)<(m:Int):=by omega
   have hpl:=HPL.out k
   obtain⟨pr,hpr⟩:=nM (Cz r (l.take k))
   rw[hpr]at HO HPK2 hpl
   clear xk x1 x2 x3 hz hcv HPKk hpk hpr
   go_wp2_with (at_builtin;refine I6 rfl (.tmp 17) (.tmp 22) rfl w.heap.size u5 pr rfl wr HO.out ⟨kv,nv,sv⟩ wr.heap.size rfl rfl (by omega) hsz ?_;intro v2 w3 hown3 hgrow3)
   obtain⟨ad2,c2,hv,_⟩:=C1 hown3
   have hbn:=Gd hnx hsz HO.out hgrow3
   subst hv
   go_roundw
   case rel=>exact⟨k+1,by omega,by go_num,by rw[HPK2.out];exact hown3,hbn⟩
   case measure=>simp[intOf];omega
  ·have HPEk:=HPE.out k (by omega)
   obtain⟨ad2,c2,hv,_⟩:=C1 HO.out
   rw[HPEk]at HO hv
   rw[HPN.out]at hv
   subst hv
   clear HPEk HPE HPK HPL
   go_wp2
   go_ret
   exact⟨⟨_,_,rfl,HO.out⟩,hnx⟩
def Hm(r:List Cel):Bool:=r.any fun c=>c.k==0
theorem Rp{i:Nat}(hi:i<r.length)(h:(r.getD i default).k=0):Hm r=true:=by
 unfold Hm
 rw[List.any_eq_true]
 exact⟨_,DT hi,by simpa using h⟩
theorem Ts(h:∀i,i<r.length->(r.getD i default).k≠0):Hm r=false:=by
 unfold Hm
 rw[List.any_eq_false]
 intro c hc
 have:=(Fp (d:=default) (Q:=fun c:Cel=>c.k≠0)).1 h c hc
 simpa using this
def Du(p:Pln)(side:Int)(r:List Cel):List Cel:=Cz r (keysOf p side)
def hasB(p:Pln)(side:Int)(r:List Cel):Bool:=decide (AV p side r=0)&& !Hm (Du p side r)
def Am(p:Pln)(side:Int)(r:List Cel):ByteArray:=⟨(if hasB p side r=true then encR (Du p side r)else []).toArray⟩
theorem C2(h:AV p side r=0):Ai p=0/\A0 side=true/\r.length=(A1 p side).length/\E7 r=0/\Gz r (A1 p side)=true:=by
 unfold AV at h
 by_cases h0:Ai p=0
 ·rw[if_pos h0]at h
  unfold Xa at h
  cases h1:A0 side with
  |false=>rw[h1]at h;cases h
  |true=>
   rw[h1,if_neg (by decide)]at h
   by_cases h2:r.length=(A1 p side).length
   ·rw[if_neg (by simp[h2])]at h
    by_cases h3:E7 r=0
    ·rw[if_neg (by simp[h3])]at h
     cases h4:Gz r (A1 p side)with
     |false=>rw[h4]at h;cases h
     |true=>exact⟨h0,rfl,h2,h3,rfl⟩
    ·rw[if_pos h3]at h;exact absurd h h3
   ·rw[if_pos h2]at h;cases h
 ·rw[if_neg h0]at h;exact absurd h h0
theorem keys_in(h:Ai p=0):(∀x∈keysOf p side,0<=x/\x<((A1 p side).length:Int))/\(keysOf p side).length<=4:=by
 obtain⟨_,_,hm,_,hf⟩:=BG h
 have hl:=F5 hm
 unfold keysOf A1
 split
 ·exact⟨hf.2.1.2.2.1.1,by omega⟩
 ·exact⟨hf.2.1.2.1.1,by omega⟩
theorem Qe{l:List Int}(hl:l.length<=8)(hp:∀x∈l,0<=x/\x<(r.length:Int))(he:E7 r=0)(hw:Co r):rowOk (Cz r l):=by
 refine⟨by unfold Cz;rw[lMp];exact hl,fun c hc=>?_⟩
 obtain⟨i,hi,rfl⟩:=List.mem_map.1 hc
 have:=hp i hi
 have hm:r.getD i.toNat default∈r:=DT (by omega)
 exact⟨Iw he _ hm,hw _ hm⟩
theorem Ip{s t:ByteArray}{a b:Bool}{x y:Int}(h1:s=t)(h2:a=b)(h3:x=y):Ending.returned (.tuple #[.string s,.bool a,.int .i64 x])= .returned (.tuple #[.string t,.bool b,.int .i64 y]):=by rw[h1,h2,h3]
theorem Iq(p:Pln)(x:PA)(side:Int)(ar:Option Addr)(cr:Nat)(r:List Cel)(w:World)(hw:wfPlan p)(hp:planAt w p x)(hr:vl.rowAt w ar r)(hwr:Co r)(hlr:r.length<=9223372036854775807):
 Calls Tryz.prog 56 #[As p x,.int .i64 side,.slice ar r.length cr] w fun e w'=>e= .returned (.tuple #[.string (Am p side r),.bool (hasB p side r),.int .i64 (AV p side r)])/\Bwz w w':=by
 have K1:=hIz (fun(w1:World) (hb:Bwz w w1)=>Qd p x side ar cr r w1 hw (Ah hp hb) (Ac hr hb) hwr hlr)
 have K2:=hIz (fun(w1:World)=>R8 p x side w1)
 have K3:Hid (∀w1,AV p side r=0->Bwz w w1->Calls Tryz.prog 107 #[.slice ar r.length cr,.slice (kA x side) (keysOf p side).length (kC x side)] w1 fun e w'=>(∃ad' c',e= .returned (.slice ad' (Du p side r).length c')/\AM w' w1.heap.size (.slice ad' (Du p side r).length c') (Du p side r))/\Bwz w1 w'):=fun w1 h0 hb=>by
  have h:=C2 h0
  have hk:=keys_in (side:=side) h.1
  exact Tr ar (kA x side) cr (kC x side) r (keysOf p side) w1 hlr (by omega) (Ac hr hb) (At (EU hp side) hb) (by rw[h.2.2.1];exact hk.1)
 have HOK:Hid (AV p side r=0->rowOk (Du p side r)):=fun h0=>by
  have h:=C2 h0
  have hk:=keys_in (side:=side) h.1
  exact Qe (by omega) (by rw[h.2.2.1];exact hk.1) h.2.2.2.1 hwr
 have HHAS:Hid (hasB p side r=(decide (AV p side r=0)&& !Hm (Du p side r))):=rfl
 have HKS:Hid (Am p side r=⟨(if hasB p side r=true then encR (Du p side r)else []).toArray⟩):=rfl
 obtain⟨re,hre⟩:=nM (AV p side r)
 obtain⟨kr,hkr⟩:=nM (Du p side r)
 obtain⟨hb,hhb⟩:=nM (hasB p side r)
 obtain⟨ks,hks⟩:=nM (Am p side r)
 obtain⟨ca,hca⟩:=nM (cA x side)
 obtain⟨cc,hcc⟩:=nM (cC x side)
 obtain⟨ka,hka⟩:=nM (kA x side)
 obtain⟨kc,hkc⟩:=nM (kC x side)
 obtain⟨cn,hcn⟩:=nM ((A1 p side).length)
 obtain⟨kn,hkn⟩:=nM ((keysOf p side).length)
 obtain⟨n,hn⟩:=nM r.length
 rw[hre,hn]at K1
 rw[hka,hkc,hkn]at K2
 rw[hre,hka,hkc,hkn,hkr,hn]at K3
 rw[hre,hkr]at HOK
 rw[hre,hkr,hhb]at HHAS
 rw[hhb,hkr,hks]at HKS
 rw[hks,hhb,hre,hn]
 clear hre hkr hhb hks hca hcc hka hkc hcn hkn hn hp hw hr hwr hlr
 obtain⟨q,hq⟩:=nM kr.length
 have HQ:Hid (kr.length=q):=hq
 rw[hq]at K3
 clear hq
 obtain⟨kind,mode,low,high,size,limit,left,right,lkeys,rkeys,grouped,group,aggs⟩:=p
 obtain⟨l,lc,rr,rc,lk,lkc,rk,rkc,g,gc,a,ac⟩:=x
 unfold As at K1 K2⊢
 dsimp only at K1 K2⊢
 obtain⟨n6,h6⟩:∃n,left.length=n:=⟨_,rfl⟩
 obtain⟨n7,h7⟩:∃n,right.length=n:=⟨_,rfl⟩
 obtain⟨n8,h8⟩:∃n,lkeys.length=n:=⟨_,rfl⟩
 obtain⟨n9,h9⟩:∃n,rkeys.length=n:=⟨_,rfl⟩
 obtain⟨n11,h11⟩:∃n,group.length=n:=⟨_,rfl⟩
 obtain⟨n12,h12⟩:∃n,aggs.length=n:=⟨_,rfl⟩
 rw[h6,h7,h8,h9,h11,h12]at K1 K2
 rw[h6,h7,h8,h9,h11,h12]
 clear h6 h7 h8 h9 h11 h12
 go_enter func56,ntmps56
 go_wp2_with fail
 refine(K1.out _ (bR.alloc nR _)).mono ?_
 rintro e w1 ⟨rfl,hb1⟩
 have hba:=(bR.alloc nR _).trans (hb1.mono (by simp))
 obtain⟨hc1,hf1⟩:=DI hb1
 by_cases h0:re=0
 ·subst h0
  have HKO:Hid (rowOk kr):=HOK.out rfl
  have HH:Hid (hb= !Hm kr):=HHAS.out
  clear HOK HHAS
  go_wp2_with fail
  refine(K2.out _).mono ?_
  rintro e w2 ⟨rfl,hb2⟩
  have hbb:=hba.trans (hb2.mono hba.size)
  go_wp2_with fail
  refine(K3.out _ (by trivial) hbb).mono ?_
  rintro e w3 ⟨⟨ad',c',rfl,hov⟩,hb3⟩
  have hbc:=hbb.trans (hb3.mono hbb.size)
  have HOV:Hid (vl.rowAt w3 ad' kr):=by
   have:=Fu (r:=kr) (cap:=c') (ad:=ad') (base:=w2.heap.size) (w:=w3) (by rw[HQ.out];exact hov)
   exact this
  clear hc1 hf1 K1 K2 K3 hb1 hb2 hb3 hov hba hbb
  have hq8:q<=8:=by have:=HKO.out.1;rw[HQ.out]at this;exact this
  go_wp2
  go_loopw [12,29] (fun _ i wr=> ∃j:Nat,j<=q/\i= .int .i64 j/\Bwz w3 wr/\∀i,i<j->(kr.getD i default).k≠0) (fun _ i _=>q - (intOf i).toNat)
  case atStart=>exact⟨0,Nat.zero_le _,rfl,bR,fun i hi=>absurd hi (Nat.not_lt_zero i)⟩
  case round=>
   obtain⟨j,hj,rfl,hnx,hall⟩:=hrel
   have HAL:Hid (∀i,i<j->(kr.getD i default).k≠0):=hall
   have hsz:=hnx.size
   have hbr:=hbc.trans (hnx.mono hbc.size)
   clear hall
   by_cases hlt:j<q
   ·obtain⟨b1,o1,e1,x1,x2,x3⟩:=HOV.out j (by rw[HQ.out];exact hlt)
    subst e1
    have q1:=cLz hnx x1
    have q2:=cLz hnx x2
    have q3:=cLz hnx x3
    have HNY:Hid ((kr.getD j default).k=0->Hm kr=true):=fun h=>Rp (by rw[HQ.out];exact hlt) h
    have HST:Hid ((kr.getD j default).k≠0->∀i,i<j+1->(kr.getD i default).k≠0):=fun h i hi=>by
     rcases Nat.lt_succ_iff_lt_or_eq.1 hi with h1|h1
     ·exact HAL.out i h1
     ·rw[h1];exact h
    obtain⟨⟨kv,nv,sv⟩,hcv⟩:∃z,kr.getD j default=z:=⟨_,rfl⟩
    rw[hcv]at q1 q2 q3 HNY HST
    dsimp only at q1 q2 q3 HNY HST
    have i1:(0:Int)<=(j:Int):=by omega
    have i2:(j:Int)<(q:Int):=by omega
    clear hcv x1 x2 x3
    by_cases hk:kv=0
    ·subst hk
     have HX:Hid (hb=false):=by show hb=false;rw[HH.out,HNY.out rfl];rfl
     have HY:Hid (ks=⟨#[]⟩):=by show ks=_;rw[HKS.out,HX.out];rfl
     go_wp2
     go_ret3
     exact⟨Ip HY.out.symm HX.out.symm rfl,hbr.alloc hbr.size _⟩
    ·have hk':(kv==0)=false:=by simpa using hk
     have HS2:=HST.out hk
     have HS3:Hid (∀i,i<j+1->(kr.getD i default).k≠0):=HS2
     clear hk HS2 HST HNY
     go_wp2
     go_roundw
     case rel=>exact⟨j+1,by omega,by go_num,hnx.alloc hsz _,HS3.out⟩
     case measure=>simp[intOf];omega
   ·have HNN:Hid (Hm kr=false):=Ts (fun i hi=>HAL.out i (by rw[HQ.out]at hi;omega))
    have HX:Hid (hb=true):=by show hb=true;rw[HH.out,HNN.out];rfl
    have HY:Hid (ks=⟨(encR kr).toArray⟩):=by show ks=_;rw[HKS.out,HX.out];rfl
    have KK:Hid (Calls Tryz.prog 109 #[.slice ad' q c'] wr fun e w'=>e= .returned (.tuple #[.string (Eb kr),.int .i64 0])/\Bwz wr w'):=by
     have:=vl.Wj ad' c' kr wr (Ac HOV.out hnx) HKO.out
     rwa[HQ.out]at this
    have HKY:Hid (Eb kr=ks):=by
     show Eb kr=ks
     rw[HY.out]
     apply str_eq
     rw[Hi HKO.out]
    go_wp2_with fail
    refine KK.out.mono ?_
    rintro e w4 ⟨rfl,hb4⟩
    go_wp2
    go_ret3
    exact⟨Ip HKY.out HX.out.symm rfl,hbr.trans (hb4.mono hbr.size)⟩
 ·have h0':(re !=0)=true:=by simpa using h0
  have HX:Hid (hb=false):=by show hb=false;rw[HHAS.out,decide_eq_false h0];rfl
  have HY:Hid (ks=⟨#[]⟩):=by show ks=_;rw[HKS.out,HX.out];rfl
  clear h0
  go_wp2
  go_ret3
  exact⟨Ip HY.out.symm HX.out.symm rfl,hba⟩
end pl
namespace jn
open Go.ChangeShapes Go.WideShapes Go.ChangeAt Go.RowKit
open vl
variable {U U' W W' w w' : World} {B b n o : Nat} {p : pl.Pln} {x : pl.PA}
structure Jn where
 L:bf.Buf
 R:bf.Buf
 lm:Int
 rm:Int
 seq:Int
structure JX where
 l:bf.BX
 r:bf.BX
def joinV(s:Jn)(x:JX):Value:=.agg #[.int .i64 s.L.lim,bf.hdV x.l.m.1,.slice x.l.ra x.l.rs.length x.l.rc,.int .i64 s.R.lim,bf.hdV x.r.m.1,.slice x.r.ra x.r.rs.length x.r.rc,.int .i64 s.lm,.int .i64 s.rm,.int .i64 s.seq]
structure joinAt(w:World)(s:Jn)(x:JX):Prop where
 l:bf.bufAt w s.L x.l
 r:bf.bufAt w s.R x.r
theorem joinAt.below{s:Jn}{x:JX}(h:joinAt w s x)(hb:Bwz w w'):joinAt w' s x:=⟨bf.Ak h.l hb,bf.Ak h.r hb⟩
structure wfB(b:bf.Buf):Prop where
 ents:∀y∈bf.Ab b,bf.wfE y/\bf.wfP (bf.AS y)
 size:(bf.Ab b).length<=4611686018427387904
structure wfJ(s:Jn):Prop where
 l:wfB s.L
 r:wfB s.R
 seq:pl.i64 s.seq
def Ae(s:Jn)(side:Int):bf.Buf:=if side=2 then s.R else s.L
def Bj(x:JX)(side:Int):bf.BX:=if side=2 then x.r else x.l
def markOf(s:Jn)(side:Int):Int:=if side=2 then s.rm else s.lm
theorem wfJ.of{s:Jn}(h:wfJ s)(side:Int):wfB (Ae s side):=by
 unfold Ae
 split
 ·exact h.r
 ·exact h.l
theorem joinAt.of{s:Jn}{x:JX}(h:joinAt w s x)(side:Int):bf.bufAt w (Ae s side) (Bj x side):=by
 unfold Ae Bj
 split
 ·exact h.r
 ·exact h.l
structure Ev where
 kind:Int
 side:Int
 time:Int
 row:List Cel
def evV(v:Ev)(ra:Option Addr)(rc:Nat):Value:=.agg #[.int .i64 v.kind,.int .i64 v.side,.int .i64 v.time,.slice ra v.row.length rc]
structure evAt(w:World)(v:Ev)(ra:Option Addr):Prop where
 row:vl.rowAt w ra v.row
 wf:Co v.row
 len:v.row.length<=9223372036854775807
theorem evAt.below{v:Ev}{ra:Option Addr}(h:evAt w v ra)(hb:Bwz w w'):evAt w' v ra:=⟨vl.Ac h.row hb,h.wf,h.len⟩
def noMark:Int:= -1099511627777
def Cb(m:Int):Bool:=decide (m=noMark)||tm.AP m
def D5(s:Jn):Bool:=Cb s.lm&&Cb s.rm&&bf.Br s.seq 0 1099511627776
def DF(n:Int)(l:List bf.Ent):Prop:=(∀y∈l,y.seq<n)/\(l.map (·.seq)).Nodup
instance(n:Int)(l:List bf.Ent):Decidable (DF n l):=by unfold DF;infer_instance
def JD(s:Jn):Bool:=decide (DF s.seq (bf.Ab s.L++bf.Ab s.R))
def F2(p:pl.Pln)(side:Int)(y:bf.Ent):Bool:=decide (pl.AV p side y.row=0)&&pl.hasB p side y.row&&decide (pl.Am p side y.row=y.key)
def I7(p:pl.Pln)(side:Int)(b:bf.Buf):Bool:=(bf.Ab b).all (F2 p side)
def F3(p:pl.Pln)(s:Jn):Bool:=decide (s.L.lim=p.limit)&&decide (s.R.lim=p.limit)&&JD s&&I7 p 1 s.L&&I7 p 2 s.R
noncomputable def B7(p:pl.Pln)(s:Jn):Int:=
 if pl.Ai p≠0 then pl.Ai p else if bf.Ez s.L≠0 then bf.Ez s.L else if bf.Ez s.R≠0 then bf.Ez s.R else if D5 s=false then 3 else if F3 p s=false then 1 else 0
def Az(p:pl.Pln)(s:Jn)(v:Ev):Int:=
 if¬(v.kind=1\/v.kind=2)\/pl.A0 v.side=false then 4 else if tm.AP v.time=false then 3
 else if v.kind=2 then(if 0<v.row.length then 1 else if v.time<markOf s v.side then 8 else 0)
 else if pl.AV p v.side v.row≠0 then pl.AV p v.side v.row else if v.time<=markOf s v.side then 7 else if s.seq=1099511627776\/(bf.Ab (Ae s v.side)).length=4096 then 2 else 0
def BB(U:World)(b:Nat)(p:pl.Pln)(x:pl.PA):Prop:=U.cell? ⟨b,0,none⟩=some (.int .i64 p.kind)/\U.cell? ⟨b,1,none⟩=some (.int .i64 p.mode)/\U.cell? ⟨b,2,none⟩=some (.int .i64 p.low)/\U.cell? ⟨b,3,none⟩=some (.int .i64 p.high)/\U.cell? ⟨b,4,none⟩=some (.int .i64 p.size)/\U.cell? ⟨b,5,none⟩=some (.int .i64 p.limit)/\U.cell? ⟨b,6,none⟩=some (.slice x.l p.left.length x.lc)/\U.cell? ⟨b,7,none⟩=some (.slice x.r p.right.length x.rc)/\U.cell? ⟨b,8,none⟩=some (.slice x.lk p.lkeys.length x.lkc)/\U.cell? ⟨b,9,none⟩=some (.slice x.rk p.rkeys.length x.rkc)/\U.cell? ⟨b,10,none⟩=some (.bool p.grouped)/\U.cell? ⟨b,11,none⟩=some (.slice x.g p.group.length x.gc)/\U.cell? ⟨b,12,none⟩=some (.slice x.a p.aggs.length x.ac)
theorem CH(w:World)(p:pl.Pln)(x:pl.PA)(t:TypeId):BB (w.alloc (.cells #[.int .i64 p.kind,.int .i64 p.mode,.int .i64 p.low,.int .i64 p.high,.int .i64 p.size,.int .i64 p.limit,.slice x.l p.left.length x.lc,.slice x.r p.right.length x.rc,.slice x.lk p.lkeys.length x.lkc,.slice x.rk p.rkeys.length x.rkc,.bool p.grouped,.slice x.g p.group.length x.gc,.slice x.a p.aggs.length x.ac] t)) w.heap.size p x:=by
 unfold BB
 refine⟨?_,?_,?_,?_,?_,?_,?_,?_,?_,?_,?_,?_,?_⟩<;>go_simp
theorem Al(h:BB U b p x)(hb:Bwz U U'):BB U' b p x:=by
 obtain⟨v0,v1,v2,v3,v4,v5,v6,v7,v8,v9,v10,v11,v12⟩:=h
 exact⟨cLz hb v0,cLz hb v1,cLz hb v2,cLz hb v3,cLz hb v4,cLz hb v5,cLz hb v6,cLz hb v7,cLz hb v8,cLz hb v9,cLz hb v10,cLz hb v11,cLz hb v12⟩
theorem Mf(h:BB U b p x):b<U.heap.size:=bLt _ _ h.1
def BT(U:World)(b:Nat)(s:Jn)(y:JX):Prop:=U.cell? ⟨b,0,none⟩=some (.int .i64 s.L.lim)/\U.cell? ⟨b,1,none⟩=some (.slice y.l.m.1.1 y.l.m.1.2.1 y.l.m.1.2.2)/\U.cell? ⟨b,2,none⟩=some (.slice y.l.ra y.l.rs.length y.l.rc)/\U.cell? ⟨b,3,none⟩=some (.int .i64 s.R.lim)/\U.cell? ⟨b,4,none⟩=some (.slice y.r.m.1.1 y.r.m.1.2.1 y.r.m.1.2.2)/\U.cell? ⟨b,5,none⟩=some (.slice y.r.ra y.r.rs.length y.r.rc)/\U.cell? ⟨b,6,none⟩=some (.int .i64 s.lm)/\U.cell? ⟨b,7,none⟩=some (.int .i64 s.rm)/\U.cell? ⟨b,8,none⟩=some (.int .i64 s.seq)
theorem BI(w:World)(s:Jn)(y:JX)(t:TypeId):BT (w.alloc (.cells #[.int .i64 s.L.lim,.slice y.l.m.1.1 y.l.m.1.2.1 y.l.m.1.2.2,.slice y.l.ra y.l.rs.length y.l.rc,.int .i64 s.R.lim,.slice y.r.m.1.1 y.r.m.1.2.1 y.r.m.1.2.2,.slice y.r.ra y.r.rs.length y.r.rc,.int .i64 s.lm,.int .i64 s.rm,.int .i64 s.seq] t)) w.heap.size s y:=by
 unfold BT
 refine⟨?_,?_,?_,?_,?_,?_,?_,?_,?_⟩<;>go_simp
theorem Aw{s:Jn}{y:JX}(h:BT U b s y)(hb:Bwz U U'):BT U' b s y:=by
 obtain⟨v0,v1,v2,v3,v4,v5,v6,v7,v8⟩:=h
 exact⟨cLz hb v0,cLz hb v1,cLz hb v2,cLz hb v3,cLz hb v4,cLz hb v5,cLz hb v6,cLz hb v7,cLz hb v8⟩
theorem Qf{s:Jn}{y:JX}(h:BT U b s y):b<U.heap.size:=bLt _ _ h.1
def noJ(W:World)(B:Nat):Prop:=W.there B 0 9
theorem Fc(w:World):noJ (w.alloc (.cells #[.int .i64 0,.slice none 0 0,.slice none 0 0,.int .i64 0,.slice none 0 0,.slice none 0 0,.int .i64 0,.int .i64 0,.int .i64 0] 31)) w.heap.size:=by
 intro j hj
 match j,hj with
 |0,_=>exact⟨by go_simp,by go_simp⟩
 |1,_=>exact⟨by go_simp,by go_simp⟩
 |2,_=>exact⟨by go_simp,by go_simp⟩
 |3,_=>exact⟨by go_simp,by go_simp⟩
 |4,_=>exact⟨by go_simp,by go_simp⟩
 |5,_=>exact⟨by go_simp,by go_simp⟩
 |6,_=>exact⟨by go_simp,by go_simp⟩
 |7,_=>exact⟨by go_simp,by go_simp⟩
 |8,_=>exact⟨by go_simp,by go_simp⟩
theorem Tt(h:W.there B o n)(hn:0<n):B<W.heap.size:=by
 obtain⟨u,hu⟩:=Option.isSome_iff_exists.1 (h 0 hn).1
 exact bLt _ _ hu
theorem BA(h:W.there B o n)(hb:Bwz W W'):W'.there B o n:=fun j hj=>by
 obtain⟨u,hu⟩:=Option.isSome_iff_exists.1 (h j hj).1
 exact⟨by rw[cLz hb hu];rfl,(hb.frozen (p:=⟨B,o+j,none⟩) (bLt _ _ hu)).trans (h j hj).2⟩
theorem AX(h:noJ W B)(hb:Bwz W W'):noJ W' B:=BA h hb
theorem OW(h:noJ W B):B<W.heap.size:=Tt h (by decide)
theorem below_setCells{k B:Nat}{w:World}(hB:k<=B):∀(l:List Value) (o:Nat) (W:World),Below k w W->Below k w (W.setCells B o l)
 |[],_,_,h=>h
 |v::l,o,W,h=>below_setCells hB l (o+1) _ (h.setCell hB v)
theorem EN:(Tryz.prog.info? 31).map (·.size)=some 9:=by kernel_rfl
theorem C3(h:noJ W B){l:List Value}(hl:l.length=9):(W.setCells B 0 l).rangeAt B 0 l:=World.rangeAt_setCells_same W B 0 l (by rw[hl];exact h)
def jx0:JX:=⟨⟨none,0,((none,0,0),[]),[]⟩,⟨none,0,((none,0,0),[]),[]⟩⟩
def j0:Jn:=⟨⟨0,[],[]⟩,⟨0,[],[]⟩,0,0,0⟩
theorem AK(s:Jn)(y:JX):joinV s y= .agg #[.int .i64 s.L.lim,.slice y.l.m.1.1 y.l.m.1.2.1 y.l.m.1.2.2,.slice y.l.ra y.l.rs.length y.l.rc,.int .i64 s.R.lim,.slice y.r.m.1.1 y.r.m.1.2.1 y.r.m.1.2.2,.slice y.r.ra y.r.rs.length y.r.rc,.int .i64 s.lm,.int .i64 s.rm,.int .i64 s.seq]:=rfl
end jn
namespace jn
open Go.ChangeShapes Go.WideShapes Go.ChangeAt Go.RowKit
open vl
attribute [local go_sem] Oper.semAt_some
variable {U : World} {b : Nat}
def Bp(side:Int):Nat:=if side=2 then 7 else 6
def Ap(side:Int):Nat:=if side=2 then 3 else 0
theorem JF(b:Nat)(side:Int)(w:World):Calls Tryz.prog 143 #[.pointer (some ⟨b,0,none⟩),.int .i64 side] w fun e w'=>e= .returned (.pointer (some ⟨b,Bp side,none⟩))/\w'=w:=by
 unfold Bp
 by_cases h:side=2
 ·subst h
  go_enter func143,ntmps143
  go_wp2
  go_ret
  exact⟨rfl,rfl⟩
 ·have h1:(side==2)=false:=by simpa using h
  rw[if_neg h]
  go_enter func143,ntmps143
  go_wp2
  go_ret
  exact⟨rfl,rfl⟩
theorem Mg(b:Nat)(side:Int)(w:World):Calls Tryz.prog 144 #[.pointer (some ⟨b,0,none⟩),.int .i64 side] w fun e w'=>e= .returned (.pointer (some ⟨b,Ap side,none⟩))/\w'=w:=by
 unfold Ap
 by_cases h:side=2
 ·subst h
  go_enter func144,ntmps144
  go_wp2
  go_ret
  exact⟨rfl,rfl⟩
 ·have h1:(side==2)=false:=by simpa using h
  rw[if_neg h]
  go_enter func144,ntmps144
  go_wp2
  go_ret
  exact⟨rfl,rfl⟩
theorem Lu{s:Jn}{y:JX}(h:BT U b s y)(side:Int):U.cell? ⟨b,Bp side,none⟩=some (.int .i64 (markOf s side)):=by
 obtain⟨u0,u1,u2,u3,u4,u5,u6,u7,u8⟩:=h
 unfold Bp markOf
 split
 ·exact u7
 ·exact u6
def FR(s:Jn)(v:Ev):Int:=if 0<v.row.length then 1 else if v.time<markOf s v.side then 8 else 0
theorem Ku(s:Jn)(y:JX)(v:Ev)(ra:Option Addr)(rc:Nat)(w:World):
 Calls Tryz.prog 89 #[joinV s y,evV v ra rc] w fun e w'=>e= .returned (.int .i64 (FR s v))/\Bwz w w':=by
 obtain⟨R,hR⟩:=nM (FR s v)
 have HR:Hid (FR s v=R):=hR
 rw[hR]
 clear hR
 unfold FR at HR
 have KM:Hid (∀w1,Calls Tryz.prog 143 #[.pointer (some ⟨w.heap.size,0,none⟩),.int .i64 v.side] w1 fun e w'=>e= .returned (.pointer (some ⟨w.heap.size,Bp v.side,none⟩))/\w'=w1):=fun w1=>JF _ _ w1
 have HM:Hid (∀(U:World) (b:Nat),BT U b s y->U.cell? ⟨b,Bp v.side,none⟩=some (.int .i64 (markOf s v.side))):=fun U b h=>Lu h v.side
 obtain⟨k,hk⟩:=nM (Bp v.side)
 obtain⟨M,hM⟩:=nM (markOf s v.side)
 rw[hk]at KM HM
 rw[hM]at HM HR
 clear hk hM
 rw[AK]
 unfold evV
 obtain⟨kd,sd,tm,row⟩:=v
 dsimp only at *
 obtain⟨n,hn⟩:=nM row.length
 rw[hn]at HR⊢
 clear hn
 have HB:Hid (Bwz w ((w.alloc (.cells #[.int .i64 s.L.lim,.slice y.l.m.1.1 y.l.m.1.2.1 y.l.m.1.2.2,.slice y.l.ra y.l.rs.length y.l.rc,.int .i64 s.R.lim,.slice y.r.m.1.1 y.r.m.1.2.1 y.r.m.1.2.2,.slice y.r.ra y.r.rs.length y.r.rc,.int .i64 s.lm,.int .i64 s.rm,.int .i64 s.seq] 31)).alloc (.cells #[.int .i64 kd,.int .i64 sd,.int .i64 tm,.slice ra n rc] 43))):=(bR.alloc nR _).alloc (by simp) _
 have HC:=HM.out _ _ (Aw (BI w s y 31) (bR.alloc nR (.cells #[.int .i64 kd,.int .i64 sd,.int .i64 tm,.slice ra n rc] 43)))
 clear HM
 go_enter func89,ntmps89
 by_cases h0:0<n
 ·have h0':(0:Int)<(n:Int):=by omega
  have HE:Hid ((1:Int)=R):=by show _=_;rw[<-HR.out,if_pos h0]
  go_wp2
  go_ret
  exact⟨Ao HE.out,HB.out⟩
 ·have h0':¬(0:Int)<(n:Int):=by omega
  rw[if_neg h0]at HR
  by_cases h1:tm<M
  ·have HE:Hid ((8:Int)=R):=by show _=_;rw[<-HR.out,if_pos h1]
   go_wp2
   generalize hV:(World.alloc (World.alloc w _) _)=V at HC HB⊢
   have q1:V.cell? ⟨w.heap.size+1,1,none⟩=some (.int .i64 sd):=by subst hV;go_simp
   have q2:V.cell? ⟨w.heap.size+1,2,none⟩=some (.int .i64 tm):=by subst hV;go_simp
   clear hV
   go_region_held3 (fun w'=>w'.cell? ⟨w.heap.size+1,1,none⟩=some (.int .i64 sd)/\w'.cell? ⟨w.heap.size+1,2,none⟩=some (.int .i64 tm)/\w'.cell? ⟨w.heap.size,k,none⟩=some (.int .i64 M)) (first|go_keep|exact⟨q1,q2,HC⟩) (first|(go_at_call 143;refine(KM.out _).mono ?_;rintro e w2 ⟨rfl,rfl⟩))
   all_goals
    go_wp2
    go_ret
    exact⟨Ao HE.out,by first|exact HB.out|exact HB.out.drew⟩
  ·have HE:Hid ((0:Int)=R):=by show _=_;rw[<-HR.out,if_neg h1]
   go_wp2
   generalize hV:(World.alloc (World.alloc w _) _)=V at HC HB⊢
   have q1:V.cell? ⟨w.heap.size+1,1,none⟩=some (.int .i64 sd):=by subst hV;go_simp
   have q2:V.cell? ⟨w.heap.size+1,2,none⟩=some (.int .i64 tm):=by subst hV;go_simp
   clear hV
   go_region_held3 (fun w'=>w'.cell? ⟨w.heap.size+1,1,none⟩=some (.int .i64 sd)/\w'.cell? ⟨w.heap.size+1,2,none⟩=some (.int .i64 tm)/\w'.cell? ⟨w.heap.size,k,none⟩=some (.int .i64 M)) (first|go_keep|exact⟨q1,q2,HC⟩) (first|(go_at_call 143;refine(KM.out _).mono ?_;rintro e w2 ⟨rfl,rfl⟩))
   all_goals
    go_wp2
    go_ret
    exact⟨Ao HE.out,by first|exact HB.out|exact HB.out.drew⟩
theorem Mh{s:Jn}{y:JX}(h:BT U b s y)(side:Int):U.cell? ⟨b,Ap side,none⟩=some (.int .i64 (Ae s side).lim)/\U.cell? ⟨b,Ap side+1,none⟩=some (.slice (Bj y side).m.1.1 (Bj y side).m.1.2.1 (Bj y side).m.1.2.2)/\U.cell? ⟨b,Ap side+2,none⟩=some (.slice (Bj y side).ra (Bj y side).rs.length (Bj y side).rc):=by
 obtain⟨u0,u1,u2,u3,u4,u5,u6,u7,u8⟩:=h
 unfold Ap Ae Bj
 split
 ·exact⟨u3,u4,u5⟩
 ·exact⟨u0,u1,u2⟩
def EO(p:pl.Pln)(s:Jn)(v:Ev):Int:=if pl.AV p v.side v.row≠0 then pl.AV p v.side v.row else if v.time<=markOf s v.side then 7 else if s.seq=1099511627776\/(bf.Ab (Ae s v.side)).length=4096 then 2 else 0
theorem Mi(p:pl.Pln)(x:pl.PA)(s:Jn)(y:JX)(v:Ev)(ra:Option Addr)(rc:Nat)(w:World)(hw:pl.wfPlan p)(hp:pl.planAt w p x)(h:joinAt w s y)(hwf:wfJ s)(hv:evAt w v ra):
 Calls Tryz.prog 90 #[pl.As p x,joinV s y,evV v ra rc] w fun e w'=>e= .returned (.int .i64 (EO p s v))/\Bwz w w':=by
 have KR:=hIz (fun(w1:World) (hb:Bwz w w1)=>pl.Qd p x v.side ra rc v.row w1 hw (pl.Ah hp hb) (vl.Ac hv.row hb) hv.wf hv.len)
 have KM:Hid (∀w1,Calls Tryz.prog 143 #[.pointer (some ⟨w.heap.size+1,0,none⟩),.int .i64 v.side] w1 fun e w'=>e= .returned (.pointer (some ⟨w.heap.size+1,Bp v.side,none⟩))/\w'=w1):=fun w1=>JF _ _ w1
 have KB:Hid (∀w1,Calls Tryz.prog 144 #[.pointer (some ⟨w.heap.size+1,0,none⟩),.int .i64 v.side] w1 fun e w'=>e= .returned (.pointer (some ⟨w.heap.size+1,Ap v.side,none⟩))/\w'=w1):=fun w1=>Mg _ _ w1
 have KZ:Hid (∀w1,Bwz w w1->Calls Tryz.prog 135 #[bf.AQ (Ae s v.side) (Bj y v.side)] w1 fun e w'=>e= .returned (.int .i64 ((bf.Ab (Ae s v.side)).length:Nat))/\Bwz w1 w'):=fun w1 hb=>bf.JA _ _ w1 (bf.Ak (h.of v.side) hb) (hwf.of v.side).size
 have HM:Hid (∀(U:World) (b:Nat),BT U b s y->U.cell? ⟨b,Bp v.side,none⟩=some (.int .i64 (markOf s v.side))):=fun U b h=>Lu h v.side
 have HBC:Hid (∀(U:World) (b:Nat),BT U b s y->U.cell? ⟨b,Ap v.side,none⟩=some (.int .i64 (Ae s v.side).lim)/\U.cell? ⟨b,Ap v.side+1,none⟩=some (.slice (Bj y v.side).m.1.1 (Bj y v.side).m.1.2.1 (Bj y v.side).m.1.2.2)/\U.cell? ⟨b,Ap v.side+2,none⟩=some (.slice (Bj y v.side).ra (Bj y v.side).rs.length (Bj y v.side).rc)):=fun U b h=>Mh h v.side
 obtain⟨R,hR⟩:=nM (EO p s v)
 have HR:Hid (EO p s v=R):=hR
 rw[hR]
 clear hR hw hp h hwf hv
 unfold EO at HR
 obtain⟨k,hk⟩:=nM (Bp v.side)
 obtain⟨M,hM⟩:=nM (markOf s v.side)
 obtain⟨kb,hkb⟩:=nM (Ap v.side)
 obtain⟨E,hE⟩:=nM (pl.AV p v.side v.row)
 obtain⟨q,hq⟩:=nM ((bf.Ab (Ae s v.side)).length)
 obtain⟨bb,hbb⟩:=nM (Ae s v.side)
 obtain⟨bx,hbx⟩:=nM (Bj y v.side)
 rw[hk]at KM HM
 rw[hM]at HM HR
 rw[hkb]at KB HBC
 rw[hE]at KR HR
 rw[hq]at KZ HR
 rw[hbb,hbx]at KZ HBC
 clear hk hM hkb hE hq hbb hbx
 unfold pl.As at KR⊢
 unfold bf.AQ bf.hdV at KZ
 rw[AK]
 unfold evV
 obtain⟨kd,sd,tm,row⟩:=v
 dsimp only at *
 obtain⟨n,hn⟩:=nM row.length
 rw[hn]at KR⊢
 clear hn
 obtain⟨bl,bm,br⟩:=bb
 obtain⟨xa,xc,⟨⟨x1,x2,x3⟩,xl⟩,xs⟩:=bx
 dsimp only at *
 obtain⟨xn,hxn⟩:=nM xs.length
 rw[hxn]at KZ HBC
 clear hxn
 go_enter func90,ntmps90
 go_wp2_with fail
 generalize hV:(World.alloc (World.alloc (World.alloc w _) _) _)=V
 have hb0:Bwz w V:=by rw[<-hV];exact((bR.alloc nR _).alloc (by simp) _).alloc (by simp;omega) _
 have HJ:Hid (BT V (w.heap.size+1) s y):=by
  subst hV
  have:=BI (w.alloc (.cells #[.int .i64 p.kind,.int .i64 p.mode,.int .i64 p.low,.int .i64 p.high,.int .i64 p.size,.int .i64 p.limit,.slice x.l p.left.length x.lc,.slice x.r p.right.length x.rc,.slice x.lk p.lkeys.length x.lkc,.slice x.rk p.rkeys.length x.rkc,.bool p.grouped,.slice x.g p.group.length x.gc,.slice x.a p.aggs.length x.ac] 25)) s y 31
  rw[World.size_alloc]at this
  exact Aw this (bR.alloc nR _)
 have q1:V.cell? ⟨w.heap.size+1+1,1,none⟩=some (.int .i64 sd):=by subst hV;go_simp
 have q2:V.cell? ⟨w.heap.size+1+1,2,none⟩=some (.int .i64 tm):=by subst hV;go_simp
 clear hV
 refine(KR.out _ hb0).mono ?_
 rintro e w1 ⟨rfl,hb1⟩
 have hbw:Bwz w w1:=hb0.trans (hb1.mono hb0.size)
 replace HJ:Hid (BT w1 (w.heap.size+1) s y):=Aw HJ.out hb1
 replace q1:=cLz hb1 q1
 replace q2:=cLz hb1 q2
 clear hb1 hb0 KR
 by_cases k1:E=0
 rotate_left
 ·have k1':(E !=0)=true:=by simpa using k1
  have HE:Hid (E=R):=by show _=_;rw[<-HR.out,if_pos k1]
  go_wp2
  go_ret
  exact⟨Ao HE.out,hbw⟩
 subst k1
 rw[if_neg (by decide)]at HR
 have HC:=HM.out _ _ HJ.out
 have HQ:=HBC.out _ _ HJ.out
 have u8:=HJ.out.2.2.2.2.2.2.2.2
 obtain⟨g0,g1,g2⟩:=HQ
 clear HM HBC
 by_cases h1:tm<=M
 ·have HE:Hid ((7:Int)=R):=by show _=_;rw[<-HR.out,if_pos h1]
  go_wp2
  go_region_held3 (fun w'=>w'.cell? ⟨w.heap.size+1+1,1,none⟩=some (.int .i64 sd)/\w'.cell? ⟨w.heap.size+1+1,2,none⟩=some (.int .i64 tm)/\w'.cell? ⟨w.heap.size+1,k,none⟩=some (.int .i64 M)) (first|go_keep|exact⟨q1,q2,HC⟩) (first|(go_at_call 143;refine(KM.out _).mono ?_;rintro e w2 ⟨rfl,rfl⟩))
  all_goals
   go_wp2
   go_ret
   exact⟨Ao HE.out,by first|exact hbw|exact hbw.drew⟩
 ·rw[if_neg h1]at HR
  by_cases h2:s.seq=1099511627776
  ·have h2':(s.seq==1099511627776)=true:=by simpa using h2
   have HE:Hid ((2:Int)=R):=by show _=_;rw[<-HR.out,if_pos (.inl h2)]
   go_wp2
   go_region_held3 (fun w'=>w'.cell? ⟨w.heap.size+1+1,1,none⟩=some (.int .i64 sd)/\w'.cell? ⟨w.heap.size+1+1,2,none⟩=some (.int .i64 tm)/\w'.cell? ⟨w.heap.size+1,k,none⟩=some (.int .i64 M)) (first|go_keep|exact⟨q1,q2,HC⟩) (first|(go_at_call 143;refine(KM.out _).mono ?_;rintro e w2 ⟨rfl,rfl⟩))
   all_goals
    go_wp2
    go_ret
    exact⟨Ao HE.out,by first|exact hbw|exact hbw.drew⟩
  ·have h2':(s.seq==1099511627776)=false:=by simpa using h2
   by_cases h3:q=4096
   ·subst h3
    have HE:Hid ((2:Int)=R):=by show _=_;rw[<-HR.out,if_pos (.inr rfl)]
    go_wp2
    go_region_held3 (fun w'=>w'.cell? ⟨w.heap.size+1+1,1,none⟩=some (.int .i64 sd)/\w'.cell? ⟨w.heap.size+1+1,2,none⟩=some (.int .i64 tm)/\w'.cell? ⟨w.heap.size+1,k,none⟩=some (.int .i64 M)) (first|go_keep|exact⟨q1,q2,HC⟩) (first|(go_at_call 143;refine(KM.out _).mono ?_;rintro e w2 ⟨rfl,rfl⟩))
    all_goals
     go_wp2_with (first
      |(go_at_call 144;refine(KB.out _).mono ?_;rintro e w3 ⟨rfl,rfl⟩)
      |(go_at_call 135;refine(KZ.out _ (by first|exact hbw|exact hbw.drew)).mono ?_;rintro e w4 ⟨rfl,hb4⟩))
     go_ret
     exact⟨Ao HE.out,by first|exact hbw.trans (hb4.mono hbw.size)|exact hbw.drew.trans (hb4.mono hbw.size)⟩
   ·have h3':((q:Int)==4096)=false:=by rw[beq_eq_false_iff_ne];omega
    have HE:Hid ((0:Int)=R):=by show _=_;rw[<-HR.out,if_neg (fun k=>k.elim h2 h3)]
    go_wp2
    go_region_held3 (fun w'=>w'.cell? ⟨w.heap.size+1+1,1,none⟩=some (.int .i64 sd)/\w'.cell? ⟨w.heap.size+1+1,2,none⟩=some (.int .i64 tm)/\w'.cell? ⟨w.heap.size+1,k,none⟩=some (.int .i64 M)) (first|go_keep|exact⟨q1,q2,HC⟩) (first|(go_at_call 143;refine(KM.out _).mono ?_;rintro e w2 ⟨rfl,rfl⟩))
    all_goals
     go_wp2_with (first
      |(go_at_call 144;refine(KB.out _).mono ?_;rintro e w3 ⟨rfl,rfl⟩)
      |(go_at_call 135;refine(KZ.out _ (by first|exact hbw|exact hbw.drew)).mono ?_;rintro e w4 ⟨rfl,hb4⟩))
     go_ret
     exact⟨Ao HE.out,by first|exact hbw.trans (hb4.mono hbw.size)|exact hbw.drew.trans (hb4.mono hbw.size)⟩
end jn
end Go.Proofs.YtdohnkkbkfhphaaGreat
