import Derived.Test.YtdohnkkbkfhphaaGreatPc16
import Derived.Shelf.SlSortCmp.NoneTotal
set_option linter.all false
set_option maxHeartbeats 4000000
set_option maxRecDepth 100000
namespace Go.Proofs.YtdohnkkbkfhphaaGreat.pl
open Go.Proofs.Tryz
open Go.ChangeShapes Go.WideShapes Go.ChangeAt Go.RowKit
open vl
variable {r : List Cel} {p : Pln} {side : Int}
def Bd(r:List Cel)(l:List Int):List Cel:=l.map fun i=>r.getD i.toNat default
theorem L0(l:List Int)(k:Nat)(h:k<l.length):l.take (k+1)=l.take k++[l.getD k 0]:=by
 rw[List.take_succ_eq_append_getElem h,DE h]
theorem VU(a ad:Option Addr)(ca cp:Nat)(r:List Cel)(l:List Int)(w:World)(hlr:r.length<=9223372036854775807)(hll:l.length<=1000)(ha:vl.rowAt w a r)(hl:A2 w ad l)(hpl:∀x∈l,0<=x/\x<(r.length:Int)):
 Calls Tryz.prog 107 #[.slice a r.length ca,.slice ad l.length cp] w fun e w'=>(∃ad' c',e= .returned (.slice ad' (Bd r l).length c')/\AA w' w.heap.size (.slice ad' (Bd r l).length c') (Bd r l))/\Bwz w w':=by
 have HA:Hid (vl.rowAt w a r):=ha
 have HL:Hid (A2 w ad l):=hl
 have HP:Hid (∀i,i<l.length->0<=l.getD i 0/\l.getD i 0<(r.length:Int)):=fun i hi=>hpl _ (C3 hi)
 obtain⟨m,hm⟩:=nM r.length
 obtain⟨n,hn⟩:=nM l.length
 have HM:Hid (r.length=m):=hm
 have HN:Hid (l.length=n):=hn
 rw[hm]at hlr HP⊢
 rw[hn]at hll HP⊢
 clear hm hn ha hl hpl
 obtain⟨i0,hi,hz0,hz1,hz2⟩:=info_parts Tryz.infoV
 obtain⟨w0,hmk,hown0,hgrow0⟩:=run_make_own (P:=Tryz.prog) w w.heap.size 41 103 i0 (.agg #[.int .i64 0,.int .i64 0,.string ⟨#[]⟩]) 3 underlying41 hi hz0 hz1 .i64 .i64 n (by rw[hz2];omega) (by unfold maxLen;omega) nR
 have hb0:Bwz w w0:=bR.grown hgrow0 nR (fun b hb=>by cases hb)
 have HO0:Hid (AA w0 w.heap.size (.slice (some ⟨w.heap.size,0,none⟩) 0 n) []):=hown0
 clear hi hz0 hz1 hz2 hown0 hgrow0
 have HPK:Hid (∀k,k<n->Bd r (l.take (k+1))=Bd r (l.take k)++[r.getD (l.getD k 0).toNat default]):=fun k hk=>by
  show Bd r (l.take (k+1))=_
  rw[L0 l k (by rw[HN.out];exact hk)];simp[Bd]
 have HPE:Hid (∀k,n<=k->Bd r (l.take k)=Bd r l):=fun k hk=>by
  show Bd r (l.take k)=_
  rw[List.take_of_length_le (by rw[HN.out];exact hk)]
 have HPL:Hid (∀k,(Bd r (l.take k)).length<=n):=fun k=>by
  show(Bd r (l.take k)).length<=n
  have:(l.take k).length<=l.length:=by rw[List.length_take];omega
  unfold Bd;rw[lMp,<-HN.out];exact this
 obtain⟨pn,hpn⟩:=nM ((Bd r l).length)
 have HPN:Hid ((Bd r l).length=pn):=hpn
 rw[hpn]
 clear hpn
 go_enter func107,ntmps107
 go_wp2
 go_loopw [5,7,13] (fun v _ i wr=> ∃k:Nat,k<=n/\i= .int .i64 k/\AA wr w.heap.size v (Bd r (l.take k))/\Bwz w wr) (fun _ _ i _=>n - (intOf i).toNat)
 case atStart=>exact⟨0,Nat.zero_le _,rfl,HO0.out,hb0⟩
 case round=>
  obtain⟨k,hk,rfl,hov,hnx⟩:=hrel
  have HO:Hid (AA wr w.heap.size u5 (Bd r (l.take k))):=hov
  have hsz:=hnx.size
  clear hov hmk
  by_cases hlt:k<n
  ·obtain⟨b,o,e,xk⟩:=HL.out k (by rw[HN.out];exact hlt)
   subst e
   have hpk:=HP.out k hlt
   have HPKk:=HPK.out k hlt
   obtain⟨z,hz⟩:=nM (l.getD k 0)
   rw[hz]at xk hpk HPKk
   obtain⟨zn,rfl⟩:=Int.eq_ofNat_of_zero_le hpk.1
   rw[Int.toNat_natCast]at HPKk
   obtain⟨b1,o1,e1,x1,x2,x3⟩:=HA.out zn (by rw[HM.out];omega)
   subst e1
   have qk:=cLz hnx xk
   have q1:=cLz hnx x1
   have q2:=cLz hnx x2
   have q3:=cLz hnx x3
   obtain⟨⟨kv,nv,sv⟩,hcv⟩:∃z,r.getD zn default=z:=⟨_,rfl⟩
   rw[hcv]at q1 q2 q3 HPKk
   dsimp only at q1 q2 q3
   have HPK2:Hid (Bd r (l.take (k+1))=Bd r (l.take k)++[⟨kv,nv,sv⟩]):=HPKk
   have i1:(0:Int)<=(k:Int):=by omega
   have i2:(k:Int)<(n:Int):=by omega
   have i3:(0:Int)<=(zn:Int):=by omega
   have i4:(zn:Int)<(m:Int):=by omega
   have hpl:=HPL.out k
   obtain⟨pr,hpr⟩:=nM (Bd r (l.take k))
   rw[hpr]at HO HPK2 hpl
   clear xk x1 x2 x3 hz hcv HPKk hpk hpr
   go_wp2_with (at_builtin;refine Dq rfl (.tmp 17) (.tmp 22) rfl w.heap.size u5 pr rfl wr HO.out ⟨kv,nv,sv⟩ wr.heap.size rfl rfl (by omega) hsz ?_;intro v2 w3 hown3 hgrow3)
   obtain⟨ad2,c2,hv,_⟩:=BU hown3
   have hbn:=C6 hnx hsz HO.out hgrow3
   subst hv
   go_roundw
   case rel=>exact⟨k+1,by omega,by go_num,by rw[HPK2.out];exact hown3,hbn⟩
   case measure=>simp[intOf];omega
  ·have HPEk:=HPE.out k (by omega)
   obtain⟨ad2,c2,hv,_⟩:=BU HO.out
   rw[HPEk]at HO hv
   rw[HPN.out]at hv
   subst hv
   clear HPEk HPE HPK HPL
   go_wp2
   go_ret
   exact⟨⟨_,_,rfl,HO.out⟩,hnx⟩
def E5(r:List Cel):Bool:=r.any fun c=>c.k==0
theorem MF{i:Nat}(hi:i<r.length)(h:(r.getD i default).k=0):E5 r=true:=by
 unfold E5
 rw[List.any_eq_true]
 exact⟨_,C3 hi,by simpa using h⟩
theorem Pp(h:∀i,i<r.length->(r.getD i default).k≠0):E5 r=false:=by
 unfold E5
 rw[List.any_eq_false]
 intro c hc
 have:=(D6 (d:=default) (Q:=fun c:Cel=>c.k≠0)).1 h c hc
 simpa using this
def B9(p:Pln)(side:Int)(r:List Cel):List Cel:=Bd r (keysOf p side)
def hasB(p:Pln)(side:Int)(r:List Cel):Bool:=decide (AB p side r=0)&& !E5 (B9 p side r)
def Aq(p:Pln)(side:Int)(r:List Cel):ByteArray:=⟨(if hasB p side r=true then encR (B9 p side r)else []).toArray⟩
theorem C7(h:AB p side r=0):Al p=0/\Be side=true/\r.length=(Aw p side).length/\DN r=0/\DU r (Aw p side)=true:=by
 unfold AB at h
 by_cases h0:Al p=0
 ·rw[if_pos h0]at h
  unfold Rj at h
  cases h1:Be side with
  |false=>rw[h1]at h;cases h
  |true=>
   rw[h1,if_neg (by decide)]at h
   by_cases h2:r.length=(Aw p side).length
   ·rw[if_neg (by simp[h2])]at h
    by_cases h3:DN r=0
    ·rw[if_neg (by simp[h3])]at h
     cases h4:DU r (Aw p side)with
     |false=>rw[h4]at h;cases h
     |true=>exact⟨h0,rfl,h2,h3,rfl⟩
    ·rw[if_pos h3]at h;exact absurd h h3
   ·rw[if_pos h2]at h;cases h
 ·rw[if_neg h0]at h;exact absurd h h0
theorem keys_in(h:Al p=0):(∀x∈keysOf p side,0<=x/\x<((Aw p side).length:Int))/\(keysOf p side).length<=4:=by
 obtain⟨_,_,hm,_,hf⟩:=BW h
 have hl:=CX hm
 unfold keysOf Aw
 split
 ·exact⟨hf.2.1.2.2.1.1,by omega⟩
 ·exact⟨hf.2.1.2.1.1,by omega⟩
theorem NC{l:List Int}(hl:l.length<=8)(hp:∀x∈l,0<=x/\x<(r.length:Int))(he:DN r=0)(hw:BE r):rowOk (Bd r l):=by
 refine⟨by unfold Bd;rw[lMp];exact hl,fun c hc=>?_⟩
 obtain⟨i,hi,rfl⟩:=List.mem_map.1 hc
 have:=hp i hi
 have hm:r.getD i.toNat default∈r:=C3 (by omega)
 exact⟨IM he _ hm,hw _ hm⟩
theorem Jb{s t:ByteArray}{a b:Bool}{x y:Int}(h1:s=t)(h2:a=b)(h3:x=y):Ending.returned (.tuple #[.string s,.bool a,.int .i64 x])= .returned (.tuple #[.string t,.bool b,.int .i64 y]):=by rw[h1,h2,h3]
theorem MG(p:Pln)(x:PA)(side:Int)(ar:Option Addr)(cr:Nat)(r:List Cel)(w:World)(hw:wfPlan p)(hp:planAt w p x)(hr:vl.rowAt w ar r)(hwr:BE r)(hlr:r.length<=9223372036854775807):
 Calls Tryz.prog 56 #[Ap p x,.int .i64 side,.slice ar r.length cr] w fun e w'=>e= .returned (.tuple #[.string (Aq p side r),.bool (hasB p side r),.int .i64 (AB p side r)])/\Bwz w w':=by
 have K1:=hIz (fun(w1:World) (hb:Bwz w w1)=>Sf p x side ar cr r w1 hw (Af hp hb) (Ac hr hb) hwr hlr)
 have K2:=hIz (fun(w1:World)=>Uc p x side w1)
 have K3:Hid (∀w1,AB p side r=0->Bwz w w1->CTz 107 #[.slice ar r.length cr,.slice (kA x side) (keysOf p side).length (kC x side)] w1 fun e w'=>(∃ad' c',e= .returned (.slice ad' (B9 p side r).length c')/\AA w' w1.heap.size (.slice ad' (B9 p side r).length c') (B9 p side r))/\Bwz w1 w'):=fun w1 h0 hb=>by
  have h:=C7 h0
  have hk:=keys_in (side:=side) h.1
  exact VU ar (kA x side) cr (kC x side) r (keysOf p side) w1 hlr (by omega) (Ac hr hb) (As (EW hp side) hb) (by rw[h.2.2.1];exact hk.1)
 have HOK:Hid (AB p side r=0->rowOk (B9 p side r)):=fun h0=>by
  have h:=C7 h0
  have hk:=keys_in (side:=side) h.1
  exact NC (by omega) (by rw[h.2.2.1];exact hk.1) h.2.2.2.1 hwr
 have HHAS:Hid (hasB p side r=(decide (AB p side r=0)&& !E5 (B9 p side r))):=rfl
 have HKS:Hid (Aq p side r=⟨(if hasB p side r=true then encR (B9 p side r)else []).toArray⟩):=rfl
 obtain⟨re,hre⟩:=nM (AB p side r)
 obtain⟨kr,hkr⟩:=nM (B9 p side r)
 obtain⟨hb,hhb⟩:=nM (hasB p side r)
 obtain⟨ks,hks⟩:=nM (Aq p side r)
 obtain⟨ca,hca⟩:=nM (cA x side)
 obtain⟨cc,hcc⟩:=nM (cC x side)
 obtain⟨ka,hka⟩:=nM (kA x side)
 obtain⟨kc,hkc⟩:=nM (kC x side)
 obtain⟨cn,hcn⟩:=nM ((Aw p side).length)
 obtain⟨kn,hkn⟩:=nM ((keysOf p side).length)
 obtain⟨n,hn⟩:=nM r.length
 rw[hre,hn]at K1
 rw[hka,hkc,hkn]at K2
 rw[hre,hka,hkc,hkn,hkr,hn]at K3
 rw[hre,hkr]at HOK
 rw[hre,hkr,hhb]at HHAS
 rw[hhb,hkr,hks]at HKS
 rw[hks,hhb,hre,hn]
 clear hre hkr hhb hks hca hcc hka hkc hcn hkn hn hp hw hr hwr hlr
 obtain⟨q,hq⟩:=nM kr.length
 have HQ:Hid (kr.length=q):=hq
 rw[hq]at K3
 clear hq
 obtain⟨kind,mode,low,high,size,limit,left,right,lkeys,rkeys,grouped,group,aggs⟩:=p
 obtain⟨l,lc,rr,rc,lk,lkc,rk,rkc,g,gc,a,ac⟩:=x
 unfold Ap at K1 K2⊢
 dsimp only at K1 K2⊢
 obtain⟨n6,h6⟩:∃n,left.length=n:=⟨_,rfl⟩
 obtain⟨n7,h7⟩:∃n,right.length=n:=⟨_,rfl⟩
 obtain⟨n8,h8⟩:∃n,lkeys.length=n:=⟨_,rfl⟩
 obtain⟨n9,h9⟩:∃n,rkeys.length=n:=⟨_,rfl⟩
 obtain⟨n11,h11⟩:∃n,group.length=n:=⟨_,rfl⟩
 obtain⟨n12,h12⟩:∃n,aggs.length=n:=⟨_,rfl⟩
 rw[h6,h7,h8,h9,h11,h12]at K1 K2
 rw[h6,h7,h8,h9,h11,h12]
 clear h6 h7 h8 h9 h11 h12
 go_enter func56,ntmps56
 go_wp2_with fail
 refine(K1.out _ (bR.alloc nR _)).mono ?_
 rintro e w1 ⟨rfl,hb1⟩
 have hba:=(bR.alloc nR _).trans (hb1.mono (by simp))
 obtain⟨hc1,hf1⟩:=C2 hb1
 by_cases h0:re=0
 ·subst h0
  have HKO:Hid (rowOk kr):=HOK.out rfl
  have HH:Hid (hb= !E5 kr):=HHAS.out
  clear HOK HHAS
  go_wp2_with fail
  refine(K2.out _).mono ?_
  rintro e w2 ⟨rfl,hb2⟩
  have hbb:=hba.trans (hb2.mono hba.size)
  go_wp2_with fail
  refine(K3.out _ (by trivial) hbb).mono ?_
  rintro e w3 ⟨⟨ad',c',rfl,hov⟩,hb3⟩
  have hbc:=hbb.trans (hb3.mono hbb.size)
  have HOV:Hid (vl.rowAt w3 ad' kr):=by
   have:=D7 (r:=kr) (cap:=c') (ad:=ad') (base:=w2.heap.size) (w:=w3) (by rw[HQ.out];exact hov)
   exact this
  clear hc1 hf1 K1 K2 K3 hb1 hb2 hb3 hov hba hbb
  have hq8:q<=8:=by have:=HKO.out.1;rw[HQ.out]at this;exact this
  go_wp2
  go_loopw [12,29] (fun _ i wr=> ∃j:Nat,j<=q/\i= .int .i64 j/\Bwz w3 wr/\∀i,i<j->(kr.getD i default).k≠0) (fun _ i _=>q - (intOf i).toNat)
  case atStart=>exact⟨0,Nat.zero_le _,rfl,bR,fun i hi=>absurd hi (Nat.not_lt_zero i)⟩
  case round=>
   obtain⟨j,hj,rfl,hnx,hall⟩:=hrel
   have HAL:Hid (∀i,i<j->(kr.getD i default).k≠0):=hall
   have hsz:=hnx.size
   have hbr:=hbc.trans (hnx.mono hbc.size)
   clear hall
   by_cases hlt:j<q
   ·obtain⟨b1,o1,e1,x1,x2,x3⟩:=HOV.out j (by rw[HQ.out];exact hlt)
    subst e1
    have q1:=cLz hnx x1
    have q2:=cLz hnx x2
    have q3:=cLz hnx x3
    have HNY:Hid ((kr.getD j default).k=0->E5 kr=true):=fun h=>MF (by rw[HQ.out];exact hlt) h
    have HST:Hid ((kr.getD j default).k≠0->∀i,i<j+1->(kr.getD i default).k≠0):=fun h i hi=>by
     rcases Nat.lt_succ_iff_lt_or_eq.1 hi with h1|h1
     ·exact HAL.out i h1
     ·rw[h1];exact h
    obtain⟨⟨kv,nv,sv⟩,hcv⟩:∃z,kr.getD j default=z:=⟨_,rfl⟩
    rw[hcv]at q1 q2 q3 HNY HST
    dsimp only at q1 q2 q3 HNY HST
    have i1:(0:Int)<=(j:Int):=by omega
    have i2:(j:Int)<(q:Int):=by omega
    clear hcv x1 x2 x3
    by_cases hk:kv=0
    ·subst hk
     have HX:Hid (hb=false):=by show hb=false;rw[HH.out,HNY.out rfl];rfl
     have HY:Hid (ks=⟨#[]⟩):=by show ks=_;rw[HKS.out,HX.out];rfl
     go_wp2
     go_ret3
     exact⟨Jb HY.out.symm HX.out.symm rfl,hbr.alloc hbr.size _⟩
    ·have hk':(kv==0)=false:=by simpa using hk
     have HS2:=HST.out hk
     have HS3:Hid (∀i,i<j+1->(kr.getD i default).k≠0):=HS2
     clear hk HS2 HST HNY
     go_wp2
     go_roundw
     case rel=>exact⟨j+1,by omega,by go_num,hnx.alloc hsz _,HS3.out⟩
     case measure=>simp[intOf];omega
   ·have HNN:Hid (E5 kr=false):=Pp (fun i hi=>HAL.out i (by rw[HQ.out]at hi;omega))
    have HX:Hid (hb=true):=by show hb=true;rw[HH.out,HNN.out];rfl
    have HY:Hid (ks=⟨(encR kr).toArray⟩):=by show ks=_;rw[HKS.out,HX.out];rfl
    have KK:Hid (CTz 109 #[.slice ad' q c'] wr fun e w'=>e= .returned (.tuple #[.string (E9 kr),.int .i64 0])/\Bwz wr w'):=by
     have:=vl.Y9 ad' c' kr wr (Ac HOV.out hnx) HKO.out
     rwa[HQ.out]at this
    have HKY:Hid (E9 kr=ks):=by
     show E9 kr=ks
     rw[HY.out]
     apply str_eq
     rw[Ii HKO.out]
    go_wp2_with fail
    refine KK.out.mono ?_
    rintro e w4 ⟨rfl,hb4⟩
    go_wp2
    go_ret3
    exact⟨Jb HKY.out HX.out.symm rfl,hbr.trans (hb4.mono hbr.size)⟩
 ·have h0':(re !=0)=true:=by simpa using h0
  have HX:Hid (hb=false):=by show hb=false;rw[HHAS.out,decide_eq_false h0];rfl
  have HY:Hid (ks=⟨#[]⟩):=by show ks=_;rw[HKS.out,HX.out];rfl
  clear h0
  go_wp2
  go_ret3
  exact⟨Jb HY.out.symm HX.out.symm rfl,hba⟩
end Go.Proofs.YtdohnkkbkfhphaaGreat.pl
namespace Go.Proofs.YtdohnkkbkfhphaaGreat.jn
open Go.ChangeShapes Go.WideShapes Go.ChangeAt Go.RowKit
open vl
variable {w w' : World}
structure Jn where
 L:bf.Buf
 R:bf.Buf
 lm:Int
 rm:Int
 seq:Int
structure JX where
 l:bf.BX
 r:bf.BX
def joinV(s:Jn)(x:JX):Value:=.agg #[.int .i64 s.L.lim,bf.hdV x.l.m.1,.slice x.l.ra x.l.rs.length x.l.rc,.int .i64 s.R.lim,bf.hdV x.r.m.1,.slice x.r.ra x.r.rs.length x.r.rc,.int .i64 s.lm,.int .i64 s.rm,.int .i64 s.seq]
structure joinAt(w:World)(s:Jn)(x:JX):Prop where
 l:bf.bufAt w s.L x.l
 r:bf.bufAt w s.R x.r
theorem joinAt.below{s:Jn}{x:JX}(h:joinAt w s x)(hb:Bwz w w'):joinAt w' s x:=⟨bf.Ai h.l hb,bf.Ai h.r hb⟩
structure wfB(b:bf.Buf):Prop where
 ents:∀y∈bf.Ab b,bf.wfE y/\bf.wfP (bf.Ay y)
 size:(bf.Ab b).length<=4611686018427387904
structure wfJ(s:Jn):Prop where
 l:wfB s.L
 r:wfB s.R
 seq:pl.i64 s.seq
def Am(s:Jn)(side:Int):bf.Buf:=if side=2 then s.R else s.L
def Bv(x:JX)(side:Int):bf.BX:=if side=2 then x.r else x.l
def B6(s:Jn)(side:Int):Int:=if side=2 then s.rm else s.lm
theorem wfJ.of{s:Jn}(h:wfJ s)(side:Int):wfB (Am s side):=by
 unfold Am
 split
 ·exact h.r
 ·exact h.l
theorem joinAt.of{s:Jn}{x:JX}(h:joinAt w s x)(side:Int):bf.bufAt w (Am s side) (Bv x side):=by
 unfold Am Bv
 split
 ·exact h.r
 ·exact h.l
structure Ev where
 kind:Int
 side:Int
 time:Int
 row:List Cel
def evV(v:Ev)(ra:Option Addr)(rc:Nat):Value:=.agg #[.int .i64 v.kind,.int .i64 v.side,.int .i64 v.time,.slice ra v.row.length rc]
structure evAt(w:World)(v:Ev)(ra:Option Addr):Prop where
 row:vl.rowAt w ra v.row
 wf:BE v.row
 len:v.row.length<=9223372036854775807
theorem evAt.below{v:Ev}{ra:Option Addr}(h:evAt w v ra)(hb:Bwz w w'):evAt w' v ra:=⟨vl.Ac h.row hb,h.wf,h.len⟩
def noMark:Int:= -1099511627777
def CH(m:Int):Bool:=decide (m=noMark)||tm.Bb m
def De(s:Jn):Bool:=CH s.lm&&CH s.rm&&bf.Az s.seq 0 1099511627776
def DR(n:Int)(l:List bf.Ent):Prop:=(∀y∈l,y.seq<n)/\(l.map (·.seq)).Nodup
instance(n:Int)(l:List bf.Ent):Decidable (DR n l):=by unfold DR;infer_instance
def GJ(s:Jn):Bool:=decide (DR s.seq (bf.Ab s.L++bf.Ab s.R))
def DF(p:pl.Pln)(side:Int)(y:bf.Ent):Bool:=decide (pl.AB p side y.row=0)&&pl.hasB p side y.row&&decide (pl.Aq p side y.row=y.key)
def F9(p:pl.Pln)(side:Int)(b:bf.Buf):Bool:=(bf.Ab b).all (DF p side)
def Bx(p:pl.Pln)(s:Jn):Bool:=decide (s.L.lim=p.limit)&&decide (s.R.lim=p.limit)&&GJ s&&F9 p 1 s.L&&F9 p 2 s.R
noncomputable def BB(p:pl.Pln)(s:Jn):Int:=
 if pl.Al p≠0 then pl.Al p else if bf.C4 s.L≠0 then bf.C4 s.L else if bf.C4 s.R≠0 then bf.C4 s.R else if De s=false then 3 else if Bx p s=false then 1 else 0
def A7(p:pl.Pln)(s:Jn)(v:Ev):Int:=
 if¬(v.kind=1\/v.kind=2)\/pl.Be v.side=false then 4 else if tm.Bb v.time=false then 3
 else if v.kind=2 then(if 0<v.row.length then 1 else if v.time<B6 s v.side then 8 else 0)
 else if pl.AB p v.side v.row≠0 then pl.AB p v.side v.row else if v.time<=B6 s v.side then 7 else if s.seq=1099511627776\/(bf.Ab (Am s v.side)).length=4096 then 2 else 0
end Go.Proofs.YtdohnkkbkfhphaaGreat.jn
namespace Go.Proofs.YtdohnkkbkfhphaaGreat.bf
open Go.ChangeShapes Go.WideShapes Go.ChangeAt Go.RowKit
open vl
attribute [local go_sem] Oper.semAt_some
end Go.Proofs.YtdohnkkbkfhphaaGreat.bf
namespace Go.Proofs.YtdohnkkbkfhphaaGreat.bf
open Go.ChangeShapes Go.WideShapes Go.ChangeAt Go.RowKit Go.Sort
open vl
variable {w w' : World}
def J4(w w':World):Prop:=∃q os,w'=grow (w.drewN q) os
theorem J4.refl(w:World):J4 w w:=⟨0,#[],by simp[World.drewN]⟩
theorem J4.drew(h:J4 w w'):J4 w w'.drew:=by
 obtain⟨q,os,rfl⟩:=h
 exact⟨q+1,os,rfl⟩
theorem J4.alloc(h:J4 w w')(o:Obj):J4 w (w'.alloc o):=by
 obtain⟨q,os,rfl⟩:=h
 exact⟨q,os.push o,by simp[grow,World.alloc]⟩
attribute [local go_sem ↓] Go.wp_at_zero Go.wp_at_succ
theorem ND(e f:EM)(w:World):
 Calls Tryz.prog 116 #[e.val,f.val] w fun r w'=>r= .returned (.int .i64 (DG e.ent f.ent))/\J4 w w':=by
 have HC:Hid (AF [Lib.compareBytes e.key.data.toList f.key.data.toList,Cs e.time f.time,Cs e.seq f.seq]=DG e.ent f.ent):=Hh e.ent f.ent
 obtain⟨k1,t1,s1,⟨a1,b1,c1⟩,m1⟩:=e
 obtain⟨k2,t2,s2,⟨a2,b2,c2⟩,m2⟩:=f
 rw[<-HC.out]
 clear HC
 unfold EM.val hdV
 dsimp only
 go_enter Tryz.func116,Tryz.ntmps116
 go_wp2
 go_region_held3 (fun w'=>w'.cell? ⟨w.heap.size,0,none⟩=some (.string k1)/\w'.cell? ⟨w.heap.size,1,none⟩=some (.int .i64 t1)/\w'.cell? ⟨w.heap.size,2,none⟩=some (.int .i64 s1)/\w'.cell? ⟨w.heap.size+1,0,none⟩=some (.string k2)/\w'.cell? ⟨w.heap.size+1,1,none⟩=some (.int .i64 t2)/\w'.cell? ⟨w.heap.size+1,2,none⟩=some (.int .i64 s2)) (go_keep)
  (first
   |(go_at_call 166;refine(Hf _ _ _).mono ?_;rintro e w' ⟨rfl,rfl⟩)
   |(go_at_call 165;refine(He _ _ _).mono ?_;rintro e w' ⟨rfl,rfl⟩)
   |(go_at_call 164;refine(or3 _ (Lib.compareBytes k1.data.toList k2.data.toList) (Cs t1 t2) (Cs s1 s2) _ ?_ ?_ ?_).mono ?_;(go_simp);(go_simp);(go_simp);rintro e w' ⟨rfl,rfl⟩))
 all_goals
  go_wp2
  go_ret
  refine⟨rfl,?_⟩
  repeat (first|exact J4.refl _|apply J4.drew|(refine J4.alloc ?_ _))
theorem YL(a b:EM):(decide (DG a.ent b.ent<0))=decide (ltP a.ent b.ent):=decide_eq_decide.2 Fm
theorem TD{α β:Type}(f:α->β):∀{m n:List β},m.Perm n->∀l:List α,n=l.map f->∃l':List α,l'.Perm l/\m=l'.map f:=by
 intro m n h
 induction h with
 |nil=>intro l hl;exact⟨l,List.Perm.refl _,hl⟩
 |cons x _ ih=>
  intro l hl
  cases l with
  |nil=>cases hl
  |cons a l=>
   rw[List.map_cons]at hl
   injection hl with h1 h2
   obtain⟨l',hp,e⟩:=ih l h2
   exact⟨a::l',hp.cons a,by rw[List.map_cons,<-h1,e]⟩
 |swap x y _=>
  intro l hl
  match l,hl with
  |a::b::l,hl=>
   rw[List.map_cons,List.map_cons]at hl
   injection hl with h1 h2
   injection h2 with h2 h3
   exact⟨b::a::l,List.Perm.swap ..,by rw[List.map_cons,List.map_cons,<-h1,<-h2,<-h3]⟩
 |trans _ _ ih1 ih2=>
  intro l hl
  obtain⟨l1,p1,e1⟩:=ih2 l hl
  obtain⟨l2,p2,e2⟩:=ih1 l1 e1
  exact⟨l2,p2.trans p1,e2⟩
end Go.Proofs.YtdohnkkbkfhphaaGreat.bf
namespace Go.Proofs.YtdohnkkbkfhphaaGreat.bf
open Go.ChangeShapes Go.WideShapes Go.ChangeAt Go.RowKit Go.Sort Go.Shelf
open vl
variable {w : World} {base cap g n : Nat} {es : List EM} {d : Array EM}
def Iu(e:EM):List Value:=[.string e.key,.int .i64 e.time,.int .i64 e.seq,hdV e.row,.bool e.met]
theorem VV(e:EM):(Iu e).length=5:=rfl
theorem VW(e:EM):∀v∈Iu e,v.oneCell'=true:=by
 intro v hv
 unfold Iu hdV at hv
 simp at hv
 rcases hv with rfl|rfl|rfl|rfl|rfl<;>rfl
theorem NE(l:List EM)(t:Nat)(h:t<l.length * 5):(An l)[t]? =some ((Iu (l.getD (t/5) default))[t % 5]!):=by
 obtain⟨h0,h1,h2,h3,h4⟩:=FZ l (t/5) (by omega)
 have hm:t % 5=0\/t % 5=1\/t % 5=2\/t % 5=3\/t % 5=4:=by omega
 rcases hm with e|e|e|e|e
 ·have ht:t=t/5 * 5:=by omega
  rw[e];rw[<-ht]at h0;exact h0
 ·have ht:t=t/5 * 5+1:=by omega
  rw[e];rw[<-ht]at h1;exact h1
 ·have ht:t=t/5 * 5+2:=by omega
  rw[e];rw[<-ht]at h2;exact h2
 ·have ht:t=t/5 * 5+3:=by omega
  rw[e];rw[<-ht]at h3;exact h3
 ·have ht:t=t/5 * 5+4:=by omega
  rw[e];rw[<-ht]at h4;exact h4
theorem FU(l:List EM)(i:Nat)(h:i<l.length):l.toArray[i]! =l.getD i default:=by
 rw[getElem!_pos l.toArray i (by simpa using h),gDe,gEe h];rfl
theorem flat_get(l:List EM)(t:Nat)(h:t<l.length * 5):(An l)[t]? =some ((flatK Iu 5 l.toArray)[t]!):=by
 rw[get_flatK _ _ _ _ (by simpa using h),FU l (t/5) (by omega)]
 exact NE l t h
theorem TE(h:w.ownsRow base 63 5 (.slice (some ⟨g,0,none⟩) es.length cap) es.length (An es)):HoldsK Iu 5 w g 0 es.toArray:=by
 intro j hj
 rw[size_flatK]at hj
 have hj':j<es.length * 5:=by simpa using hj
 constructor
 ·have:=World.ownsRow.cells h (g:=g) rfl j _ (flat_get es j hj')
  rw[Cl]at this
  exact this
 ·rcases h.2 with⟨hv,_⟩|⟨g',cap',cur,hv,h1,hg,_⟩
  ·cases hv
  ·cases hv
   simp[World.frozen?,hg]
theorem NF{os:Array Obj}{b:Nat}(hb:b<w.heap.size)(hne:b≠g):(sortWorldK Iu 5 w g 0 n d os).heap[b]? =w.heap[b]? :=by
 show((w.heap.modify g _)++os)[b]? =_
 rw[Array.getElem?_append_left (by rw[Array.size_modify];exact hb),Array.getElem?_modify,if_neg (fun e=>hne e.symm)]
theorem RY{os:Array Obj}:w.heap.size<=(sortWorldK Iu 5 w g 0 n d os).heap.size:=by
 show _<=((w.heap.modify g _)++os).size
 rw[Array.size_append,Array.size_modify];omega
theorem VX{os:Array Obj}(hg:base<=g)(hs:base<=w.heap.size):Below base w (sortWorldK Iu 5 w g 0 n d os):=
 ⟨rfl,rfl,rfl,RY,fun k hk=>NF (by omega) (by omega)⟩
theorem YM{d:List EM}{os:Array Obj}(h:w.ownsRow base 63 5 (.slice (some ⟨g,0,none⟩) es.length cap) es.length (An es))(hd:d.length=es.length):
 (sortWorldK Iu 5 w g 0 n d.toArray os).ownsRow base 63 5 (.slice (some ⟨g,0,none⟩) es.length cap) es.length (An d):=by
 refine⟨by rw[DD,hd],?_⟩
 rcases h.2 with⟨hv,_⟩|⟨g',cap',cur,hv,h1,hg,h2,h3,h4,h5⟩
 ·cases hv
 ·cases hv
  have hlt:g<w.heap.size:=(Array.getElem?_eq_some_iff.1 hg).1
  refine .inr ⟨g,cap,putCells id 0 (flatK Iu 5 d.toArray) cur,rfl,h1,?_,h2,h3,by simpa[putCells]using h4,?_⟩
  ·show((w.heap.modify g _)++os)[g]? =_
   rw[Array.getElem?_append_left (by rw[Array.size_modify];exact hlt),Array.getElem?_modify,if_pos rfl,hg]
   rfl
  ·apply List.ext_getElem?
   intro t
   have hsz:es.length * 5<=cur.size:=by rw[h4];exact Nat.mul_le_mul_right _ h2
   by_cases ht:t<es.length * 5
   ·rw[List.getElem?_take_of_lt ht,flat_get d t (by rw[hd];exact ht)]
    have htc:t<cur.size:=by omega
    simp only[putCells,Array.getElem?_toList,Array.getElem?_mapIdx,Array.getElem?_eq_getElem htc,Option.map_some]
    rw[if_pos ⟨Nat.zero_le _,by rw[size_flatK];simp;omega⟩]
    rfl
   ·rw[List.getElem?_eq_none (by rw[List.length_take];omega),List.getElem?_eq_none (by rw[DD,hd];omega)]
theorem TF{l:List Ent}{d:List EM}{os:Array Obj}(h:OE w base (.slice (some ⟨g,0,none⟩) es.length cap) es l)(hp:d.Perm es):
 ∃l',l'.Perm l/\OE (sortWorldK Iu 5 w g 0 n d.toArray os) base (.slice (some ⟨g,0,none⟩) es.length cap) d l':=by
 have hl:=hp.length_eq
 have ez:es=(es.zip l).map Prod.fst:=(List.map_fst_zip (by rw[h.len];exact Nat.le_refl _)).symm
 have el:(es.zip l).map Prod.snd=l:=List.map_snd_zip (by rw[h.len];exact Nat.le_refl _)
 obtain⟨zs,pz,dz⟩:=TD Prod.fst hp (es.zip l) ez
 refine⟨zs.map Prod.snd,by have:=pz.map Prod.snd;rwa[el]at this,⟨Nat.le_trans h.low RY,?_,?_,fun i hi=>?_⟩⟩
 ·rw[hl];exact YM h.own hl
 ·rw[dz,lMp,lMp]
 ·rw[lMp]at hi
  have hz:zs[i]∈es.zip l:=pz.mem_iff.1 (List.getElem_mem hi)
  obtain⟨j,hj,ej⟩:=List.getElem_of_mem hz
  have hjl:j<l.length:=by rw[List.length_zip]at hj;omega
  have hje:j<es.length:=by rw[h.len];exact hjl
  rw[List.getElem_zip]at ej
  have e1:d.getD i default=es.getD j default:=by
   rw[dz,gDe,List.getElem?_map,gEe hi,<-ej,gDe,gEe hje];rfl
  have e2:(zs.map Prod.snd).getD i default=l.getD j default:=by
   rw[gDe,List.getElem?_map,gEe hi,<-ej,gDe,gEe hjl];rfl
  rw[e1,e2]
  obtain⟨a1,a2,a3,a4,a5,a6⟩:=h.rows j hjl
  refine⟨a1,a2,a3,a4,a5,A0 a6 (fun b hb=>NF (AD a6 hb).2 (fun e=>?_))⟩
  exact Gy h.own a6 (by decide) (show(Value.slice (some ⟨g,0,none⟩) es.length cap).ownBlock=some b by rw[e];rfl) hb
end Go.Proofs.YtdohnkkbkfhphaaGreat.bf
namespace Go.Proofs
open Go.Shelf
def Tryz.sortE_ren:Go.Shelf.Ren:=⟨fun|6=>115|15=>163|14=>162|28=>203|29=>204|20=>195|21=>196|22=>197|23=>198|24=>199|25=>200|26=>201|27=>202|46=>213|47=>214|48=>215|49=>216|50=>217|57=>223|n=>n,fun|22=>26|24=>63|25=>104|3=>3|39=>211|0=>0|53=>251|55=>253|4=>4|46=>244|45=>243|50=>248|5=>5|9=>9|66=>259|70=>193|76=>269|77=>270|n=>n,fun|n=>n⟩
theorem Tryz.sortE:Go.Proofs.SlLaysF0.n6 Tryz.prog Tryz.sortE_ren:={
 mixed:=by kernel_rfl
 f6:=⟨Tryz.f115.name,by decide,Tryz.func115.trans (congrArg some (by kernel_rfl))⟩
 f14:=⟨Tryz.f162.name,by decide,Tryz.func162.trans (congrArg some (by kernel_rfl))⟩
 f15:=Tryz.func163.trans (congrArg some (by kernel_rfl))
 f20:=⟨Tryz.f195.name,by decide,Tryz.func195.trans (congrArg some (by kernel_rfl))⟩
 f21:=⟨Tryz.f196.name,by decide,Tryz.func196.trans (congrArg some (by kernel_rfl))⟩
 f22:=⟨Tryz.f197.name,by decide,Tryz.func197.trans (congrArg some (by kernel_rfl))⟩
 f23:=⟨Tryz.f198.name,by decide,Tryz.func198.trans (congrArg some (by kernel_rfl))⟩
 f24:=⟨Tryz.f199.name,by decide,Tryz.func199.trans (congrArg some (by kernel_rfl))⟩
 f25:=⟨Tryz.f200.name,by decide,Tryz.func200.trans (congrArg some (by kernel_rfl))⟩
 f26:=⟨Tryz.f201.name,by decide,Tryz.func201.trans (congrArg some (by kernel_rfl))⟩
 f27:=⟨Tryz.f202.name,by decide,Tryz.func202.trans (congrArg some (by kernel_rfl))⟩
 f28:=Tryz.func203.trans (congrArg some (by kernel_rfl))
 f29:=Tryz.func204.trans (congrArg some (by kernel_rfl))
 f46:=⟨Tryz.f213.name,by decide,Tryz.func213.trans (congrArg some (by kernel_rfl))⟩
 f47:=Tryz.func214.trans (congrArg some (by kernel_rfl))
 f48:=Tryz.func215.trans (congrArg some (by kernel_rfl))
 f49:=⟨Tryz.f216.name,by decide,Tryz.func216.trans (congrArg some (by kernel_rfl))⟩
 f50:=⟨Tryz.f217.name,by decide,Tryz.func217.trans (congrArg some (by kernel_rfl))⟩
 f57:=⟨Tryz.f223.name,by decide,Tryz.func223.trans (congrArg some (by kernel_rfl))⟩
 t0:=Tryz.underlying0
 a0:=Tryz.isAgg0
 z0:=Tryz.sizeOf0
 v0:=Tryz.zeroValue0
 t3:=Tryz.underlying3
 a3:=Tryz.isAgg3
 z3:=Tryz.sizeOf3
 v3:=Tryz.zeroValue3
 t4:=Tryz.underlying4
 a4:=Tryz.isAgg4
 z4:=Tryz.sizeOf4
 v4:=Tryz.zeroValue4
 t5:=Tryz.underlying5
 a5:=Tryz.isAgg5
 z5:=Tryz.sizeOf5
 v5:=Tryz.zeroValue5
 t9:=Tryz.underlying9
 a9:=Tryz.isAgg9
 z9:=Tryz.sizeOf9
 v9:=Tryz.zeroValue9
 t22:=Tryz.underlying26
 a22:=Tryz.isAgg26
 z22:=Tryz.sizeOf26
 v22:=Tryz.zeroValue26
 t25:=Tryz.underlying104
 a25:=Tryz.isAgg104
 z25:=Tryz.sizeOf104
 v25:=Tryz.zeroValue104
 t39:=Tryz.underlying211
 a39:=Tryz.isAgg211
 z39:=Tryz.sizeOf211
 v39:=Tryz.zeroValue211
 t45:=Tryz.underlying243
 a45:=Tryz.isAgg243
 z45:=Tryz.sizeOf243
 v45:=Tryz.zeroValue243
 t46:=Tryz.underlying244
 a46:=Tryz.isAgg244
 z46:=Tryz.sizeOf244
 v46:=Tryz.zeroValue244
 t50:=Tryz.underlying248
 a50:=Tryz.isAgg248
 z50:=Tryz.sizeOf248
 v50:=Tryz.zeroValue248
 t53:=Tryz.underlying251
 a53:=Tryz.isAgg251
 z53:=Tryz.sizeOf251
 v53:=Tryz.zeroValue251
 t55:=Tryz.underlying253
 a55:=Tryz.isAgg253
 z55:=Tryz.sizeOf253
 v55:=Tryz.zeroValue253
 t66:=Tryz.underlying259
 a66:=Tryz.isAgg259
 z66:=Tryz.sizeOf259
 v66:=Tryz.zeroValue259
 t70:=Tryz.underlying193
 a70:=Tryz.isAgg193
 z70:=Tryz.sizeOf193
 v70:=Tryz.zeroValue193
 t76:=Tryz.underlying269
 a76:=Tryz.isAgg269
 z76:=Tryz.sizeOf269
 v76:=Tryz.zeroValue269
 t77:=Tryz.underlying270
 a77:=Tryz.isAgg270
 z77:=Tryz.sizeOf270
 v77:=Tryz.zeroValue270}
end Go.Proofs
namespace Go.Proofs.YtdohnkkbkfhphaaGreat.bf
open Go.ChangeShapes Go.WideShapes Go.ChangeAt Go.RowKit Go.Sort Go.Shelf
open vl
def cfE(a b:EM):Int:=DG a.ent b.ent
theorem NG(a b:EM):ltOf cfE a b=decide (ltP a.ent b.ent):=YL a b
theorem swoE:SWO (ltOf cfE) where
 irrefl x:=by rw[NG];exact decide_eq_false (Dm _)
 trans x y z h1 h2:=by
  rw[NG]at *
  exact decide_eq_true (Cd (of_decide_eq_true h1) (of_decide_eq_true h2))
 ntrans x y z h1 h2:=by
  rw[NG]at *
  have n1:=of_decide_eq_false h1
  have n2:=of_decide_eq_false h2
  refine decide_eq_false (fun h=>?_)
  rcases ltP_tri x.ent y.ent with h3|h3|h3
  ·exact n1 h3
  ·exact n2 (Wn (Hg h3) h)
  ·exact n2 (Cd h3 h)
theorem cmpE(g off size:Nat)(w:World):CmpLays Tryz.prog 116 #[] Iu 5 cfE g off size w:=by
 intro m os dk _ x y
 rw[Array.append_empty]
 exact ND x y _
theorem YN{w w':World}{base base':Nat}{e f:EM}{x y:Ent}(h:OR w base e x)(k:OR w' base' f y):ltP e.ent f.ent↔ltP x y:=by
 unfold ltP EM.ent
 simp only[h.key,h.time,h.seq,k.key,k.time,k.seq]
theorem Pq(base:Nat)(v:Value)(es:List EM)(l:List Ent)(w:World)(h:OE w base v es l)(hl:es.length<=1000000):
 Calls Tryz.prog 115 #[v,.func (.func 116) #[] #[]] w fun e w'=>e= .returned (.tuple #[])/\∃es' l',l'.Perm l/\(∀i j,i<j->j<l'.length->¬ltP (l'.getD j default) (l'.getD i default))/\OE w' base v es' l'/\Below base w w'/\(∀b,b<w.heap.size->v.ownBlock≠some b->w'.heap[b]? =w.heap[b]?):=by
 rcases h.own.2 with⟨hv,h0⟩|⟨g,cap,cur,hv,h1,hg,_⟩
 ·subst hv
  refine(AnyF.slices_SortFunc_none Tryz.sortE none 0 (.func (.func 116) #[] #[]) w).mono ?_
  rintro e w' ⟨rfl,rfl⟩
  exact⟨rfl,es,l,List.Perm.refl _,fun i j hij hj=>by rw[<-h.len,h0]at hj;omega,h,bR,fun _ _ _=>rfl⟩
 ·subst hv
  have hlt:g<w.heap.size:=(Array.getElem?_eq_some_iff.1 hg).1
  have eg:∀args w,(callFunc 116 args).run Tryz.prog w= .ok (.enter 116 args) w:=enters_of Tryz.func116 (by kernel_rfl) rfl
  have hc:=AnyQ.slices_SortFunc Tryz.sortE 5 Tryz.isAgg63 Tryz.sizeOf63 Iu VV VW cfE swoE 116 #[] g 0 cap es.toArray w eg (cmpE g 0 es.toArray.size w) (TE h.own) hlt (by simp;omega)
  rw[List.size_toArray]at hc
  refine Calls.mono hc ?_
  rintro e w' ⟨rfl,d',n,os,hp,hs,rfl⟩
  obtain⟨d',rfl⟩:∃z:List EM,d'=z.toArray:=⟨d'.toList,by simp⟩
  have hdl:d'.length=es.length:=by have:=hp.1;simpa using this
  have hpp:d'.Perm es:=by
   have:=hp.2.2
   simpa[hdl,List.take_of_length_le]using this
  obtain⟨l',pl,hoe⟩:=TF (n:=n) (os:=os) h hpp
  refine⟨rfl,d',l',pl,fun i j hij hj=>?_,hoe,VX h1 h.low,fun b hb hne=>NF hb (fun e=>hne (by rw[e];rfl))⟩
  have hjd:j<d'.length:=by rw[hoe.len];exact hj
  have:=hs i j (Nat.zero_le _) hij (by rw[<-hdl];exact hjd)
  rw[FU d' j hjd,FU d' i (by omega),NG]at this
  have hn:=of_decide_eq_false this
  exact fun hlt'=>hn ((YN (hoe.rows j hj) (hoe.rows i (by omega))).2 hlt')
end Go.Proofs.YtdohnkkbkfhphaaGreat.bf
namespace Go.Proofs.YtdohnkkbkfhphaaGreat.bf
open Go.ChangeShapes Go.WideShapes Go.ChangeAt Go.RowKit Go.Shelf
open vl
attribute [local go_sem] Oper.semAt_some
variable {LB b n : Nat} {W X Y w3 w4 : World} {v : Value} {es : List EM} {l : List Ent} {o : Obj}
def Ju(n LB:Nat):Nat->Obj->Prop:=fun b o=>b≠LB/\∀c f,o= .cells c 63 f->b<n
theorem TH(h:b<n)(hL:n<=LB):names (Ju n LB) W b:=fun o _=>⟨by omega,fun _ _ _=>h⟩
theorem Ps{t:TypeId}(h:Ar W b t)(ht:t≠63)(hb:b≠LB):names (Ju n LB) W b:=fun o ho=>⟨hb,fun c f e=>by
 obtain⟨c',f',h'⟩:=h
 rw[ho]at h'
 rw[e]at h'
 injection h' with e1
 injection e1 with _ e2 _
 exact absurd e2.symm ht⟩
structure Mk(X:World)(n LB:Nat)(v:Value)(es:List EM)(l:List Ent):Prop where
 oe:OE X n v es l
 c:X.cell? ⟨LB,0,none⟩=some v
 f:X.frozen? ⟨LB,0,none⟩=false
 ty:Ar X LB 26
theorem Mk.below(h:Mk X n LB v es l)(hb:Bwz X Y):Mk Y n LB v es l:=
 ⟨h.oe.below hb,cLz hb h.c,(hb.frozen (p:=⟨LB,0,none⟩) (AY h.ty)).trans h.f,Ah h.ty hb⟩
theorem Mk.row{row:Option Nat}(h:Mk X n LB v es l)(hg:X.grownBy Y row)(hr:∀r,row=some r->∃x:Obj,X.heap[r]? =some x/\x.isCells=false):Mk Y n LB v es l:=by
 have hk:∀(b:Nat) (c:Array Value) (t:TypeId) (f:Nat×Nat),X.heap[b]? =some (.cells c t f)->Y.heap[b]? =X.heap[b]? :=fun b c t f hb=>hg.block b (Array.getElem?_eq_some_iff.1 hb).1 (fun e=>by
  obtain⟨x,h1,h2⟩:=hr b e.symm
  rw[hb]at h1;cases h1;cases h2)
 obtain⟨c',f',ht⟩:=h.ty
 have e:=hk _ _ _ _ ht
 exact⟨h.oe.same hg.size (fun g cur t hg' _=>hk _ _ _ _ hg'),(cOb (a:=⟨LB,0,none⟩) e).trans h.c,(AC (p:=⟨LB,0,none⟩) e).trans h.f,AH h.ty e⟩
theorem JI{e:EM}{y:Ent}{g c4:Nat}(h:Mk X n LB v es l)(hb:Bwz X w3)(hx:OR w3 n e y)(hL:n<=LB)
 (hown:w4.ownsRow n 63 5 (.slice (some ⟨g,0,none⟩) (es.length+1) c4) (es.length+1) (An es++[.string e.key,.int .i64 e.time,.int .i64 e.seq,hdV e.row,.bool e.met])) (hg:(w3.alloc o).grownBy w4 v.ownBlock) (B:Nat):
 Mk (w4.setCell ⟨LB,0,none⟩ (.slice (some ⟨g,0,none⟩) (es.length+1) c4)) n LB (.slice (some ⟨g,0,none⟩) (es.length+1) c4) (es++[e]) (l++[y])/\Below n X (w4.setCell ⟨LB,0,none⟩ (.slice (some ⟨g,0,none⟩) (es.length+1) c4))/\
 Ao (Ju n LB) X (w4.setCell ⟨LB,0,none⟩ (.slice (some ⟨g,0,none⟩) (es.length+1) c4))/\KeepsFrom B X (w4.setCell ⟨LB,0,none⟩ (.slice (some ⟨g,0,none⟩) (es.length+1) c4)):=by
 have h3:=h.below hb
 have hsn:=JM h.oe hb hx hown hg
 have hlt:=AY h3.ty
 have hbl:∀b,b<w3.heap.size->v.ownBlock≠some b->w4.heap[b]? =w3.heap[b]? :=fun b hb' ho=>by
  rw[hg.block b (by simp;omega) (fun e=>ho e.symm)]
  exact Below.heap_alloc _ _ b hb'
 have eL:w4.heap[LB]? =w3.heap[LB]? :=hbl LB hlt (fun e=>tyAt_apart (A8 h3.oe.own e) h3.ty (by decide) rfl)
 have t4:Ar w4 LB 26:=AH h3.ty eL
 have c4':=(cOb (a:=⟨LB,0,none⟩) eL).trans h3.c
 have f4:=(AC (p:=⟨LB,0,none⟩) eL).trans h3.f
 have eO:∀b u,b≠LB->(w4.setCell ⟨LB,0,none⟩ u).heap[b]? =w4.heap[b]? :=fun b u hb'=>heap_setCell_other _ _ _ _ hb'
 refine⟨⟨hsn.1.other (by simp[World.setCell]) (fun b hb'=>eO b _ (by rcases hb' with k|k;exact tyAt_apart k t4 (by decide);exact tyAt_apart k t4 (by decide))),World.cell?_setCell_same _ _ _ c4',by go_simp,AM t4 _ _⟩,hsn.2.setCell hL _,fun b ob h1 h2 hP=>?_,?_⟩
 ·have hlb:b<X.heap.size:=(Array.getElem?_eq_some_iff.1 h1).1
  have e3:=hb.block b hlb
  rw[eO b _ hP.1,hbl b (Nat.lt_of_lt_of_le hlb hb.size) (fun e=>?_),e3]
  ·exact h1
  ·obtain⟨cc,ff,k⟩:=A8 h3.oe.own e
   rw[e3,h1]at k
   injection k with k
   have:=hP.2 cc ff k
   have:=(AD h3.oe.own e).1
   omega
 ·have k1:KeepsFrom B X w3:=B8 hb
  have k2:KeepsFrom B w3 w4:=⟨by have:=hg.size;simp at this;omega,fun k ob hk h1 h2=>by
   have hlk:k<w3.heap.size:=(Array.getElem?_eq_some_iff.1 h1).1
   rw[hbl k hlk (fun e=>?_)]
   ·exact h1
   ·obtain⟨cc,ff,k'⟩:=A8 h3.oe.own e
    rw[h1]at k'
    injection k' with k'
    rw[k']at h2
    cases h2⟩
  exact(k1.trans k2).trans ((KeepsOthers.setCell _ _ _).from _)
theorem QR(h:Mk X n LB v es l)(hb:Bwz X w3)(hg:(w3.alloc o).grownBy w4 v.ownBlock):w4.cell? ⟨LB,0,none⟩=some v/\w4.frozen? ⟨LB,0,none⟩=false:=by
 have h3:=h.below hb
 have hlt:=AY h3.ty
 have eL:w4.heap[LB]? =w3.heap[LB]? :=by
  rw[hg.block LB (by simp;omega) (fun e=>tyAt_apart (A8 h3.oe.own e.symm) h3.ty (by decide) rfl)]
  exact Below.heap_alloc _ _ LB hlt
 exact⟨(cOb (a:=⟨LB,0,none⟩) eL).trans h3.c,(AC (p:=⟨LB,0,none⟩) eL).trans h3.f⟩
end Go.Proofs.YtdohnkkbkfhphaaGreat.bf
