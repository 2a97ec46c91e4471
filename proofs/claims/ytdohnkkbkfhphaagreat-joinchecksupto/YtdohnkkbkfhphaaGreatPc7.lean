import Derived.Test.YtdohnkkbkfhphaaGreatPc6
set_option linter.all false
set_option maxHeartbeats 8000000
set_option maxRecDepth 100000
namespace Go.Proofs.YtdohnkkbkfhphaaGreat
open Go.Proofs.Tryz
namespace bf
open Go.ChangeShapes Go.WideShapes Go.ChangeAt Go.RowKit
open vl
variable {x : Ent}
def Az(n a b:Int):Bool:=decide (a<=n/\n<=b)
theorem AJ(n a b:Int):Az n a b=true↔(a<=n/\n<=b):=by simp[Az]
theorem BZ(n a b:Int):Az n a b=false↔ ¬(a<=n/\n<=b):=by unfold Az;exact decide_eq_false_iff_not
theorem Ak(n a b:Int)(w:World):
 Calls Tryz.prog 29 #[.int .i64 n,.int .i64 a,.int .i64 b] w fun e w'=>e= .returned (.bool (Az n a b))/\w'=w:=by
 by_cases h1:a<=n
 ·by_cases h2:n<=b
  ·rw[(AJ n a b).2 ⟨h1,h2⟩]
   go_enter func29,ntmps29
   go_wp2
   go_ret
   exact⟨rfl,rfl⟩
  ·rw[(BZ n a b).2 (by omega)]
   go_enter func29,ntmps29
   go_wp2
   go_ret
   exact⟨rfl,rfl⟩
 ·rw[(BZ n a b).2 (by omega)]
  go_enter func29,ntmps29
  go_wp2
  go_ret
  exact⟨rfl,rfl⟩
theorem FL(n:Int)(w:World):
 Calls Tryz.prog 65 #[.int .i64 n] w fun e w'=>e= .returned (.bool (Az n 1 64))/\w'=w:=by
 by_cases h1:1<=n
 ·by_cases h2:n<=64
  ·rw[(AJ n 1 64).2 ⟨h1,h2⟩]
   go_enter func65,ntmps65
   go_wp2
   go_ret
   exact⟨rfl,rfl⟩
  ·rw[(BZ n 1 64).2 (by omega)]
   go_enter func65,ntmps65
   go_wp2
   go_ret
   exact⟨rfl,rfl⟩
 ·rw[(BZ n 1 64).2 (by omega)]
  go_enter func65,ntmps65
  go_wp2
  go_ret
  exact⟨rfl,rfl⟩
theorem Y1(b:Nat)(zs:List Int)(w:World)(hl:zs.length<=100)
 (hc:∀i,i<zs.length->w.cell? ⟨b,i,none⟩=some (.int .i64 (zs[i]?.getD 0))):
 Calls Tryz.prog 164 #[.slice (some ⟨b,0,none⟩) zs.length zs.length] w fun e w'=>e= .returned (.int .i64 (AF zs))/\w'=w:=by
 go_enter func164,ntmps164
 go_wp2
 go_loop [8] (fun i=> ∃k:Nat,k<=zs.length/\i= .int .i64 k/\∀i,i<k->zs[i]?.getD 0=0) (fun i=>zs.length - (intOf i).toNat)
 case atStart=>exact⟨0,Nat.zero_le _,rfl,fun i hi=>absurd hi (Nat.not_lt_zero i)⟩
 case round=>
  obtain⟨k,hk,rfl,hall⟩:=hrel
  have HA:Hid (∀i,i<k->zs[i]?.getD 0=0):=hall
  clear hall
  by_cases hlt:k<zs.length
  ·have hcell:=hc k hlt
   obtain⟨z,hz0⟩:=nM (zs[k]?.getD 0)
   rw[hz0]at hcell
   have HZ:Hid (zs[k]?.getD 0=z):=hz0
   clear hc hz0
   by_cases hf:(z==0)=true
   ·have hf2:z=0:=by simpa using hf
    have HF:Hid (z=0):=hf2
    clear hf2
    go_wp2
    go_round
    case rel=>exact⟨k+1,by omega,by go_num,fun i hi=>by
     rcases Nat.lt_succ_iff_lt_or_eq.1 hi with h|h
     ·exact HA.out i h
     ·rw[h,HZ.out];exact HF.out⟩
    case measure=>simp[intOf];omega
   ·have hf':(z==0)=false:=by simpa using hf
    have hne:Hid (AF zs=z):=by
     show AF zs=z
     rw[L4 zs k HA.out hlt (by rw[HZ.out];simpa using hf)];exact HZ.out
    go_wp2
    go_ret
    exact⟨Ad (by rw[hne.out]),rfl⟩
  ·have hz:Hid (AF zs=0):=by
    show AF zs=0
    rw[F3 zs k HA.out,List.drop_of_length_le (by omega)];rfl
   go_wp2
   go_ret
   exact⟨Ad (by rw[hz.out]),rfl⟩
theorem or3(b:Nat)(x y z:Int)(w:World)(h0:w.cell? ⟨b,0,none⟩=some (.int .i64 x))(h1:w.cell? ⟨b,1,none⟩=some (.int .i64 y))(h2:w.cell? ⟨b,2,none⟩=some (.int .i64 z)):
 Calls Tryz.prog 164 #[.slice (some ⟨b,0,none⟩) 3 3] w fun e w'=>e= .returned (.int .i64 (AF [x,y,z]))/\w'=w:=
 Y1 b [x,y,z] w (by simp) (fun i hi=>by
  match i,hi with
  |0,_=>exact h0
  |1,_=>exact h1
  |2,_=>exact h2)
def EM.ent(e:EM):Ent:=⟨e.key,e.time,e.seq,[],e.met⟩
theorem Hx{w:World}{e f:EM}{y:Ent}(h:ER w e x)(k:ER w f y):DG e.ent f.ent=DG x y:=by
 unfold DG ltP CZ EM.ent
 simp only[h.key,h.time,h.seq,k.key,k.time,k.seq]
attribute [local go_sem ↓] Go.wp_at_zero Go.wp_at_succ
theorem Om(e f:EM)(w:World):
 Calls Tryz.prog 116 #[e.val,f.val] w fun r w'=>r= .returned (.int .i64 (DG e.ent f.ent))/\Bwz w w':=by
 have HC:Hid (AF [Lib.compareBytes e.key.data.toList f.key.data.toList,Cs e.time f.time,Cs e.seq f.seq]=DG e.ent f.ent):=Hh e.ent f.ent
 obtain⟨k1,t1,s1,⟨a1,b1,c1⟩,m1⟩:=e
 obtain⟨k2,t2,s2,⟨a2,b2,c2⟩,m2⟩:=f
 rw[<-HC.out]
 clear HC
 unfold EM.val hdV
 dsimp only
 go_enter func116,ntmps116
 go_wp2
 go_region_held3 (fun w'=>w'.cell? ⟨w.heap.size,0,none⟩=some (.string k1)/\w'.cell? ⟨w.heap.size,1,none⟩=some (.int .i64 t1)/\w'.cell? ⟨w.heap.size,2,none⟩=some (.int .i64 s1)/\w'.cell? ⟨w.heap.size+1,0,none⟩=some (.string k2)/\w'.cell? ⟨w.heap.size+1,1,none⟩=some (.int .i64 t2)/\w'.cell? ⟨w.heap.size+1,2,none⟩=some (.int .i64 s2)) (go_keep)
  (first
   |(go_at_call 166;refine(Hf _ _ _).mono ?_;rintro e w' ⟨rfl,rfl⟩)
   |(go_at_call 165;refine(He _ _ _).mono ?_;rintro e w' ⟨rfl,rfl⟩)
   |(go_at_call 164;refine(or3 _ (Lib.compareBytes k1.data.toList k2.data.toList) (Cs t1 t2) (Cs s1 s2) _ ?_ ?_ ?_).mono ?_;(go_simp);(go_simp);(go_simp);rintro e w' ⟨rfl,rfl⟩))
 all_goals
  go_wp2
  go_ret
  refine⟨rfl,?_⟩
  repeat (first|exact bR|apply Below.drew|(refine Below.alloc ?_ (by simp<;>omega) _))
theorem FM(e:EM)(w:World):
 Calls Tryz.prog 186 #[e.val] w fun r w'=>r= .returned (.agg #[.string e.key,.int .i64 e.time,.int .i64 e.seq])/\Bwz w w':=by
 obtain⟨k1,t1,s1,⟨a1,b1,c1⟩,m1⟩:=e
 unfold EM.val hdV
 dsimp only
 go_enter func186,ntmps186
 go_wp2
 refine bodyPost_ret (v:=.agg #[.string k1,.int .i64 t1,.int .i64 s1]) (by simp[results,results186,go_sem]) rfl ⟨rfl,?_⟩
 repeat (first|exact bR|apply Below.drew|(refine Below.setCell ?_ (by simp) _)|(refine Below.alloc ?_ (by simp<;>omega) _))
def isKey(k:ByteArray):Prop:=∃r,rowOk r/\encR r=k.data.toList
structure wfE(x:Ent):Prop where
 key:x.key.size<=maxLen
 row:BE x.row
 len:x.row.length<=9223372036854775807
def DH(x:Ent):Prop:=isKey x.key/\Au x.row=0/\tm.Bb x.time=true/\0<=x.seq/\x.seq<=1099511627776
noncomputable def Ct(x:Ent):Bool:=@decide (DH x) (Classical.propDecidable _)
theorem Ei(h:DH x):Ct x=true:=by unfold Ct;exact @decide_eq_true _ (Classical.propDecidable _) h
theorem Kr(h:¬DH x):Ct x=false:=by unfold Ct;exact @decide_eq_false _ (Classical.propDecidable _) h
theorem IJ:Ct x=true↔DH x:=by
 by_cases h:DH x
 ·simp[Ei h,h]
 ·simp[Kr h,h]
theorem UA{k:ByteArray}(h:¬isKey k):Lf k.data.toList:=fun r hr e=>h ⟨r,hr,e⟩
theorem FN(e:EM)(x:Ent)(w:World)(h:ER w e x)(hw:wfE x):
 Calls Tryz.prog 183 #[e.val] w fun r w'=>r= .returned (.bool (Ct x))/\Bwz w w':=by
 obtain⟨k1,t1,s1,⟨a1,b1,c1⟩,m1⟩:=e
 obtain⟨h1,h2,h3,h4,h5,h6⟩:=h
 obtain⟨xk,xt,xs,xr,xm⟩:=x
 obtain⟨w1,w2,w3⟩:=hw
 dsimp only at h1 h2 h3 h4 h5 h6 w1 w2 w3
 subst h1 h2 h3 h4 h5
 obtain⟨R,hR⟩:=nM (Ct ⟨k1,t1,s1,xr,m1⟩)
 have HRt:Hid (DH ⟨k1,t1,s1,xr,m1⟩->true=R):=fun h=>by rw[<-hR,Ei h]
 have HRf:Hid (¬DH ⟨k1,t1,s1,xr,m1⟩->false=R):=fun h=>by rw[<-hR,Kr h]
 have KK:=hIz (fun(w1:World) (hb:Bwz w w1)=>JB a1 c1 xr w1 (vl.Ac h6 hb) w2 w3)
 rw[hR]
 obtain⟨ke,hke⟩:=nM (Au xr)
 obtain⟨ks,hks⟩:=nM (E9 xr)
 rw[hke,hks]at KK
 have HKE:Hid (Au xr=ke):=hke
 obtain⟨n,hn⟩:=nM xr.length
 rw[hn]at KK
 unfold EM.val hdV
 dsimp only
 rw[hn]
 clear hR hke hks hn h6 w2 w3
 have hb0:Bwz w (w.alloc (.cells #[.string k1,.int .i64 t1,.int .i64 s1,.slice a1 n c1,.bool m1] 63)):=bR.alloc nR _
 by_cases hk:isKey k1
 ·obtain⟨r0,hr0,hk0⟩:=hk
  have KB:Hid (∀w1,CTz 179 #[.string k1] w1 fun e w'=>(∃ad cap,e= .returned (.tuple #[.slice ad r0.length cap,.int .i64 0]))/\Bwz w1 w'):=fun w1'=>(O8 k1 r0 w1' w1 hr0 hk0).mono (fun e w' ⟨⟨ad,cap,he,_⟩,hb⟩=>⟨⟨ad,cap,he⟩,hb⟩)
  have HK:Hid (isKey k1):=⟨r0,hr0,hk0⟩
  obtain⟨rl,hrl⟩:=nM r0.length
  rw[hrl]at KB
  clear hk0 hr0 hrl
  go_enter func183,ntmps183
  go_wp2_with fail
  refine(KB.out _).mono ?_
  rintro e wa ⟨⟨ad,cap,rfl⟩,hb1⟩
  have c0:wa.cell? ⟨w.heap.size,0,none⟩=some (.string k1):=by rw[hb1.cell (p:=⟨w.heap.size,0,none⟩) (by simp)];go_simp
  have c1':wa.cell? ⟨w.heap.size,1,none⟩=some (.int .i64 t1):=by rw[hb1.cell (p:=⟨w.heap.size,1,none⟩) (by simp)];go_simp
  have c2:wa.cell? ⟨w.heap.size,2,none⟩=some (.int .i64 s1):=by rw[hb1.cell (p:=⟨w.heap.size,2,none⟩) (by simp)];go_simp
  have c3:wa.cell? ⟨w.heap.size,3,none⟩=some (.slice a1 n c1):=by rw[hb1.cell (p:=⟨w.heap.size,3,none⟩) (by simp)];go_simp
  have hbw:=hb0.trans (hb1.mono hb0.size)
  clear hb1
  go_wp2_with fail
  refine(KK.out _ hbw).mono ?_
  rintro e wb ⟨rfl,hb2⟩
  have d1:=cLz hb2 c1'
  have d2:=cLz hb2 c2
  have hbx:=hbw.trans (hb2.mono hbw.size)
  clear hb2 c0 c1' c2 c3
  by_cases h0:ke=0
  ·subst h0
   have KF:=hIz (fun(w1:World)=>tm.Cr t1 w1)
   cases hf:tm.Bb t1 with
   |false=>
    have HE:Hid (false=R):=HRf.out (fun h=>by have:=h.2.2.1;rw[hf]at this;cases this)
    rw[hf]at KF
    go_wp2_with (go_at_call 88;refine(KF.out _).mono ?_;rintro e w' ⟨rfl,hww⟩;subst hww)
    go_ret
    exact⟨Aa HE.out,hbx⟩
   |true=>
    rw[hf]at KF
    by_cases s0:0<=s1
    ·by_cases s2:s1<=1099511627776
     ·have HE:Hid (true=R):=HRt.out ⟨HK.out,HKE.out,hf,s0,s2⟩
      go_wp2_with (go_at_call 88;refine(KF.out _).mono ?_;rintro e w' ⟨rfl,hww⟩;subst hww)
      go_ret
      exact⟨Aa HE.out,hbx⟩
     ·have HE:Hid (false=R):=HRf.out (fun h=>s2 h.2.2.2.2)
      go_wp2_with (go_at_call 88;refine(KF.out _).mono ?_;rintro e w' ⟨rfl,hww⟩;subst hww)
      go_ret
      exact⟨Aa (by rw[<-HE.out];exact decide_eq_false (by omega)),hbx⟩
    ·have HE:Hid (false=R):=HRf.out (fun h=>s0 h.2.2.2.1)
     go_wp2_with (go_at_call 88;refine(KF.out _).mono ?_;rintro e w' ⟨rfl,hww⟩;subst hww)
     go_ret
     exact⟨Aa HE.out,hbx⟩
  ·have hb':(ke==0)=false:=by simpa using h0
   have HE:Hid (false=R):=HRf.out (fun h=>h0 (by rw[<-HKE.out];exact h.2.1))
   go_wp2
   go_ret
   exact⟨Aa HE.out,hbx⟩
 ·have KB:Hid (∀w1,CTz 179 #[.string k1] w1 fun e w'=>e= .returned (.tuple #[.slice none 0 0,.int .i64 1])/\Bwz w1 w'):=fun w1'=>Xh k1 w1' w1 (UA hk)
  have HE:Hid (false=R):=HRf.out (fun h=>hk h.1)
  clear hk
  go_enter func183,ntmps183
  go_wp2_with fail
  refine(KB.out _).mono ?_
  rintro e wa ⟨rfl,hb1⟩
  have c3:wa.cell? ⟨w.heap.size,3,none⟩=some (.slice a1 n c1):=by rw[hb1.cell (p:=⟨w.heap.size,3,none⟩) (by simp)];go_simp
  have hbw:=hb0.trans (hb1.mono hb0.size)
  clear hb1
  go_wp2_with fail
  refine(KK.out _ hbw).mono ?_
  rintro e wb ⟨rfl,hb2⟩
  have hbx:=hbw.trans (hb2.mono hbw.size)
  go_wp2
  go_ret
  exact⟨Aa HE.out,hbx⟩
end bf
namespace bf
open Go.ChangeShapes Go.WideShapes Go.ChangeAt Go.RowKit Go.Shelf
open vl
attribute [local go_sem] Oper.semAt_some
variable {W w w' : World} {B n : Nat}
structure Buf where
 lim:Int
 mem:List Ent
 runs:List (List Ent)
structure BX where
 ra:Option Addr
 rc:Nat
 m:Part
 rs:List Part
def AN(b:Buf)(x:BX):Value:=.agg #[.int .i64 b.lim,hdV x.m.1,.slice x.ra x.rs.length x.rc]
structure bufAt(w:World)(b:Buf)(x:BX):Prop where
 hds:EU w x.ra (x.rs.map (·.1))
 len:∀p∈x.m::x.rs,p.1.2.1=p.2.length/\p.2.length<=9223372036854775807
 ems:∀p∈x.m::x.rs,BD w p.1.1 p.2
 few:x.rs.length<=9223372036854775807
 mem:ERs w x.m.2 b.mem
 rlen:x.rs.length=b.runs.length
 runs:∀i,i<b.runs.length->ERs w (x.rs.getD i default).2 (b.runs.getD i default)
theorem FP{a:Option Addr}{l:List Hdr}(h:EU w a l)(hb:Bwz w w'):EU w' a l:=fun i hi=>by
 obtain⟨b,o,e,x⟩:=h i hi
 exact⟨b,o,e,cLz hb x⟩
theorem Ai{b:Buf}{x:BX}(h:bufAt w b x)(hb:Bwz w w'):bufAt w' b x:=
 ⟨FP h.hds hb,h.len,fun p hp=>Bk (h.ems p hp) hb,h.few,h.mem.below hb,h.rlen,fun i hi=>(h.runs i hi).below hb⟩
def partsB(b:Buf):List (List Ent):=b.mem::b.runs
def Ab(b:Buf):List Ent:=(partsB b).flatten
theorem On{w:World}:∀{p:List Part} {l:List (List Ent)},p.length=l.length->(∀i,i<l.length->ERs w (p.getD i default).2 (l.getD i default))->ERs w (ems p) l.flatten
 |[],[],_,_=>XK w
 |[],_::_,h,_=>by cases h
 |_::_,[],h,_=>by cases h
 |p::ps,x::xs,h,k=>by
  have h1:=k 0 (by simp)
  have h2:=On (p:=ps) (l:=xs) (by simpa using h) (fun i hi=>by have:=k (i+1) (by simpa using hi);simpa using this)
  exact XL (by simpa using h1) h2
theorem Dg{b:Buf}{x:BX}(h:bufAt w b x):ERs w (ems (x.m::x.rs)) (Ab b):=
 On (by simp[partsB,h.rlen]) (fun i hi=>by
  cases i with
  |zero=>exact h.mem
  |succ i=>
   have hi':i<b.runs.length:=by simpa[partsB]using hi
   simpa[partsB]using h.runs i hi')
theorem Y2{b:Buf}{x:BX}(h:bufAt w b x)(h0:w.cell? ⟨B,0,none⟩=some (.int .i64 b.lim))(h1:w.cell? ⟨B,1,none⟩=some (hdV x.m.1))(h2:w.cell? ⟨B,2,none⟩=some (.slice x.ra x.rs.length x.rc)):boxAt w B b.lim x.ra x.rc x.m x.rs:=
 ⟨h0,h1,h2,h.hds,h.len,h.ems,h.few⟩
theorem Cx{W':World}{row:Option Nat}(h:Below n w W)(hn:n<=w.heap.size)(hB:n<=B)(hg:W.grownBy W' row)(hr:∀r,row=some r->B<=r/\∃x:Obj,W.heap[r]? =some x/\x.isCells=false):Below n w W':=
 h.grown hg (Nat.le_trans hn h.size) (fun r e=>Nat.le_trans hB (hr r e).1)
theorem Ci{D:Nat}{o:Obj}(h:Below n w W)(hn:n<=D)(hD:W.heap[D]? =some o)(o':Obj):Below n w (W.putObj D o'):=
 h.trans ⟨rfl,rfl,rfl,by simp,fun k hk=>World.putObj_heap_other (by omega)⟩
def Qd(B:Nat):Nat->Obj->Prop:=fun b _=>b≠B
theorem Mv{b:Nat}(h:b≠B):names (Qd B) W b:=fun _ _=>h
theorem WQ(W:World)(o:Nat)(v:Value):Ao (Qd B) W (W.setCell ⟨B,o,none⟩ v):=fun b x h1 _ h3=>(heap_setCell_other W ⟨B,o,none⟩ b v h3).trans h1
theorem GQ{V:World}{b:Buf}{x:BX}(h:bufAt w b x)(hb:Bwz w V)(BP:Nat)(Pr:Nat->Obj->Prop)(h1:V.cell? ⟨BP,1,none⟩=some (hdV x.m.1))(h2:V.cell? ⟨BP,2,none⟩=some (.slice x.ra x.rs.length x.rc))(hS:names Pr V BP)(hS2:∀a,0<x.rs.length->x.ra=some a->names Pr V a.block):
 Wo Tryz.prog 180 #[.pointer (some ⟨BP,0,none⟩)] ((x.m::x.rs).map fun p=>#[hdV p.1]) (Ao Pr) V:=by
 have hl:(x.rs.map (·.1)).length=x.rs.length:=lMp ..
 have:=LG BP 0 x.m.1 x.ra x.rc (x.rs.map (·.1)) Pr V (by rw[hl];exact h.few) h1 (by rw[hl];exact h2) (FP h.hds hb) hS (fun a h0 ha=>hS2 a (by rw[hl]at h0;exact h0) ha)
 rw[show((x.m::x.rs).map fun p=>#[hdV p.1])=((x.m.1::x.rs.map (·.1)).map fun h=>#[hdV h]) by simp]
 exact this
theorem Yc{b:Buf}{x:BX}(h:bufAt w b x){a:Addr}(h0:0<x.rs.length)(ha:x.ra=some a):a.block<w.heap.size:=by
 obtain⟨b',o,e,y⟩:=h.hds 0 (by simpa using h0)
 rw[ha]at e;cases e
 exact bLt _ _ y
theorem WR(p:List Part)(i:Nat):E8 p i<=(ems p).length:=by
 have h:ems p=ems (p.take i)++ems (p.drop i):=by rw[<-MV,List.take_append_drop]
 unfold E8
 rw[h,lAp];omega
theorem Ks(b:Buf)(x:BX)(w:World)(h:bufAt w b x)(hs:(Ab b).length<=4611686018427387904):
 Calls Tryz.prog 135 #[AN b x] w fun e w'=>e= .returned (.int .i64 (Ab b).length)/\Bwz w w':=by
 have HB:Hid (bufAt w b x):=h
 obtain⟨N,hN⟩:=nM ((Ab b).length)
 have HEN:Hid (E8 (x.m::x.rs) (x.m::x.rs).length=N):=by show _=_;rw[Kb,(Dg h).1,hN]
 rw[hN]at hs⊢
 clear hN h
 obtain⟨ra,rc,⟨⟨m1,m2,m3⟩,ml⟩,rs⟩:=x
 obtain⟨lim,mem,runs⟩:=b
 unfold AN hdV
 dsimp only at HEN⊢
 obtain⟨n,hn⟩:∃n,rs.length=n:=⟨_,rfl⟩
 have HN:Hid (rs.length=n):=hn
 rw[hn]
 clear hn
 refine(callsIn_wide (n:=0)).1 ?_
 refine callsIn_of_wp_marks func135 rfl trivial ?_ rfl
 simp only[ntmps135,List.size_toArray,List.length_cons,List.length_nil,Nat.reduceAdd,Nat.reduceSub,Array.replicate_succ,Array.replicate_zero,List.push_toArray,List.append_toArray,List.nil_append,List.cons_append]
 gi_wp2_with (refine⟨trivial,rfl,?_⟩;gi_at_call 136;refine(callsIn_wide.2 (Gg _ _ _ rfl rfl rfl _)).mono ?_;rintro e w' ⟨rfl,rfl⟩)
 have V0:((((w.alloc (.cells #[.int .i64 lim,.slice m1 m2 m3,.slice ra n rc] 29)).alloc (.cells #[.int .i64 0] 3)).alloc (.cells #[.int .i64 lim,.slice m1 m2 m3,.slice ra n rc] 29))).cell? ⟨w.heap.size+1,0,none⟩=some (.int .i64 0):=by go_simp
 have V1:((((w.alloc (.cells #[.int .i64 lim,.slice m1 m2 m3,.slice ra n rc] 29)).alloc (.cells #[.int .i64 0] 3)).alloc (.cells #[.int .i64 lim,.slice m1 m2 m3,.slice ra n rc] 29))).frozen? ⟨w.heap.size+1,0,none⟩=false:=by go_simp
 have V2:((((w.alloc (.cells #[.int .i64 lim,.slice m1 m2 m3,.slice ra n rc] 29)).alloc (.cells #[.int .i64 0] 3)).alloc (.cells #[.int .i64 lim,.slice m1 m2 m3,.slice ra n rc] 29))).cell? ⟨w.heap.size+1+1,1,none⟩=some (.slice m1 m2 m3):=by go_simp
 have V3:((((w.alloc (.cells #[.int .i64 lim,.slice m1 m2 m3,.slice ra n rc] 29)).alloc (.cells #[.int .i64 0] 3)).alloc (.cells #[.int .i64 lim,.slice m1 m2 m3,.slice ra n rc] 29))).cell? ⟨w.heap.size+1+1,2,none⟩=some (.slice ra n rc):=by go_simp
 have V4:Bwz w ((((w.alloc (.cells #[.int .i64 lim,.slice m1 m2 m3,.slice ra n rc] 29)).alloc (.cells #[.int .i64 0] 3)).alloc (.cells #[.int .i64 lim,.slice m1 m2 m3,.slice ra n rc] 29))):=by
  repeat (first|exact bR|(refine Below.alloc ?_ (by simp<;>omega) _))
 have V5:((((w.alloc (.cells #[.int .i64 lim,.slice m1 m2 m3,.slice ra n rc] 29)).alloc (.cells #[.int .i64 0] 3)).alloc (.cells #[.int .i64 lim,.slice m1 m2 m3,.slice ra n rc] 29))).heap.size=w.heap.size+1+1+1:=by simp
 generalize ((((w.alloc (.cells #[.int .i64 lim,.slice m1 m2 m3,.slice ra n rc] 29)).alloc (.cells #[.int .i64 0] 3)).alloc (.cells #[.int .i64 lim,.slice m1 m2 m3,.slice ra n rc] 29)))=V at *
 have hit:=GQ HB.out V4 (w.heap.size+1+1) (Qd (w.heap.size+1)) V2 (by rw[HN.out];exact V3) (Mv (by omega)) (fun a h0 ha=>Mv (by have:=Yc HB.out h0 ha;omega))
 obtain⟨P,hP⟩:∃z:List Part,(((m1,m2,m3),ml)::rs)=z:=⟨_,rfl⟩
 dsimp only at hit
 rw[hP]at hit HEN
 have HPM:Hid (∀p∈P,p.1.2.1=p.2.length/\p.2.length<=9223372036854775807):=fun p hp=>HB.out.len p (by rw[<-hP]at hp;exact hp)
 clear hP
 refine C8 (gf:=180) (lb:=#[.pointer (some ⟨w.heap.size+1+1,0,none⟩)]) rfl (enters_of func180 (by kernel_rfl) rfl) hit bR (fun x hx=>by obtain⟨p,_,rfl⟩:=List.mem_map.1 hx;rfl) (fun h k=>Ao.trans h k) (fun W l o o' _ h ho=>Ao.put W l o o' h ho)
  (fun i X=>X.cell? ⟨w.heap.size+1,0,none⟩=some (.int .i64 (E8 P i))/\X.frozen? ⟨w.heap.size+1,0,none⟩=false/\Bwz w X) (fun c X=>False)
  (fun i X X' row hs hg hr=>⟨cell_kept hs.1 hg (fun r e=>(hr r e).2),(frozen_kept hs.1 hg (fun r e=>(hr r e).2)).trans hs.2.1,Cx hs.2.2 nR (by omega) hg hr⟩)
  (fun c X X' row hs hg hr=>hs)
  ⟨V0,V1,V4⟩
  (fun i a' X=>a'={tmps:=#[.agg #[.int .i64 lim,.slice m1 m2 m3,.slice ra n rc],.pointer (some ⟨w.heap.size,0,none⟩),.int .i64 0,.pointer (some ⟨w.heap.size+1,0,none⟩),hdV (P.getD i default).1,.agg #[.int .i64 lim,.slice m1 m2 m3,.slice ra n rc],.func (.func 180) #[] #[.pointer (some ⟨w.heap.size+1+1,0,none⟩)],hdV (P.getD i default).1,undef,undef,undef,undef,undef],defers:=[]})
  (fun i a' u X X' row hs hg hr=>hs) ?assign ?body ?done ?stop
 case assign=>
  intro l' k x X K hx hi hK
  obtain⟨hk,hxe⟩:=List.getElem?_eq_some_iff.1 hx
  rw[lMp]at hk
  rw[List.getElem_map]at hxe
  subst hxe
  have hd:P.getD k default=P[k]:=by rw[gDe,gEe hk];rfl
  have hK2:=fun W' h1 h2 h3=>hK _ W' h1 h2 h3 rfl
  rw[hd]at hK2
  clear hK hd hx
  obtain⟨⟨⟨z1,z2,z3⟩,zl⟩,hz⟩:∃z,P[k]=z:=⟨_,rfl⟩
  rw[hz]at hK2⊢
  unfold hdV at hK2⊢
  dsimp only at hK2⊢
  gi_wp2
  exact hK2 X (KeepsFrom.refl _ _) (Ao.refl _ _) hi
 case body=>
  intro l' i x a' X hx hl' hrec hIi hax
  obtain⟨i1,i2,i3⟩:=hIi
  obtain⟨hi,hxe⟩:=List.getElem?_eq_some_iff.1 hx
  rw[lMp]at hi
  have hd:P.getD i default=P[i]:=by rw[gDe,gEe hi];rfl
  rw[hd]at hax
  subst hax
  have hpm:=HPM.out P[i] (List.getElem_mem hi)
  have hnx:E8 P (i+1)=E8 P i+(P[i]).2.length:=Mp hi
  have hle:E8 P (i+1)<=N:=by have:=WR P (i+1);rw[Kb]at HEN;have h2:=HEN.out;omega
  clear hx hxe hd
  obtain⟨⟨⟨z1,z2,z3⟩,zl⟩,hz⟩:∃z,P[i]=z:=⟨_,rfl⟩
  rw[hz]at hpm hnx⊢
  dsimp only at hpm hnx⊢
  obtain⟨hz2,hzl⟩:=hpm
  subst hz2
  obtain⟨q,hq⟩:∃q,zl.length=q:=⟨_,rfl⟩
  rw[hq]at hnx hzl
  unfold hdV
  dsimp only
  rw[hq]
  obtain⟨O,hO⟩:∃O,E8 P i=O:=⟨_,rfl⟩
  obtain⟨O2,hO2⟩:∃O,E8 P (i+1)=O:=⟨_,rfl⟩
  rw[hO]at i1 hnx
  rw[hO2]at hnx hle
  have HO2:Hid (E8 P (i+1)=O2/\O2=O+q):=⟨hO2,hnx⟩
  clear hO hO2 hq
  have hwr:IntKind.i64.wrap ((O:Int)+(q:Int))=(O:Int)+(q:Int):=by rw[IntKind.wrap_i64];omega
  gi_wp2
  refine⟨(KeepsOthers.setCell _ _ _).from _,WQ _ _ _,?_,by simpa using i2,i3.setCell (by simp) _⟩
  rw[HO2.out.1,HO2.out.2]
  have:=World.cell?_setCell_same X ⟨w.heap.size+1,0,none⟩ (.int .i64 ((O:Int)+(q:Int))) i1
  rw[Int.natCast_add];exact this
 case done=>
  rintro D X hD ⟨i1,i2,i3⟩ hK
  rw[lMp,HEN.out]at i1
  gi_wp2
  refine⟨by simp,.inl ⟨_,_,rfl,run_takeDeferred hK,?_⟩⟩
  exact⟨_,results_tmp rfl _ _ _,rfl,Ci i3 (by omega) hK _⟩
 case stop=>
  rintro D c X hD h hK
  exact h.elim
end bf
namespace bf
open Go.ChangeShapes Go.WideShapes Go.ChangeAt Go.RowKit
open vl
variable {P : Program} {md : Region.Mode} {ops : Array Oper} {Q : Exit -> Act -> World -> Prop} {S : World -> Prop} {fuel i n : Nat} {listed : Array Bool} {a : Act} {w : World} {oi : Oper} {l : List Ent}
theorem YZ(i:Nat)(d:Option Tmp)(hi:ops[i]? =some oi)
 (hs:Region.noSelect ops=true) (hf:Region.free md ops listed i=true) (hr:(Region.ready md ops listed).contains i=true) (hQ:∀c a w,Q (.panic c) (a.put oi.dst undef) w->Q (.panic c) a w) (hd:oi.dst=d)
 (hw:Region.wanted oi (yielded ops a.tmps)=false) (hS:S w) (h:wpAnyH P md ops Q S fuel (listed.setIfInBounds i true) (a.put d undef) w):wpAnyH P md ops Q S (fuel+1) listed a w:=
 wpAnyH_take hi hs hf hr hQ (Or.inr ⟨hw,rfl⟩) hS (by rw[hd];exact h)
theorem Za{v:Value}(i:Nat)(d:Option Tmp)(hi:ops[i]? =some oi)
 (hs:Region.noSelect ops=true) (hf:Region.free md ops listed i=true) (hr:(Region.ready md ops listed).contains i=true) (hQ:∀c a w,Q (.panic c) (a.put oi.dst v) w->Q (.panic c) a w) (hd:oi.dst=d)
 (hw:Region.wanted oi (yielded ops a.tmps)=true) (hy:∀w,S w->(execOp a.eval oi).run P w= .ok (.value v) w) (hS:S w) (h:wpAnyH P md ops Q S fuel (listed.setIfInBounds i true) (a.put d v) w):wpAnyH P md ops Q S (fuel+1) listed a w:=
 wpAnyH_take hi hs hf hr hQ (Or.inl ⟨hw,hy⟩) hS (by rw[hd];exact h)
def allB(n:Nat)(P:Nat->Bool):Bool:=(List.range n).all P
theorem A9{P:Nat->Bool}:allB n P=true↔ ∀i,i<n->P i=true:=by simp[allB]
theorem Dc{P:Nat->Bool}(hi:i<n)(h:P i=false):allB n P=false:=by
 rcases Bool.eq_false_or_eq_true (allB n P)with h1|h1
 ·have:=A9.1 h1 i hi;rw[h]at this;cases this
 ·exact h1
theorem MZ(fn:FuncId)(eg:∀args w,(callFunc fn args).run Tryz.prog w= .ok (.enter fn args) w)(caps:Array Value)(P:Nat->Bool)(a:Option Addr)(cap:Nat)(l:List EM)(w:World)(hl:l.length<=9223372036854775807)(ha:BD w a l)
 (H:∀i w1,i<l.length->Bwz w w1->Calls Tryz.prog fn (#[.int .i64 (i:Nat),(l.getD i default).val]++caps) w1 fun e w'=>e= .returned (.bool (P i))/\Bwz w1 w'):
 Calls Tryz.prog 181 #[.slice a l.length cap,.func (.func fn) #[] caps] w fun e w'=>e= .returned (.bool (allB l.length P))/\Bwz w w':=by
 have HH:Hid (∀i w1,i<l.length->Bwz w w1->CTz fn (#[.int .i64 (i:Nat),(l.getD i default).val]++caps) w1 fun e w'=>e= .returned (.bool (P i))/\Bwz w1 w'):=H
 clear H
 obtain⟨n,hn⟩:∃n,l.length=n:=⟨_,rfl⟩
 have HN:Hid (l.length=n):=hn
 rw[hn]at hl⊢
 clear hn
 go_enter func181,ntmps181
 go_wp2
 go_loopw [9] (fun i wr=> ∃k:Nat,k<=n/\i= .int .i64 k/\Bwz w wr/\∀i,i<k->P i=true) (fun i _=>n - (intOf i).toNat)
 case atStart=>exact⟨0,Nat.zero_le _,rfl,bR,fun i hi=>absurd hi (Nat.not_lt_zero i)⟩
 case round=>
  obtain⟨k,hk,rfl,hnx,hall⟩:=hrel
  have HA:Hid (∀i,i<k->P i=true):=hall
  clear hall
  by_cases hlt:k<n
  ·obtain⟨b,o,e,x1,x2,x3,x4,x5⟩:=ha k (by rw[HN.out];exact hlt)
   subst e
   have q1:=cLz hnx x1
   have q2:=cLz hnx x2
   have q3:=cLz hnx x3
   have q4:=cLz hnx x4
   have q5:=cLz hnx x5
   clear x1 x2 x3 x4 x5 ha
   have i1:(0:Int)<=(k:Int):=by omega
   have i2:(k:Int)<(n:Int):=by omega
   have KK:Hid (∀w1,Bwz wr w1->CTz fn (#[.int .i64 (k:Nat),(l.getD k default).val]++caps) w1 fun e w'=>e= .returned (.bool (P k))/\Bwz w1 w'):=fun w1 hb=>HH.out k w1 (by rw[HN.out];exact hlt) (hnx.trans (hb.mono hnx.size))
   obtain⟨⟨ek,et,es,⟨r1,r2,r3⟩,em⟩,hz⟩:∃z,l.getD k default=z:=⟨_,rfl⟩
   rw[hz]at q1 q2 q3 q4 q5 KK
   unfold EM.val hdV at KK
   unfold hdV at q4
   dsimp only at q1 q2 q3 q4 q5 KK
   clear hz
   have hsz:=hnx.size
   cases hp:P k with
   |true=>
    rw[hp]at KK
    go_wp2_with (go_at_fn fn;refine(KK.out _ (bR.alloc nR _)).mono ?_;rintro e w1 ⟨rfl,hb1⟩;have hbx:=(hnx.alloc hsz _).trans (hb1.mono (by simp;omega)))
    go_roundw
    case rel=>exact⟨k+1,by omega,by go_num,hbx,fun i hi=>by
     rcases Nat.lt_succ_iff_lt_or_eq.1 hi with h|h
     ·exact HA.out i h
     ·rw[h];exact hp⟩
    case measure=>simp[intOf];omega
   |false=>
    have HE:Hid (allB n P=false):=Dc hlt hp
    rw[hp]at KK
    go_wp2_with (go_at_fn fn;refine(KK.out _ (bR.alloc nR _)).mono ?_;rintro e w1 ⟨rfl,hb1⟩;have hbx:=(hnx.alloc hsz _).trans (hb1.mono (by simp;omega)))
    go_ret
    exact⟨Aa HE.out.symm,hbx⟩
  ·have HE:Hid (allB n P=true):=A9.2 (fun i hi=>HA.out i (by omega))
   go_wp2
   go_ret
   exact⟨Aa HE.out.symm,hnx⟩
theorem Na(fn:FuncId)(eg:∀args w,(callFunc fn args).run Tryz.prog w= .ok (.enter fn args) w)(caps:Array Value)(P:Nat->Bool)(a:Option Addr)(cap:Nat)(l:List Hdr)(w:World)(hl:l.length<=9223372036854775807)(ha:EU w a l)
 (H:∀i w1,i<l.length->Bwz w w1->Calls Tryz.prog fn (#[.int .i64 (i:Nat),hdV (l.getD i (none,0,0))]++caps) w1 fun e w'=>e= .returned (.bool (P i))/\Bwz w1 w'):
 Calls Tryz.prog 184 #[.slice a l.length cap,.func (.func fn) #[] caps] w fun e w'=>e= .returned (.bool (allB l.length P))/\Bwz w w':=by
 have HH:Hid (∀i w1,i<l.length->Bwz w w1->CTz fn (#[.int .i64 (i:Nat),hdV (l.getD i (none,0,0))]++caps) w1 fun e w'=>e= .returned (.bool (P i))/\Bwz w1 w'):=H
 clear H
 obtain⟨n,hn⟩:∃n,l.length=n:=⟨_,rfl⟩
 have HN:Hid (l.length=n):=hn
 rw[hn]at hl⊢
 clear hn
 go_enter func184,ntmps184
 go_wp2
 go_loopw [9] (fun i wr=> ∃k:Nat,k<=n/\i= .int .i64 k/\Bwz w wr/\∀i,i<k->P i=true) (fun i _=>n - (intOf i).toNat)
 case atStart=>exact⟨0,Nat.zero_le _,rfl,bR,fun i hi=>absurd hi (Nat.not_lt_zero i)⟩
 case round=>
  obtain⟨k,hk,rfl,hnx,hall⟩:=hrel
  have HA:Hid (∀i,i<k->P i=true):=hall
  clear hall
  by_cases hlt:k<n
  ·obtain⟨b,o,e,x1⟩:=ha k (by rw[HN.out];exact hlt)
   subst e
   have q1:=cLz hnx x1
   clear x1 ha
   have i1:(0:Int)<=(k:Int):=by omega
   have i2:(k:Int)<(n:Int):=by omega
   have KK:Hid (CTz fn (#[.int .i64 (k:Nat),hdV (l.getD k (none,0,0))]++caps) wr fun e w'=>e= .returned (.bool (P k))/\Bwz wr w'):=HH.out k wr (by rw[HN.out];exact hlt) hnx
   obtain⟨⟨z1,z2,z3⟩,hz⟩:∃z,l.getD k (none,0,0)=z:=⟨_,rfl⟩
   rw[hz]at q1 KK
   unfold hdV at q1 KK
   dsimp only at q1 KK
   clear hz
   have hsz:=hnx.size
   cases hp:P k with
   |true=>
    rw[hp]at KK
    go_wp2_with (go_at_fn fn;refine KK.out.mono ?_;rintro e w1 ⟨rfl,hb1⟩)
    go_roundw
    case rel=>exact⟨k+1,by omega,by go_num,hnx.trans (hb1.mono hsz),fun i hi=>by
     rcases Nat.lt_succ_iff_lt_or_eq.1 hi with h|h
     ·exact HA.out i h
     ·rw[h];exact hp⟩
    case measure=>simp[intOf];omega
   |false=>
    have HE:Hid (allB n P=false):=Dc hlt hp
    rw[hp]at KK
    go_wp2_with (go_at_fn fn;refine KK.out.mono ?_;rintro e w1 ⟨rfl,hb1⟩)
    go_ret
    exact⟨Aa HE.out.symm,hnx.trans (hb1.mono hsz)⟩
  ·have HE:Hid (allB n P=true):=A9.2 (fun i hi=>HA.out i (by omega))
   go_wp2
   go_ret
   exact⟨Aa HE.out.symm,hnx⟩
theorem Qe(i:Int)(h:Hdr)(w:World):Calls Tryz.prog 185 #[.int .i64 i,hdV h] w fun e w'=>e= .returned (.bool (decide (0<h.2.1)))/\Bwz w w':=by
 obtain⟨z1,z2,z3⟩:=h
 unfold hdV
 dsimp only
 by_cases h0:0<z2
 ·have HE:Hid (decide (0<z2)=true):=decide_eq_true h0
  go_enter func185,ntmps185
  go_wp2
  go_ret
  exact⟨Aa (by rw[HE.out]),bR⟩
 ·have HE:Hid (decide (0<z2)=false):=decide_eq_false h0
  go_enter func185,ntmps185
  go_wp2
  go_ret
  exact⟨Aa (by rw[HE.out]),bR⟩
noncomputable def Es(l:List Ent)(i:Nat):Bool:=Ct (l.getD i default)&&(decide (i=0)||decide (ltP (l.getD (i - 1) default) (l.getD i default)))
theorem SL(h:Ct (l.getD i default)=false):Es l i=false:=by unfold Es;rw[h];rfl
theorem Qf(h:Ct (l.getD 0 default)=true):Es l 0=true:=by unfold Es;rw[h];rfl
theorem Qg(h:Ct (l.getD i default)=true)(hi:i≠0):Es l i=decide (ltP (l.getD (i - 1) default) (l.getD i default)):=by
 unfold Es;rw[h,decide_eq_false hi];rfl
theorem SM(a:Option Addr)(cap:Nat)(es:List EM)(l:List Ent)(i:Nat)(PB:Nat)(w:World)(hi:i<l.length)(hl:l.length<=9223372036854775807)(hP:w.cell? ⟨PB,0,none⟩=some (.slice a l.length cap))(ha:BD w a es)(hr:ERs w es l)(hwf:∀x∈l,wfE x):
 Calls Tryz.prog 182 #[.int .i64 i,(es.getD i default).val,.pointer (some ⟨PB,0,none⟩)] w fun e w'=>e= .returned (.bool (Es l i))/\Bwz w w':=by
 have hmem:l.getD i default∈l:=by simp[gDe,hi]
 have KE:Hid (∀w1,Bwz w w1->CTz 183 #[(es.getD i default).val] w1 fun r w'=>r= .returned (.bool (Ct (l.getD i default)))/\Bwz w1 w'):=fun w1 hb=>FN _ _ w1 ((hr.2 i hi).below hb) (hwf _ hmem)
 have lP:PB<w.heap.size:=bLt _ _ hP
 obtain⟨n,hn⟩:=nM l.length
 rw[hn]at hP hl hi
 have HL:Hid (l.length=n):=hn
 have HR:Hid (BD w a es/\ERs w es l):=⟨ha,hr⟩
 obtain⟨e,he⟩:=nM (es.getD i default)
 have HEE:Hid (es.getD i default=e):=he
 rw[he]at KE⊢
 clear hn ha hr hwf hmem he
 obtain⟨R,hR⟩:=nM (Es l i)
 have HRR:Hid (Es l i=R):=hR
 rw[hR]
 clear hR
 cases hf:Ct (l.getD i default)with
 |false=>
  have HE:Hid (false=R):=by show _=_;rw[<-HRR.out,SL hf]
  rw[hf]at KE
  obtain⟨k1,t1,s1,⟨a1,b1,c1⟩,m1⟩:=e
  unfold EM.val hdV at KE⊢
  dsimp only at KE⊢
  have hb0:Bwz w (w.alloc (.cells #[.string k1,.int .i64 t1,.int .i64 s1,.slice a1 b1 c1,.bool m1] 63)):=bR.alloc nR _
  go_enter func182,ntmps182
  go_wp2
  refine wp_region_held_drew (S:=(fun w'=>w'.cell? ⟨w.heap.size,0,none⟩=some (.string k1)/\w'.cell? ⟨w.heap.size,1,none⟩=some (.int .i64 t1)/\w'.cell? ⟨w.heap.size,2,none⟩=some (.int .i64 s1)/\w'.cell? ⟨w.heap.size,3,none⟩=some (.slice a1 b1 c1)/\w'.cell? ⟨w.heap.size,4,none⟩=some (.bool m1))) (by kernel_rfl) ⟨by go_simp,by go_simp,by go_simp,by go_simp,by go_simp⟩ (fun hHz=>?_)
  refine tkz 0 6 hHz ?_
  refine wpAnyH_ready (rs:=[1]) (by kernel_rfl) (by simp) ?_
  refine AllReadyH.cons rfl (fun K hK=>?_) AllReadyH.nil
  go_simp
  refine(KE.out _ hb0.drew).mono ?_
  rintro e w2 ⟨rfl,hb2⟩
  go_wp2_with fail
  refine hK.out _ _ ⟨cLz hb2 hHz.1,cLz hb2 hHz.2.1,cLz hb2 hHz.2.2.1,cLz hb2 hHz.2.2.2.1,cLz hb2 hHz.2.2.2.2⟩ (fun hHz=>?_)
  clear hK K
  try simp only[Act.put,sI,sZ,sSz]
  refine tkz 2 8 hHz ?_;refine sk 3 9 hHz ?_;refine sk 4 10 hHz ?_;refine sk 5 11 hHz ?_;refine sk 6 12 hHz ?_;refine sk 7 13 hHz ?_;refine sk 8 14 hHz ?_;refine sk 9 15 hHz ?_;refine sk 10 16 hHz ?_;refine sk 11 17 hHz ?_;refine sk 12 18 hHz ?_;refine sk 13 19 hHz ?_;refine sk 14 20 hHz ?_;refine tkz 15 21 hHz ?_;refine tkz 16 5 hHz ?_
  refine wpAnyH_done (by kernel_rfl) ?_ _
  go_wp2
  go_ret
  exact⟨Aa HE.out,hb0.drew.trans (hb2.mono hb0.drew.size)⟩
 |true=>
  rw[hf]at KE
  by_cases h0:i=0
  ·subst h0
   have HE:Hid (true=R):=by show _=_;rw[<-HRR.out,Qf hf]
   obtain⟨k1,t1,s1,⟨a1,b1,c1⟩,m1⟩:=e
   unfold EM.val hdV at KE⊢
   dsimp only at KE⊢
   have hb0:Bwz w (w.alloc (.cells #[.string k1,.int .i64 t1,.int .i64 s1,.slice a1 b1 c1,.bool m1] 63)):=bR.alloc nR _
   go_enter func182,ntmps182
   go_wp2
   refine wp_region_held_drew (S:=(fun w'=>w'.cell? ⟨w.heap.size,0,none⟩=some (.string k1)/\w'.cell? ⟨w.heap.size,1,none⟩=some (.int .i64 t1)/\w'.cell? ⟨w.heap.size,2,none⟩=some (.int .i64 s1)/\w'.cell? ⟨w.heap.size,3,none⟩=some (.slice a1 b1 c1)/\w'.cell? ⟨w.heap.size,4,none⟩=some (.bool m1))) (by kernel_rfl) ⟨by go_simp,by go_simp,by go_simp,by go_simp,by go_simp⟩ (fun hHz=>?_)
   refine tkz 0 6 hHz ?_
   refine wpAnyH_ready (rs:=[1]) (by kernel_rfl) (by simp) ?_
   refine AllReadyH.cons rfl (fun K hK=>?_) AllReadyH.nil
   go_simp
   refine(KE.out _ hb0.drew).mono ?_
   rintro e w2 ⟨rfl,hb2⟩
   go_wp2_with fail
   refine hK.out _ _ ⟨cLz hb2 hHz.1,cLz hb2 hHz.2.1,cLz hb2 hHz.2.2.1,cLz hb2 hHz.2.2.2.1,cLz hb2 hHz.2.2.2.2⟩ (fun hHz=>?_)
   clear hK K
   try simp only[Act.put,sI,sZ,sSz]
   refine tkz 2 8 hHz ?_;refine tkz 3 9 hHz ?_;refine tkz 4 10 hHz ?_;refine tkz 5 11 hHz ?_;refine sk 6 12 hHz ?_;refine sk 7 13 hHz ?_;refine sk 8 14 hHz ?_;refine sk 9 15 hHz ?_;refine sk 10 16 hHz ?_;refine sk 11 17 hHz ?_;refine sk 12 18 hHz ?_;refine sk 13 19 hHz ?_;refine tkz 14 20 hHz ?_;refine tkz 15 21 hHz ?_;refine tkz 16 5 hHz ?_
   refine wpAnyH_done (by kernel_rfl) ?_ _
   go_wp2
   go_ret
   exact⟨Aa HE.out,hb0.drew.trans (hb2.mono hb0.drew.size)⟩
  ·obtain⟨b,o,ea,x1,x2,x3,x4,x5⟩:=HR.out.1 (i - 1) (by rw[HR.out.2.1,HL.out];omega)
   have KP:Hid (∀w1,CTz 116 #[(es.getD (i - 1) default).val,e.val] w1 fun r w'=>r= .returned (.int .i64 (DG (l.getD (i - 1) default) (l.getD i default)))/\Bwz w1 w'):=fun w1=>by
    have h1:=HR.out.2.2 (i - 1) (by rw[HL.out];omega)
    have h2:=HR.out.2.2 i (by rw[HL.out];omega)
    rw[HEE.out]at h2
    have:=Om (es.getD (i - 1) default) e w1
    rwa[Hx h1 h2]at this
   have hcm:decide (DG (l.getD (i - 1) default) (l.getD i default)<0)=R:=by
    rw[<-HRR.out,Qg hf h0];exact decide_eq_decide.2 Fm
   obtain⟨C,hC⟩:=nM (DG (l.getD (i - 1) default) (l.getD i default))
   rw[hC]at KP hcm
   subst ea
   obtain⟨⟨k2,t2,s2,⟨a2,b2,c2⟩,m2⟩,hz⟩:∃z,es.getD (i - 1) default=z:=⟨_,rfl⟩
   rw[hz]at x1 x2 x3 x4 x5 KP
   obtain⟨j,hj⟩:∃j,i=j+1:=⟨i - 1,by omega⟩
   subst hj
   have hjj:j+1 - 1=j:=by omega
   rw[hjj]at x1 x2 x3 x4 x5
   obtain⟨k1,t1,s1,⟨a1,b1,c1⟩,m1⟩:=e
   unfold EM.val hdV at KE KP⊢
   unfold hdV at x4
   dsimp only at KE KP x1 x2 x3 x4 x5⊢
   have HCM:Hid (decide (C<0)=R):=hcm
   obtain⟨I,hI⟩:∃I:Int,((j+1:Nat):Int)=I:=⟨_,rfl⟩
   have hwr:IntKind.i64.wrap (I - 1)=(j:Int):=by rw[<-hI,IntKind.wrap_i64];omega
   have hz0:(I==0)=false:=by rw[<-hI];simp;omega
   rw[hI]
   have i1:(0:Int)<=(j:Int):=by omega
   have i2:(j:Int)<(n:Int):=by omega
   have lb:b<w.heap.size:=bLt _ _ x1
   clear hz hC hcm h0 hjj hI
   have hb0:Bwz w (w.alloc (.cells #[.string k1,.int .i64 t1,.int .i64 s1,.slice a1 b1 c1,.bool m1] 63)):=bR.alloc nR _
   go_enter func182,ntmps182
   go_wp2
   have b0:(w.alloc (.cells #[.string k1,.int .i64 t1,.int .i64 s1,.slice a1 b1 c1,.bool m1] 63)).cell? ⟨w.heap.size,0,none⟩=some (.string k1):=by go_simp
   have b1':(w.alloc (.cells #[.string k1,.int .i64 t1,.int .i64 s1,.slice a1 b1 c1,.bool m1] 63)).cell? ⟨w.heap.size,1,none⟩=some (.int .i64 t1):=by go_simp
   have b2':(w.alloc (.cells #[.string k1,.int .i64 t1,.int .i64 s1,.slice a1 b1 c1,.bool m1] 63)).cell? ⟨w.heap.size,2,none⟩=some (.int .i64 s1):=by go_simp
   have b3':(w.alloc (.cells #[.string k1,.int .i64 t1,.int .i64 s1,.slice a1 b1 c1,.bool m1] 63)).cell? ⟨w.heap.size,3,none⟩=some (.slice a1 b1 c1):=by go_simp
   have b4':(w.alloc (.cells #[.string k1,.int .i64 t1,.int .i64 s1,.slice a1 b1 c1,.bool m1] 63)).cell? ⟨w.heap.size,4,none⟩=some (.bool m1):=by go_simp
   have p0:=cLz hb0 hP
   have y1:=cLz hb0 x1
   have y2:=cLz hb0 x2
   have y3:=cLz hb0 x3
   have y4:=cLz hb0 x4
   have y5:=cLz hb0 x5
   generalize w.alloc (.cells #[.string k1,.int .i64 t1,.int .i64 s1,.slice a1 b1 c1,.bool m1] 63)=V at *
   go_region_held3 (fun w'=>w'.cell? ⟨w.heap.size,0,none⟩=some (.string k1)/\w'.cell? ⟨w.heap.size,1,none⟩=some (.int .i64 t1)/\w'.cell? ⟨w.heap.size,2,none⟩=some (.int .i64 s1)/\w'.cell? ⟨w.heap.size,3,none⟩=some (.slice a1 b1 c1)/\w'.cell? ⟨w.heap.size,4,none⟩=some (.bool m1)/\w'.cell? ⟨PB,0,none⟩=some (.slice (some ⟨b,o,none⟩) n cap)/\w'.cell? ⟨b,o+j * 5,none⟩=some (.string k2)/\w'.cell? ⟨b,o+j * 5+1,none⟩=some (.int .i64 t2)/\w'.cell? ⟨b,o+j * 5+1+1,none⟩=some (.int .i64 s2)/\w'.cell? ⟨b,o+j * 5+1+1+1,none⟩=some (.slice a2 b2 c2)/\w'.cell? ⟨b,o+j * 5+1+1+1+1,none⟩=some (.bool m2))
    (first|go_keep|exact⟨cLz hbA b0,cLz hbA b1',cLz hbA b2',cLz hbA b3',cLz hbA b4',cLz hbA p0,cLz hbA y1,cLz hbA y2,cLz hbA y3,cLz hbA y4,cLz hbA y5⟩|exact⟨cLz hbF b0,cLz hbF b1',cLz hbF b2',cLz hbF b3',cLz hbF b4',cLz hbF p0,cLz hbF y1,cLz hbF y2,cLz hbF y3,cLz hbF y4,cLz hbF y5⟩)
    (first
     |(go_at_call 183;refine(KE.out V.drew hb0.drew).mono ?_;rintro e wA ⟨rfl,hbA0⟩;have hbA:Bwz V wA:=bR.drew.trans hbA0)
     |(go_at_call 116;refine(KP.out wA).mono ?_;rintro e wF ⟨rfl,hbF0⟩;have hbF:Bwz V wF:=hbA.trans (hbF0.mono hbA.size)))
   all_goals
    go_wp2
    go_ret
    exact⟨Aa HCM.out,hb0.trans (hbF.mono hb0.size)⟩
end bf
end Go.Proofs.YtdohnkkbkfhphaaGreat
