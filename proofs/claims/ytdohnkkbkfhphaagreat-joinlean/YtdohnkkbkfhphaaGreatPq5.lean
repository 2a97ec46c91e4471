import Derived.Test.YtdohnkkbkfhphaaGreatPq4
set_option linter.all false
set_option maxHeartbeats 4000000
set_option maxRecDepth 100000
namespace Go.Proofs.YtdohnkkbkfhphaaGreat
open Go.Proofs.Tryz
namespace bf
open Go.ChangeShapes Go.WideShapes Go.ChangeAt Go.RowKit
open vl
variable {w w' : World} {i : Nat}
structure Ent where
 key:ByteArray
 time:Int
 seq:Int
 row:List Cel
 met:Bool
deriving DecidableEq
instance:Inhabited Ent:=⟨⟨⟨#[]⟩,0,0,[],false⟩⟩
structure ER(w:World)(e:EM)(x:Ent):Prop where
 key:e.key=x.key
 time:e.time=x.time
 seq:e.seq=x.seq
 met:e.met=x.met
 len:e.row.2.1=x.row.length
 row:vl.rowAt w e.row.1 x.row
theorem ER.below{e:EM}{x:Ent}(h:ER w e x)(hb:Bwz w w'):ER w' e x:=⟨h.key,h.time,h.seq,h.met,h.len,vl.Ac h.row hb⟩
def ERs(w:World)(es:List EM)(l:List Ent):Prop:=es.length=l.length/\∀i,i<l.length->ER w (es.getD i default) (l.getD i default)
theorem ERs.below{es:List EM}{l:List Ent}(h:ERs w es l)(hb:Bwz w w'):ERs w' es l:=⟨h.1,fun i hi=>(h.2 i hi).below hb⟩
theorem PY(w:World):ERs w [] []:=⟨rfl,fun i hi=>absurd hi (Nat.not_lt_zero i)⟩
theorem AN{α:Type}{l m:List α}{d:α}(h:i<l.length):(l++m).getD i d=l.getD i d:=by
 simp[gDe,List.getElem?_append_left h]
theorem AA{α:Type}{l m:List α}{d:α}(h:l.length<=i):(l++m).getD i d=m.getD (i - l.length) d:=by
 simp[gDe,List.getElem?_append_right h]
theorem UN{es es':List EM}{l l':List Ent}(h:ERs w es l)(h':ERs w es' l'):ERs w (es++es') (l++l'):=by
 refine⟨by rw[lAp,lAp,h.1,h'.1],fun i hi=>?_⟩
 rw[lAp]at hi
 by_cases hl:i<l.length
 ·rw[AN (by rw[h.1];exact hl),AN hl];exact h.2 i hl
 ·rw[AA (by rw[h.1];omega),AA (by omega),h.1];exact h'.2 _ (by omega)
def bl(b:ByteArray):List UInt8:=b.data.toList
theorem Md{a b:ByteArray}(h:bl a=bl b):a=b:=ByteArray.ext (Array.ext' h)
def ltP(a b:Ent):Prop:=bl a.key<bl b.key\/(a.key=b.key/\(a.time<b.time\/(a.time=b.time/\a.seq<b.seq)))
instance(a b:Ent):Decidable (ltP a b):=by unfold ltP;exact inferInstance
def CF(a b:Ent):Prop:=a.key=b.key/\a.time=b.time/\a.seq=b.seq
instance(a b:Ent):Decidable (CF a b):=by unfold CF;exact inferInstance
def Dj(a b:Ent):Int:=if ltP a b then -1 else if CF a b then 0 else 1
theorem Eo:∀(a b:List UInt8),Op.bytesLess a b=decide (a<b)
 |[],[]=>by simp[Op.bytesLess]
 |_::_,[]=>by simp[Op.bytesLess]
 |[],_::_=>by simp[Op.bytesLess]
 |a::x,b::y=>by
  rw[Op.bytesLess,Eo x y]
  simp only[List.cons_lt_cons_iff]
  by_cases h1:a<b<;>by_cases h2:a=b<;>by_cases h3:x<y<;>simp[h1,h2,h3]
theorem IQ(a b:List UInt8):Lib.compareBytes a b=if a<b then -1 else if a=b then 0 else 1:=by
 rw[Hc,Eo]
 by_cases h1:a<b<;>by_cases h2:a=b<;>simp[h1,h2]
theorem DU(a:List UInt8):¬a<a:=List.lt_irrefl a
theorem Lq{a b c:List UInt8}(h1:a<b)(h2:b<c):a<c:=List.lt_trans h1 h2
theorem lt_tri(a b:List UInt8):a<b\/a=b\/b<a:=by
 by_cases h1:a<b
 ·exact .inl h1
 ·by_cases h2:b<a
  ·exact .inr (.inr h2)
  ·exact .inr (.inl (List.le_antisymm (List.not_lt.1 h2) (List.not_lt.1 h1)))
theorem BH(a:Ent):¬ltP a a:=by
 unfold ltP
 rintro (h|⟨_,h|⟨_,h⟩⟩)
 ·exact DU _ h
 ·omega
 ·omega
theorem B4{a b c:Ent}(h1:ltP a b)(h2:ltP b c):ltP a c:=by
 unfold ltP at *
 rcases h1 with h1|⟨e1,h1⟩
 ·rcases h2 with h2|⟨e2,h2⟩
  ·exact .inl (Lq h1 h2)
  ·rw[<-e2];exact .inl h1
 ·rcases h2 with h2|⟨e2,h2⟩
  ·rw[e1];exact .inl h2
  ·exact .inr ⟨e1.trans e2,by omega⟩
theorem ltP_tri(a b:Ent):ltP a b\/CF a b\/ltP b a:=by
 unfold ltP CF
 rcases lt_tri (bl a.key) (bl b.key)with h|h|h
 ·exact .inl (.inl h)
 ·have e:=Md h
  by_cases h1:a.time<b.time
  ·exact .inl (.inr ⟨e,.inl h1⟩)
  ·by_cases h2:b.time<a.time
   ·exact .inr (.inr (.inr ⟨e.symm,.inl h2⟩))
   ·have e2:a.time=b.time:=by omega
    by_cases h3:a.seq<b.seq
    ·exact .inl (.inr ⟨e,.inr ⟨e2,h3⟩⟩)
    ·by_cases h4:b.seq<a.seq
     ·exact .inr (.inr (.inr ⟨e.symm,.inr ⟨e2.symm,h4⟩⟩))
     ·exact .inr (.inl ⟨e,e2,by omega⟩)
 ·exact .inr (.inr (.inl h))
theorem DV{a b:Ent}(h:CF a b):CF b a:=⟨h.1.symm,h.2.1.symm,h.2.2.symm⟩
theorem J9{a b c:Ent}(h:ltP a b)(k:CF b c):ltP a c:=by
 unfold ltP at *;rw[<-k.1,<-k.2.1,<-k.2.2];exact h
theorem Tj{a b c:Ent}(h:CF a b)(k:ltP b c):ltP a c:=by
 unfold ltP at *;rw[h.1,h.2.1,h.2.2];exact k
theorem Fw{a b:Ent}(h:ltP a b):¬CF a b:=fun k=>BH _ (J9 h (DV k))
theorem Ns{a b:Ent}:Dj a b<0↔ltP a b:=by
 unfold Dj
 by_cases h:ltP a b
 ·simp[h]
 ·by_cases h2:CF a b<;>simp[h,h2]
theorem Rg{a b:Ent}:Dj a b=0↔CF a b:=by
 unfold Dj
 by_cases h:ltP a b
 ·simp[h,Fw h]
 ·by_cases h2:CF a b<;>simp[h,h2]
theorem Gt(a b:Ent):A8 [Lib.compareBytes (bl a.key) (bl b.key),Cd a.time b.time,Cd a.seq b.seq]=Dj a b:=by
 have e1:=IQ (bl a.key) (bl b.key)
 rw[e1]
 unfold A8 A8 A8 A8 Cd Dj
 unfold ltP CF
 rcases lt_tri (bl a.key) (bl b.key)with h|h|h
 ·simp[h]
 ·have e:=Md h
  simp only[h,DU,if_false,if_true,e,false_or,true_and]
  by_cases h1:a.time<b.time
  ·simp[h1]
  ·by_cases h2:b.time<a.time
   ·have h3:¬a.time=b.time:=by omega
    simp[h1,h2,h3]
   ·have e2:a.time=b.time:=by omega
    simp only[e2,Int.lt_irrefl,if_false,false_or,true_and]
    by_cases h3:a.seq<b.seq
    ·simp[h3]
    ·by_cases h4:b.seq<a.seq
     ·have h5:¬a.seq=b.seq:=by omega
      simp[h3,h4,h5]
     ·have e3:a.seq=b.seq:=by omega
      simp[e3]
 ·have h1:¬bl a.key<bl b.key:=fun k=>DU _ (Lq k h)
  have h2:¬bl a.key=bl b.key:=fun k=>by rw[k]at h;exact DU _ h
  have h3:¬a.key=b.key:=fun k=>h2 (by rw[k])
  simp[h1,h2,h3]
def Br(n a b:Int):Bool:=decide (a<=n/\n<=b)
theorem Bw(n a b:Int):Br n a b=true↔(a<=n/\n<=b):=by simp[Br]
theorem El(n a b:Int):Br n a b=false↔ ¬(a<=n/\n<=b):=by unfold Br;exact decide_eq_false_iff_not
theorem Fx(n:Int)(w:World):
 Calls Tryz.prog 65 #[.int .i64 n] w fun e w'=>e= .returned (.bool (Br n 1 64))/\w'=w:=by
 by_cases h1:1<=n
 ·by_cases h2:n<=64
  ·rw[(Bw n 1 64).2 ⟨h1,h2⟩]
   go_enter func65,ntmps65
   go_wp2
   go_ret
   exact⟨rfl,rfl⟩
  ·rw[(El n 1 64).2 (by omega)]
   go_enter func65,ntmps65
   go_wp2
   go_ret
   exact⟨rfl,rfl⟩
 ·rw[(El n 1 64).2 (by omega)]
  go_enter func65,ntmps65
  go_wp2
  go_ret
  exact⟨rfl,rfl⟩
theorem Wp(b:Nat)(zs:List Int)(w:World)(hl:zs.length<=100)
 (hc:∀i,i<zs.length->w.cell? ⟨b,i,none⟩=some (.int .i64 (zs[i]?.getD 0))):
 Calls Tryz.prog 164 #[.slice (some ⟨b,0,none⟩) zs.length zs.length] w fun e w'=>e= .returned (.int .i64 (A8 zs))/\w'=w:=by
 go_enter func164,ntmps164
 go_wp2
 go_loop [8] (fun i=> ∃k:Nat,k<=zs.length/\i= .int .i64 k/\∀i,i<k->zs[i]?.getD 0=0) (fun i=>zs.length - (intOf i).toNat)
 case atStart=>exact⟨0,Nat.zero_le _,rfl,fun i hi=>absurd hi (Nat.not_lt_zero i)⟩
 case round=>
  obtain⟨k,hk,rfl,hall⟩:=hrel
  have HA:Hid (∀i,i<k->zs[i]?.getD 0=0):=hall
  clear hall
  by_cases hlt:k<zs.length
  ·have hcell:=hc k hlt
   obtain⟨z,hz0⟩:=nM (zs[k]?.getD 0)
   rw[hz0]at hcell
   have HZ:Hid (zs[k]?.getD 0=z):=hz0
   clear hc hz0
   by_cases hf:(z==0)=true
   ·have hf2:z=0:=by simpa using hf
    have HF:Hid (z=0):=hf2
    clear hf2
    go_wp2
    go_round
    case rel=>exact⟨k+1,by omega,by go_num,fun i hi=>by
     rcases Nat.lt_succ_iff_lt_or_eq.1 hi with h|h
     ·exact HA.out i h
     ·rw[h,HZ.out];exact HF.out⟩
    case measure=>simp[intOf];omega
   ·have hf':(z==0)=false:=by simpa using hf
    have hne:Hid (A8 zs=z):=by
     show A8 zs=z
     rw[Jv zs k HA.out hlt (by rw[HZ.out];simpa using hf)];exact HZ.out
    go_wp2
    go_ret
    exact⟨Ao (by rw[hne.out]),rfl⟩
  ·have hz:Hid (A8 zs=0):=by
    show A8 zs=0
    rw[EX zs k HA.out,List.drop_of_length_le (by omega)];rfl
   go_wp2
   go_ret
   exact⟨Ao (by rw[hz.out]),rfl⟩
theorem or3(b:Nat)(x y z:Int)(w:World)(h0:w.cell? ⟨b,0,none⟩=some (.int .i64 x))(h1:w.cell? ⟨b,1,none⟩=some (.int .i64 y))(h2:w.cell? ⟨b,2,none⟩=some (.int .i64 z)):
 Calls Tryz.prog 164 #[.slice (some ⟨b,0,none⟩) 3 3] w fun e w'=>e= .returned (.int .i64 (A8 [x,y,z]))/\w'=w:=
 Wp b [x,y,z] w (by simp) (fun i hi=>by
  match i,hi with
  |0,_=>exact h0
  |1,_=>exact h1
  |2,_=>exact h2)
def EM.ent(e:EM):Ent:=⟨e.key,e.time,e.seq,[],e.met⟩
theorem Tk{e f:EM}{x y:Ent}(h:ER w e x)(k:ER w f y):Dj e.ent f.ent=Dj x y:=by
 unfold Dj ltP CF EM.ent
 simp only[h.key,h.time,h.seq,k.key,k.time,k.seq]
attribute [local go_sem ↓] Go.wp_at_zero Go.wp_at_succ
theorem Nt(e f:EM)(w:World):
 Calls Tryz.prog 116 #[e.val,f.val] w fun r w'=>r= .returned (.int .i64 (Dj e.ent f.ent))/\Bwz w w':=by
 have HC:Hid (A8 [Lib.compareBytes e.key.data.toList f.key.data.toList,Cd e.time f.time,Cd e.seq f.seq]=Dj e.ent f.ent):=Gt e.ent f.ent
 obtain⟨k1,t1,s1,⟨a1,b1,c1⟩,m1⟩:=e
 obtain⟨k2,t2,s2,⟨a2,b2,c2⟩,m2⟩:=f
 rw[<-HC.out]
 clear HC
 unfold EM.val hdV
 dsimp only
 go_enter func116,ntmps116
 go_wp2
 go_region_held3 (fun w'=>w'.cell? ⟨w.heap.size,0,none⟩=some (.string k1)/\w'.cell? ⟨w.heap.size,1,none⟩=some (.int .i64 t1)/\w'.cell? ⟨w.heap.size,2,none⟩=some (.int .i64 s1)/\w'.cell? ⟨w.heap.size+1,0,none⟩=some (.string k2)/\w'.cell? ⟨w.heap.size+1,1,none⟩=some (.int .i64 t2)/\w'.cell? ⟨w.heap.size+1,2,none⟩=some (.int .i64 s2)) (go_keep)
  (first
   |(go_at_call 166;refine(Gq _ _ _).mono ?_;rintro e w' ⟨rfl,rfl⟩)
   |(go_at_call 165;refine(Gp _ _ _).mono ?_;rintro e w' ⟨rfl,rfl⟩)
   |(go_at_call 164;refine(or3 _ (Lib.compareBytes k1.data.toList k2.data.toList) (Cd t1 t2) (Cd s1 s2) _ ?_ ?_ ?_).mono ?_;(go_simp);(go_simp);(go_simp);rintro e w' ⟨rfl,rfl⟩))
 all_goals
  go_wp2
  go_ret
  refine⟨rfl,?_⟩
  repeat (first|exact bR|apply Below.drew|(refine Below.alloc ?_ (by simp<;>omega) _))
theorem Fy(e:EM)(w:World):
 Calls Tryz.prog 186 #[e.val] w fun r w'=>r= .returned (.agg #[.string e.key,.int .i64 e.time,.int .i64 e.seq])/\Bwz w w':=by
 obtain⟨k1,t1,s1,⟨a1,b1,c1⟩,m1⟩:=e
 unfold EM.val hdV
 dsimp only
 go_enter func186,ntmps186
 go_wp2
 refine bodyPost_ret (v:=.agg #[.string k1,.int .i64 t1,.int .i64 s1]) (by simp[results,results186,go_sem]) rfl ⟨rfl,?_⟩
 repeat (first|exact bR|apply Below.drew|(refine Below.setCell ?_ (by simp) _)|(refine Below.alloc ?_ (by simp<;>omega) _))
def isKey(k:ByteArray):Prop:=∃r,rowOk r/\encR r=k.data.toList
structure wfE(x:Ent):Prop where
 key:x.key.size<=maxLen
 row:Co x.row
 len:x.row.length<=9223372036854775807
def DJ(x:Ent):Prop:=isKey x.key/\AE x.row=0/\tm.AP x.time=true/\0<=x.seq/\x.seq<=1099511627776
noncomputable def Ep(x:Ent):Bool:=@decide (DJ x) (Classical.propDecidable _)
theorem FQ{x:Ent}(h:DJ x):Ep x=true:=by unfold Ep;exact @decide_eq_true _ (Classical.propDecidable _) h
theorem Nu{x:Ent}(h:¬DJ x):Ep x=false:=by unfold Ep;exact @decide_eq_false _ (Classical.propDecidable _) h
theorem Lr{x:Ent}:Ep x=true↔DJ x:=by
 by_cases h:DJ x
 ·simp[FQ h,h]
 ·simp[Nu h,h]
theorem Wq{k:ByteArray}(h:¬isKey k):Nm k.data.toList:=fun r hr e=>h ⟨r,hr,e⟩
theorem Fz(e:EM)(x:Ent)(w:World)(h:ER w e x)(hw:wfE x):
 Calls Tryz.prog 183 #[e.val] w fun r w'=>r= .returned (.bool (Ep x))/\Bwz w w':=by
 obtain⟨k1,t1,s1,⟨a1,b1,c1⟩,m1⟩:=e
 obtain⟨h1,h2,h3,h4,h5,h6⟩:=h
 obtain⟨xk,xt,xs,xr,xm⟩:=x
 obtain⟨w1,w2,w3⟩:=hw
 dsimp only at h1 h2 h3 h4 h5 h6 w1 w2 w3
 subst h1 h2 h3 h4 h5
 obtain⟨R,hR⟩:=nM (Ep ⟨k1,t1,s1,xr,m1⟩)
 have HRt:Hid (DJ ⟨k1,t1,s1,xr,m1⟩->true=R):=fun h=>by rw[<-hR,FQ h]
 have HRf:Hid (¬DJ ⟨k1,t1,s1,xr,m1⟩->false=R):=fun h=>by rw[<-hR,Nu h]
 have KK:=hIz (fun(w1:World) (hb:Bwz w w1)=>IU a1 c1 xr w1 (vl.Ac h6 hb) w2 w3)
 rw[hR]
 obtain⟨ke,hke⟩:=nM (AE xr)
 obtain⟨ks,hks⟩:=nM (Eb xr)
 rw[hke,hks]at KK
 have HKE:Hid (AE xr=ke):=hke
 obtain⟨n,hn⟩:=nM xr.length
 rw[hn]at KK
 unfold EM.val hdV
 dsimp only
 rw[hn]
 clear hR hke hks hn h6 w2 w3
 have hb0:Bwz w (w.alloc (.cells #[.string k1,.int .i64 t1,.int .i64 s1,.slice a1 n c1,.bool m1] 63)):=bR.alloc nR _
 by_cases hk:isKey k1
 ·obtain⟨r0,hr0,hk0⟩:=hk
  have KB:Hid (∀w1,Calls Tryz.prog 179 #[.string k1] w1 fun e w'=>(∃ad cap,e= .returned (.tuple #[.slice ad r0.length cap,.int .i64 0]))/\Bwz w1 w'):=fun w1'=>(Np k1 r0 w1' w1 hr0 hk0).mono (fun e w' ⟨⟨ad,cap,he,_⟩,hb⟩=>⟨⟨ad,cap,he⟩,hb⟩)
  have HK:Hid (isKey k1):=⟨r0,hr0,hk0⟩
  obtain⟨rl,hrl⟩:=nM r0.length
  rw[hrl]at KB
  clear hk0 hr0 hrl
  go_enter func183,ntmps183
  go_wp2_with fail
  refine(KB.out _).mono ?_
  rintro e wa ⟨⟨ad,cap,rfl⟩,hb1⟩
  have c0:wa.cell? ⟨w.heap.size,0,none⟩=some (.string k1):=by rw[hb1.cell (p:=⟨w.heap.size,0,none⟩) (by simp)];go_simp
  have c1':wa.cell? ⟨w.heap.size,1,none⟩=some (.int .i64 t1):=by rw[hb1.cell (p:=⟨w.heap.size,1,none⟩) (by simp)];go_simp
  have c2:wa.cell? ⟨w.heap.size,2,none⟩=some (.int .i64 s1):=by rw[hb1.cell (p:=⟨w.heap.size,2,none⟩) (by simp)];go_simp
  have c3:wa.cell? ⟨w.heap.size,3,none⟩=some (.slice a1 n c1):=by rw[hb1.cell (p:=⟨w.heap.size,3,none⟩) (by simp)];go_simp
  have hbw:=hb0.trans (hb1.mono hb0.size)
  clear hb1
  go_wp2_with fail
  refine(KK.out _ hbw).mono ?_
  rintro e wb ⟨rfl,hb2⟩
  have d1:=cLz hb2 c1'
  have d2:=cLz hb2 c2
  have hbx:=hbw.trans (hb2.mono hbw.size)
  clear hb2 c0 c1' c2 c3
  by_cases h0:ke=0
  ·subst h0
   have KF:=hIz (fun(w1:World)=>tm.Ca t1 w1)
   cases hf:tm.AP t1 with
   |false=>
    have HE:Hid (false=R):=HRf.out (fun h=>by have:=h.2.2.1;rw[hf]at this;cases this)
    rw[hf]at KF
    go_wp2_with (go_at_call 88;refine(KF.out _).mono ?_;rintro e w' ⟨rfl,hww⟩;subst hww)
    go_ret
    exact⟨Aa HE.out,hbx⟩
   |true=>
    rw[hf]at KF
    by_cases s0:0<=s1
    ·by_cases s2:s1<=1099511627776
     ·have HE:Hid (true=R):=HRt.out ⟨HK.out,HKE.out,hf,s0,s2⟩
      go_wp2_with (go_at_call 88;refine(KF.out _).mono ?_;rintro e w' ⟨rfl,hww⟩;subst hww)
      go_ret
      exact⟨Aa HE.out,hbx⟩
     ·have HE:Hid (false=R):=HRf.out (fun h=>s2 h.2.2.2.2)
      go_wp2_with (go_at_call 88;refine(KF.out _).mono ?_;rintro e w' ⟨rfl,hww⟩;subst hww)
      go_ret
      exact⟨Aa (by rw[<-HE.out];exact decide_eq_false (by omega)),hbx⟩
    ·have HE:Hid (false=R):=HRf.out (fun h=>s0 h.2.2.2.1)
     go_wp2_with (go_at_call 88;refine(KF.out _).mono ?_;rintro e w' ⟨rfl,hww⟩;subst hww)
     go_ret
     exact⟨Aa HE.out,hbx⟩
  ·have hb':(ke==0)=false:=by simpa using h0
   have HE:Hid (false=R):=HRf.out (fun h=>h0 (by rw[<-HKE.out];exact h.2.1))
   go_wp2
   go_ret
   exact⟨Aa HE.out,hbx⟩
 ·have KB:Hid (∀w1,Calls Tryz.prog 179 #[.string k1] w1 fun e w'=>e= .returned (.tuple #[.slice none 0 0,.int .i64 1])/\Bwz w1 w'):=fun w1'=>UF k1 w1' w1 (Wq hk)
  have HE:Hid (false=R):=HRf.out (fun h=>hk h.1)
  clear hk
  go_enter func183,ntmps183
  go_wp2_with fail
  refine(KB.out _).mono ?_
  rintro e wa ⟨rfl,hb1⟩
  have c3:wa.cell? ⟨w.heap.size,3,none⟩=some (.slice a1 n c1):=by rw[hb1.cell (p:=⟨w.heap.size,3,none⟩) (by simp)];go_simp
  have hbw:=hb0.trans (hb1.mono hb0.size)
  clear hb1
  go_wp2_with fail
  refine(KK.out _ hbw).mono ?_
  rintro e wb ⟨rfl,hb2⟩
  have hbx:=hbw.trans (hb2.mono hbw.size)
  go_wp2
  go_ret
  exact⟨Aa HE.out,hbx⟩
end bf
namespace bf
open Go.ChangeShapes Go.WideShapes Go.ChangeAt Go.RowKit Go.Shelf
open vl
attribute [local go_sem] Oper.semAt_some
variable {W w w' : World} {B n : Nat}
structure Buf where
 lim:Int
 mem:List Ent
 runs:List (List Ent)
structure BX where
 ra:Option Addr
 rc:Nat
 m:Part
 rs:List Part
def AQ(b:Buf)(x:BX):Value:=.agg #[.int .i64 b.lim,hdV x.m.1,.slice x.ra x.rs.length x.rc]
structure bufAt(w:World)(b:Buf)(x:BX):Prop where
 hds:Hb w x.ra (x.rs.map (·.1))
 len:∀p∈x.m::x.rs,p.1.2.1=p.2.length/\p.2.length<=9223372036854775807
 ems:∀p∈x.m::x.rs,Do w p.1.1 p.2
 few:x.rs.length<=9223372036854775807
 mem:ERs w x.m.2 b.mem
 rlen:x.rs.length=b.runs.length
 runs:∀i,i<b.runs.length->ERs w (x.rs.getD i default).2 (b.runs.getD i default)
theorem F0{a:Option Addr}{l:List Hdr}(h:Hb w a l)(hb:Bwz w w'):Hb w' a l:=fun i hi=>by
 obtain⟨b,o,e,x⟩:=h i hi
 exact⟨b,o,e,cLz hb x⟩
theorem Ak{b:Buf}{x:BX}(h:bufAt w b x)(hb:Bwz w w'):bufAt w' b x:=
 ⟨F0 h.hds hb,h.len,fun p hp=>BO (h.ems p hp) hb,h.few,h.mem.below hb,h.rlen,fun i hi=>(h.runs i hi).below hb⟩
def partsB(b:Buf):List (List Ent):=b.mem::b.runs
def Ab(b:Buf):List Ent:=(partsB b).flatten
theorem Nv{w:World}:∀{p:List Part} {l:List (List Ent)},p.length=l.length->(∀i,i<l.length->ERs w (p.getD i default).2 (l.getD i default))->ERs w (ems p) l.flatten
 |[],[],_,_=>PY w
 |[],_::_,h,_=>by cases h
 |_::_,[],h,_=>by cases h
 |p::ps,x::xs,h,k=>by
  have h1:=k 0 (by simp)
  have h2:=Nv (p:=ps) (l:=xs) (by simpa using h) (fun i hi=>by have:=k (i+1) (by simpa using hi);simpa using this)
  exact UN (by simpa using h1) h2
theorem CR{b:Buf}{x:BX}(h:bufAt w b x):ERs w (ems (x.m::x.rs)) (Ab b):=
 Nv (by simp[partsB,h.rlen]) (fun i hi=>by
  cases i with
  |zero=>exact h.mem
  |succ i=>
   have hi':i<b.runs.length:=by simpa[partsB]using hi
   simpa[partsB]using h.runs i hi')
theorem Wr{b:Buf}{x:BX}(h:bufAt w b x)(h0:w.cell? ⟨B,0,none⟩=some (.int .i64 b.lim))(h1:w.cell? ⟨B,1,none⟩=some (hdV x.m.1))(h2:w.cell? ⟨B,2,none⟩=some (.slice x.ra x.rs.length x.rc)):boxAt w B b.lim x.ra x.rc x.m x.rs:=
 ⟨h0,h1,h2,h.hds,h.len,h.ems,h.few⟩
theorem Cj{W':World}{row:Option Nat}(h:Below n w W)(hn:n<=w.heap.size)(hB:n<=B)(hg:W.grownBy W' row)(hr:∀r,row=some r->B<=r/\∃x:Obj,W.heap[r]? =some x/\x.isCells=false):Below n w W':=
 h.grown hg (Nat.le_trans hn h.size) (fun r e=>Nat.le_trans hB (hr r e).1)
theorem BQ{D:Nat}{o:Obj}(h:Below n w W)(hn:n<=D)(hD:W.heap[D]? =some o)(o':Obj):Below n w (W.putObj D o'):=
 h.trans ⟨rfl,rfl,rfl,by simp,fun k hk=>World.putObj_heap_other (by omega)⟩
def ON(B:Nat):Nat->Obj->Prop:=fun b _=>b≠B
theorem Ls{b:Nat}(h:b≠B):names (ON B) W b:=fun _ _=>h
theorem UO(W:World)(o:Nat)(v:Value):Aj (ON B) W (W.setCell ⟨B,o,none⟩ v):=fun b x h1 _ h3=>(heap_setCell_other W ⟨B,o,none⟩ b v h3).trans h1
theorem Gu{V:World}{b:Buf}{x:BX}(h:bufAt w b x)(hb:Bwz w V)(BP:Nat)(Pr:Nat->Obj->Prop)(h1:V.cell? ⟨BP,1,none⟩=some (hdV x.m.1))(h2:V.cell? ⟨BP,2,none⟩=some (.slice x.ra x.rs.length x.rc))(hS:names Pr V BP)(hS2:∀a,0<x.rs.length->x.ra=some a->names Pr V a.block):
 SD Tryz.prog 180 #[.pointer (some ⟨BP,0,none⟩)] ((x.m::x.rs).map fun p=>#[hdV p.1]) (Aj Pr) V:=by
 have hl:(x.rs.map (·.1)).length=x.rs.length:=lMp ..
 have:=Js BP 0 x.m.1 x.ra x.rc (x.rs.map (·.1)) Pr V (by rw[hl];exact h.few) h1 (by rw[hl];exact h2) (F0 h.hds hb) hS (fun a h0 ha=>hS2 a (by rw[hl]at h0;exact h0) ha)
 rw[show((x.m::x.rs).map fun p=>#[hdV p.1])=((x.m.1::x.rs.map (·.1)).map fun h=>#[hdV h]) by simp]
 exact this
theorem VH{b:Buf}{x:BX}(h:bufAt w b x){a:Addr}(h0:0<x.rs.length)(ha:x.ra=some a):a.block<w.heap.size:=by
 obtain⟨b',o,e,y⟩:=h.hds 0 (by simpa using h0)
 rw[ha]at e;cases e
 exact bLt _ _ y
theorem UP(p:List Part)(i:Nat):DZ p i<=(ems p).length:=by
 have h:ems p=ems (p.take i)++ems (p.drop i):=by rw[<-LP,List.take_append_drop]
 unfold DZ
 rw[h,lAp];omega
theorem JA(b:Buf)(x:BX)(w:World)(h:bufAt w b x)(hs:(Ab b).length<=4611686018427387904):
 Calls Tryz.prog 135 #[AQ b x] w fun e w'=>e= .returned (.int .i64 (Ab b).length)/\Bwz w w':=by
 have HB:Hid (bufAt w b x):=h
 obtain⟨N,hN⟩:=nM ((Ab b).length)
 have HEN:Hid (DZ (x.m::x.rs) (x.m::x.rs).length=N):=by show _=_;rw[Jt,(CR h).1,hN]
 rw[hN]at hs⊢
 clear hN h
 obtain⟨ra,rc,⟨⟨m1,m2,m3⟩,ml⟩,rs⟩:=x
 obtain⟨lim,mem,runs⟩:=b
 unfold AQ hdV
 dsimp only at HEN⊢
 obtain⟨n,hn⟩:∃n,rs.length=n:=⟨_,rfl⟩
 have HN:Hid (rs.length=n):=hn
 rw[hn]
 clear hn
 refine(callsIn_wide (n:=0)).1 ?_
 refine callsIn_of_wp_marks func135 rfl trivial ?_ rfl
 simp only[ntmps135,List.size_toArray,List.length_cons,List.length_nil,Nat.reduceAdd,Nat.reduceSub,Array.replicate_succ,Array.replicate_zero,List.push_toArray,List.append_toArray,List.nil_append,List.cons_append]
 gi_wp2_with (refine⟨trivial,rfl,?_⟩;gi_at_call 136;refine(callsIn_wide.2 (FK _ _ _ rfl rfl rfl _)).mono ?_;rintro e w' ⟨rfl,rfl⟩)
 have V0:((((w.alloc (.cells #[.int .i64 lim,.slice m1 m2 m3,.slice ra n rc] 29)).alloc (.cells #[.int .i64 0] 3)).alloc (.cells #[.int .i64 lim,.slice m1 m2 m3,.slice ra n rc] 29))).cell? ⟨w.heap.size+1,0,none⟩=some (.int .i64 0):=by go_simp
 have V1:((((w.alloc (.cells #[.int .i64 lim,.slice m1 m2 m3,.slice ra n rc] 29)).alloc (.cells #[.int .i64 0] 3)).alloc (.cells #[.int .i64 lim,.slice m1 m2 m3,.slice ra n rc] 29))).frozen? ⟨w.heap.size+1,0,none⟩=false:=by go_simp
 have V2:((((w.alloc (.cells #[.int .i64 lim,.slice m1 m2 m3,.slice ra n rc] 29)).alloc (.cells #[.int .i64 0] 3)).alloc (.cells #[.int .i64 lim,.slice m1 m2 m3,.slice ra n rc] 29))).cell? ⟨w.heap.size+1+1,1,none⟩=some (.slice m1 m2 m3):=by go_simp
 have V3:((((w.alloc (.cells #[.int .i64 lim,.slice m1 m2 m3,.slice ra n rc] 29)).alloc (.cells #[.int .i64 0] 3)).alloc (.cells #[.int .i64 lim,.slice m1 m2 m3,.slice ra n rc] 29))).cell? ⟨w.heap.size+1+1,2,none⟩=some (.slice ra n rc):=by go_simp
 have V4:Bwz w ((((w.alloc (.cells #[.int .i64 lim,.slice m1 m2 m3,.slice ra n rc] 29)).alloc (.cells #[.int .i64 0] 3)).alloc (.cells #[.int .i64 lim,.slice m1 m2 m3,.slice ra n rc] 29))):=by
  repeat (first|exact bR|(refine Below.alloc ?_ (by simp<;>omega) _))
 have V5:((((w.alloc (.cells #[.int .i64 lim,.slice m1 m2 m3,.slice ra n rc] 29)).alloc (.cells #[.int .i64 0] 3)).alloc (.cells #[.int .i64 lim,.slice m1 m2 m3,.slice ra n rc] 29))).heap.size=w.heap.size+1+1+1:=by simp
 generalize ((((w.alloc (.cells #[.int .i64 lim,.slice m1 m2 m3,.slice ra n rc] 29)).alloc (.cells #[.int .i64 0] 3)).alloc (.cells #[.int .i64 lim,.slice m1 m2 m3,.slice ra n rc] 29)))=V at *
 have hit:=Gu HB.out V4 (w.heap.size+1+1) (ON (w.heap.size+1)) V2 (by rw[HN.out];exact V3) (Ls (by omega)) (fun a h0 ha=>Ls (by have:=VH HB.out h0 ha;omega))
 obtain⟨P,hP⟩:∃z:List Part,(((m1,m2,m3),ml)::rs)=z:=⟨_,rfl⟩
 dsimp only at hit
 rw[hP]at hit HEN
 have HPM:Hid (∀p∈P,p.1.2.1=p.2.length/\p.2.length<=9223372036854775807):=fun p hp=>HB.out.len p (by rw[<-hP]at hp;exact hp)
 clear hP
 refine Cq (gf:=180) (lb:=#[.pointer (some ⟨w.heap.size+1+1,0,none⟩)]) rfl (enters_of func180 (by kernel_rfl) rfl) hit bR (fun x hx=>by obtain⟨p,_,rfl⟩:=List.mem_map.1 hx;rfl) (fun h k=>Aj.trans h k) (fun W l o o' _ h ho=>Aj.put W l o o' h ho)
  (fun i X=>X.cell? ⟨w.heap.size+1,0,none⟩=some (.int .i64 (DZ P i))/\X.frozen? ⟨w.heap.size+1,0,none⟩=false/\Bwz w X) (fun c X=>False)
  (fun i X X' row hs hg hr=>⟨cell_kept hs.1 hg (fun r e=>(hr r e).2),(frozen_kept hs.1 hg (fun r e=>(hr r e).2)).trans hs.2.1,Cj hs.2.2 nR (by omega) hg hr⟩)
  (fun c X X' row hs hg hr=>hs)
  ⟨V0,V1,V4⟩
  (fun i a' X=>a'={tmps:=#[.agg #[.int .i64 lim,.slice m1 m2 m3,.slice ra n rc],.pointer (some ⟨w.heap.size,0,none⟩),.int .i64 0,.pointer (some ⟨w.heap.size+1,0,none⟩),hdV (P.getD i default).1,.agg #[.int .i64 lim,.slice m1 m2 m3,.slice ra n rc],.func (.func 180) #[] #[.pointer (some ⟨w.heap.size+1+1,0,none⟩)],hdV (P.getD i default).1,undef,undef,undef,undef,undef],defers:=[]})
  (fun i a' u X X' row hs hg hr=>hs) ?assign ?body ?done ?stop
 case assign=>
  intro l' k x X K hx hi hK
  obtain⟨hk,hxe⟩:=List.getElem?_eq_some_iff.1 hx
  rw[lMp]at hk
  rw[List.getElem_map]at hxe
  subst hxe
  have hd:P.getD k default=P[k]:=by rw[gDe,gEe hk];rfl
  have hK2:=fun W' h1 h2 h3=>hK _ W' h1 h2 h3 rfl
  rw[hd]at hK2
  clear hK hd hx
  obtain⟨⟨⟨z1,z2,z3⟩,zl⟩,hz⟩:∃z,P[k]=z:=⟨_,rfl⟩
  rw[hz]at hK2⊢
  unfold hdV at hK2⊢
  dsimp only at hK2⊢
  gi_wp2
  exact hK2 X (KeepsFrom.refl _ _) (Aj.refl _ _) hi
 case body=>
  intro l' i x a' X hx hl' hrec hIi hax
  obtain⟨i1,i2,i3⟩:=hIi
  obtain⟨hi,hxe⟩:=List.getElem?_eq_some_iff.1 hx
  rw[lMp]at hi
  have hd:P.getD i default=P[i]:=by rw[gDe,gEe hi];rfl
  rw[hd]at hax
  subst hax
  have hpm:=HPM.out P[i] (List.getElem_mem hi)
  have hnx:DZ P (i+1)=DZ P i+(P[i]).2.length:=Lh hi
  have hle:DZ P (i+1)<=N:=by have:=UP P (i+1);rw[Jt]at HEN;have h2:=HEN.out;omega
  clear hx hxe hd
  obtain⟨⟨⟨z1,z2,z3⟩,zl⟩,hz⟩:∃z,P[i]=z:=⟨_,rfl⟩
  rw[hz]at hpm hnx⊢
  dsimp only at hpm hnx⊢
  obtain⟨hz2,hzl⟩:=hpm
  subst hz2
  obtain⟨q,hq⟩:∃q,zl.length=q:=⟨_,rfl⟩
  rw[hq]at hnx hzl
  unfold hdV
  dsimp only
  rw[hq]
  obtain⟨O,hO⟩:∃O,DZ P i=O:=⟨_,rfl⟩
  obtain⟨O2,hO2⟩:∃O,DZ P (i+1)=O:=⟨_,rfl⟩
  rw[hO]at i1 hnx
  rw[hO2]at hnx hle
  have HO2:Hid (DZ P (i+1)=O2/\O2=O+q):=⟨hO2,hnx⟩
  clear hO hO2 hq
  have hwr:IntKind.i64.wrap ((O:Int)+(q:Int))=(O:Int)+(q:Int):=by rw[IntKind.wrap_i64];omega
  gi_wp2
  refine⟨(KeepsOthers.setCell _ _ _).from _,UO _ _ _,?_,by simpa using i2,i3.setCell (by simp) _⟩
  rw[HO2.out.1,HO2.out.2]
  have:=World.cell?_setCell_same X ⟨w.heap.size+1,0,none⟩ (.int .i64 ((O:Int)+(q:Int))) i1
  rw[Int.natCast_add];exact this
 case done=>
  rintro D X hD ⟨i1,i2,i3⟩ hK
  rw[lMp,HEN.out]at i1
  gi_wp2
  refine⟨by simp,.inl ⟨_,_,rfl,run_takeDeferred hK,?_⟩⟩
  exact⟨_,results_tmp rfl _ _ _,rfl,BQ i3 (by omega) hK _⟩
 case stop=>
  rintro D c X hD h hK
  exact h.elim
end bf
end Go.Proofs.YtdohnkkbkfhphaaGreat
