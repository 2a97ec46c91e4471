import Derived.Test.YtdohnkkbkfhphaaGreatPc1
import Derived.Lib.BufferRead
import Derived.Lib.IndexBytes
set_option linter.all false
set_option maxHeartbeats 2000000
set_option maxRecDepth 100000
namespace Go.Proofs.YtdohnkkbkfhphaaGreat
open Go.Proofs.Tryz
namespace vl
open Go.ChangeShapes Go.WideShapes Go.ChangeAt Go.RowKit
variable {w : World} {base : Nat} {v : Value} {l : List UInt8}
def Cb(c:Cel):List UInt8:=
 if c.k=0 then [0]else if c.k=1 then [1,UInt8.ofNat c.n.toNat]else if c.k=2 then 2::be8 (c.n+9223372036854775808).toNat 8 else 3::(AZ c.s.data.toList++[0,1])
def Cel.ok(c:Cel):Prop:=chk c.k c.n c.s=0
theorem Ej{k n:Int}{s:ByteArray}(h:chk k n s=0):
 s.size<=64/\((k=0/\n=0/\s.size=0)\/(k=1/\n=0/\s.size=0)\/(k=1/\n=1/\s.size=0)\/(k=2/\s.size=0)\/(k=3/\n=0)):=by
 unfold chk at h
 split at h
 ·omega
 ·split at h
  ·omega
  ·split at h
   ·omega
   ·omega
theorem BQ(h:ownB w base v l)(o:Obj):ownB (w.alloc o) base v l:=World.ownsRow.alloc h o
theorem BS{w1:World}(ho:ownB w base v l){o1 o2:Obj}(hg:((w.alloc o1).alloc o2).grownBy w1 v.ownBlock)(j:Nat){x:Value}
 (hc:(w.alloc o1).cell? ⟨w.heap.size,j,none⟩=some x):w1.cell? ⟨w.heap.size,j,none⟩=some x:=by
 refine hg.cell ?_ ?_
 ·rw[World.cell?_alloc_lt]
  ·exact hc
  ·simp
 ·intro h
  have:=(World.ownsRow.lt ho w.heap.size h.symm).2
  omega
theorem Kt(base:Nat)(v:Value)(l:List UInt8)(k n:Int)(s:ByteArray)(w:World)(hb:base<=w.heap.size)(ho:ownB w base v l)(hl:l.length<=900000)
 (n1: -9223372036854775808<=n) (n2:n<=9223372036854775807) (hc:chk k n s=0):
 Calls Tryz.prog 158 #[v,.agg #[.int .i64 k,.int .i64 n,.string s]] w fun e w'=> ∃v',e= .returned v'/\ownB w' base v' (l++Cb ⟨k,n,s⟩)/\Below base w w':=by
 obtain⟨hs,hk⟩:=Ej hc
 clear hc
 rcases hk with⟨rfl,rfl,hs0⟩|⟨rfl,rfl,hs0⟩|⟨rfl,rfl,hs0⟩|⟨rfl,hs0⟩|⟨rfl,rfl⟩
 ·go_enter func158,ntmps158
  go_wp2_with (at_builtin;refine Bp rfl (.tmp 5) (.tmp 9) rfl base v l rfl _ (BQ ho _) _ 0 rfl (w.heap.size+1) (by simp) rfl (by omega) (by simp;omega) ?_;intro v1 w1 hown1 hgrow1;have g0:=BS (x:=.int .i64 0) ho hgrow1 0 (by go_simp);have g1:=BS (x:=.int .i64 0) ho hgrow1 1 (by go_simp);have g2:=BS (x:=.string s) ho hgrow1 2 (by go_simp);have hbl:=A5 ((Below.refl base w).alloc hb _) (by simp;omega) (BQ ho _) hgrow1;have hb1:base<=w1.heap.size:=Nat.le_trans hb hbl.size;clear hgrow1)
  go_ret
  exact⟨_,rfl,hown1,hbl⟩
 ·go_enter func158,ntmps158
  go_wp2_with (first
   |(at_builtin;refine Bp rfl (.tmp 5) (.tmp 9) rfl base v l rfl _ (BQ ho _) _ 1 rfl (w.heap.size+1) (by simp) rfl (by omega) (by simp;omega) ?_;intro v1 w1 hown1 hgrow1;have g0:=BS (x:=.int .i64 1) ho hgrow1 0 (by go_simp);have g1:=BS (x:=.int .i64 0) ho hgrow1 1 (by go_simp);have g2:=BS (x:=.string s) ho hgrow1 2 (by go_simp);have hbl:=A5 ((Below.refl base w).alloc hb _) (by simp;omega) (BQ ho _) hgrow1;have hb1:base<=w1.heap.size:=Nat.le_trans hb hbl.size;clear hgrow1)
   |(at_builtin;refine Bp rfl (.tmp 15) (.tmp 19) rfl base v1 (l++[1]) rfl _ hown1 _ 0 rfl w1.heap.size rfl rfl (by simp;omega) hb1 ?_;intro v2 w2 hown2 hgrow2))
  go_ret
  exact⟨_,rfl,by simpa[Cb,List.append_assoc]using hown2,A5 hbl hb1 hown1 hgrow2⟩
 ·go_enter func158,ntmps158
  go_wp2_with (first
   |(at_builtin;refine Bp rfl (.tmp 5) (.tmp 9) rfl base v l rfl _ (BQ ho _) _ 1 rfl (w.heap.size+1) (by simp) rfl (by omega) (by simp;omega) ?_;intro v1 w1 hown1 hgrow1;have g0:=BS (x:=.int .i64 1) ho hgrow1 0 (by go_simp);have g1:=BS (x:=.int .i64 1) ho hgrow1 1 (by go_simp);have g2:=BS (x:=.string s) ho hgrow1 2 (by go_simp);have hbl:=A5 ((Below.refl base w).alloc hb _) (by simp;omega) (BQ ho _) hgrow1;have hb1:base<=w1.heap.size:=Nat.le_trans hb hbl.size;clear hgrow1)
   |(at_builtin;refine Bp rfl (.tmp 15) (.tmp 19) rfl base v1 (l++[1]) rfl _ hown1 _ 1 rfl w1.heap.size rfl rfl (by simp;omega) hb1 ?_;intro v2 w2 hown2 hgrow2))
  go_ret
  exact⟨_,rfl,by simpa[Cb,List.append_assoc]using hown2,A5 hbl hb1 hown1 hgrow2⟩
 ·go_enter func158,ntmps158
  go_wp2_with (first
   |(at_builtin;refine Bp rfl (.tmp 5) (.tmp 9) rfl base v l rfl _ (BQ ho _) _ 2 rfl (w.heap.size+1) (by simp) rfl (by omega) (by simp;omega) ?_;intro v1 w1 hown1 hgrow1;have g0:=BS (x:=.int .i64 2) ho hgrow1 0 (by go_simp);have g1:=BS (x:=.int .i64 n) ho hgrow1 1 (by go_simp);have g2:=BS (x:=.string s) ho hgrow1 2 (by go_simp);have hbl:=A5 ((Below.refl base w).alloc hb _) (by simp;omega) (BQ ho _) hgrow1;have hb1:base<=w1.heap.size:=Nat.le_trans hb hbl.size;clear hgrow1)
   |(go_at_call 193;refine(Mb base v1 (l++[2]) n w1 hb1 hown1 (by simp;omega) n1 n2).mono ?_;rintro e w2 ⟨v2,rfl,hown2,hb2⟩))
  go_ret
  exact⟨_,rfl,by simpa[Cb,List.append_assoc]using hown2,hbl.trans hb2⟩
 ·go_enter func158,ntmps158
  go_wp2_with (first
   |(at_builtin;refine Bp rfl (.tmp 5) (.tmp 9) rfl base v l rfl _ (BQ ho _) _ 3 rfl (w.heap.size+1) (by simp) rfl (by omega) (by simp;omega) ?_;intro v1 w1 hown1 hgrow1;have g0:=BS (x:=.int .i64 3) ho hgrow1 0 (by go_simp);have g1:=BS (x:=.int .i64 0) ho hgrow1 1 (by go_simp);have g2:=BS (x:=.string s) ho hgrow1 2 (by go_simp);have hbl:=A5 ((Below.refl base w).alloc hb _) (by simp;omega) (BQ ho _) hgrow1;have hb1:base<=w1.heap.size:=Nat.le_trans hb hbl.size;clear hgrow1)
   |(go_at_call 194;refine(L8 base v1 (l++[3]) s w1 hb1 hown1 (by simp;omega) hs).mono ?_;rintro e w2 ⟨v2,rfl,hown2,hb2⟩))
  go_ret
  exact⟨_,rfl,by simpa[Cb,List.append_assoc]using hown2,hbl.trans hb2⟩
def encR(r:List Cel):List UInt8:=r.flatMap Cb
def DN:List Cel->Int
 |[]=>0
 |c::r=>if chk c.k c.n c.s=0 then DN r else chk c.k c.n c.s
def Au(r:List Cel):Int:=if 8<r.length then 2 else DN r
theorem Mz(r:List Cel)(k:Nat)(h:∀i,i<k->((r.getD i default).ok)):DN r=DN (r.drop k):=by
 induction k generalizing r with
 |zero=>rfl
 |succ k ih=>
  match r with
  |[]=>rfl
  |c::r=>
   have h0:chk c.k c.n c.s=0:=h 0 (by omega)
   rw[DN,if_pos h0,List.drop_succ_cons]
   exact ih r (fun i hi=>h (i+1) (by omega))
theorem Oq(c:Cel)(h:c.ok):(Cb c).length<=131:=by
 have hs:=(Ej h).1
 unfold Cb
 split
 ·simp
 ·split
  ·simp
  ·split
   ·simp[DC]
   ·have:=L7 c.s.data.toList
    simp only[List.length_cons,lAp,List.length_nil]
    have e:c.s.data.toList.length=c.s.size:=Array.length_toList
    omega
theorem FQ(r:List Cel)(h:∀c∈r,c.ok):(encR r).length<=131 * r.length:=by
 induction r with
 |nil=>simp[encR]
 |cons c r ih=>
  have e:encR (c::r)=Cb c++encR r:=rfl
  have h1:=Oq c (h c (List.mem_cons_self ..))
  have h2:=ih (fun x hx=>h x (List.mem_cons_of_mem _ hx))
  rw[e,lAp,List.length_cons];omega
theorem IK(r:List Cel)(c:Cel):encR (r++[c])=encR r++Cb c:=by
 unfold encR;rw[List.flatMap_append];simp
theorem IL(r:List Cel)(k:Nat)(h:k<r.length):r.take (k+1)=r.take k++[r.getD k default]:=by
 rw[List.take_succ_eq_append_getElem h];simp[gDe,h]
theorem Ku(h:ownB w base v l):(convert 204 9 v).run Tryz.prog w= .ok (.string ⟨l.toArray⟩) w:=by
 rcases h.2 with⟨rfl,h0⟩|⟨g,cap,cur,rfl,hb,hg,hn,hm,hs,ht⟩
 ·have:l=[]:=List.eq_nil_of_length_eq_zero h0
  subst this
  exact Lib.run_convert_nil_bytes w 204 9 5 0 underlying204 underlying5 underlying9
 ·refine run_convert_bytes_back w 204 9 5 ⟨g,0,none⟩ cap l underlying204 underlying5 underlying9 ?_
  refine Lib.bytes_of_row hg ?_
  rw[Nat.mul_one]at ht
  rw[ht]
  simp[Lib.byteCells,Fl]
theorem Qi{w':World}(h:ownB w base v l)(hb:Bwz w w'):ownB w' base v l:=by
 refine⟨h.1,?_⟩
 rcases h.2 with h0|⟨g,cap,cur,hv,h1,hg,h2⟩
 ·exact .inl h0
 ·have hlt:g<w.heap.size:=by
   rcases Nat.lt_or_ge g w.heap.size with hlt|hge
   ·exact hlt
   ·rw[Array.getElem?_eq_none hge]at hg;cases hg
  exact .inr ⟨g,cap,cur,hv,h1,by rw[hb.block g hlt];exact hg,h2⟩
def BE(r:List Cel):Prop:=∀c∈r,(-9223372036854775808<=c.n/\c.n<=9223372036854775807)/\c.s.size<=maxLen
theorem UI{r:List Cel}(h:BE r)(k:Nat)(hk:k<r.length):(-9223372036854775808<=(r.getD k default).n/\(r.getD k default).n<=9223372036854775807)/\(r.getD k default).s.size<=maxLen:=
 h _ (by simp[gDe,hk])
theorem Nb(r:List Cel)(k:Nat)(hk:k<r.length)(h:∀i,i<k->((r.getD i default).ok))(hne:¬(r.getD k default).ok):DN r=chk (r.getD k default).k (r.getD k default).n (r.getD k default).s:=by
 rw[Mz r k h,Em r k hk,DN]
 exact if_neg hne
theorem Kv(r:List Cel)(k:Nat)(hk:r.length<=k)(h:∀i,i<k->((r.getD i default).ok)):DN r=0:=by
 rw[Mz r k h,List.drop_of_length_le hk];rfl
theorem IM{r:List Cel}(h:DN r=0):∀c∈r,c.ok:=by
 induction r with
 |nil=>intro c hc;cases hc
 |cons a r ih=>
  rw[DN]at h
  split at h
  ·rename_i h0
   intro c hc
   rcases List.mem_cons.1 hc with rfl|hc
   ·exact h0
   ·exact ih h c hc
  ·rename_i h0;exact absurd h h0
theorem Xa(r:List Cel)(k:Nat)(hk:k<=r.length)(h:∀i,i<k->((r.getD i default).ok)):∀c∈r.take k,c.ok:=by
 intro c hc
 obtain⟨i,hi,rfl⟩:=List.getElem_of_mem hc
 rw[List.length_take]at hi
 have:=h i (by omega)
 rw[List.getElem_take]
 simpa[gDe,show i<r.length by omega]using this
def E9(r:List Cel):ByteArray:=⟨(if Au r=0 then encR r else []).toArray⟩
theorem Y4{x y:ByteArray}{a b:Int}(h1:x=y)(h2:a=b):Ending.returned (.tuple #[.string x,.int .i64 a])= .returned (.tuple #[.string y,.int .i64 b]):=by rw[h1,h2]
theorem JB(a:Option Addr)(cap:Nat)(r:List Cel)(w:World)(hr:rowAt w a r)(hwf:BE r)(hl:r.length<=9223372036854775807):
 Calls Tryz.prog 109 #[.slice a r.length cap] w fun e w'=>e= .returned (.tuple #[.string (E9 r),.int .i64 (Au r)])/\Bwz w w':=by
 obtain⟨n,hn⟩:∃n,r.length=n:=⟨_,rfl⟩
 have HN:Hid (r.length=n):=hn
 rw[hn]at hl⊢
 clear hn
 by_cases h8:8<n
 ·have HK:Hid (Au r=2):=by
   show Au r=2
   unfold Au;rw[if_pos (by rw[HN.out];exact h8)]
  go_enter func109,ntmps109
  go_wp2
  go_ret2
  exact⟨Y4 (by unfold E9;rw[HK.out];rfl) HK.out.symm,bR⟩
 ·have HK:Hid (Au r=DN r):=by
   show Au r=DN r
   unfold Au;rw[if_neg (by rw[HN.out];exact h8)]
  go_enter func109,ntmps109
  go_wp2
  go_loopw [4,13] (fun v i wr=> ∃k:Nat,k<=n/\i= .int .i64 k/\ownB wr w.heap.size v (encR (r.take k))/\Bwz w wr/\(∀i,i<k->((r.getD i default).ok))) (fun _ i _=>n - (intOf i).toNat)
  case atStart=>exact⟨0,by omega,rfl,World.ownsRow_nil _ _ _ _,bR,fun i hi=>absurd hi (Nat.not_lt_zero i)⟩
  case round=>
   obtain⟨k,hk,rfl,hown,hnx,hall⟩:=hrel
   have HA:Hid (∀i,i<k->((r.getD i default).ok)):=hall
   have HO:Hid (ownB wr w.heap.size u4 (encR (r.take k))):=hown
   have HL:Hid ((encR (r.take k)).length<=2000):=by
    have h1:=FQ (r.take k) (Xa r k (by rw[HN.out];exact hk) hall)
    have h2:(r.take k).length<=k:=List.length_take_le _ _
    show _<=2000
    omega
   clear hall hown
   by_cases hlt:k<n
   ·obtain⟨b1,o1,e1,x1,x2,x3⟩:=hr k (by rw[HN.out];exact hlt)
    subst e1
    have q1:=cLz hnx x1
    have q2:=cLz hnx x2
    have q3:=cLz hnx x3
    clear x1 x2 x3 hr
    have hw:=UI hwf k (by rw[HN.out];exact hlt)
    have HT:Hid (encR (r.take (k+1))=encR (r.take k)++Cb (r.getD k default)):=by
     show encR (r.take (k+1))=_
     rw[IL r k (by rw[HN.out];exact hlt),IK]
    obtain⟨⟨ka,na,sa⟩,hca⟩:∃c,r.getD k default=c:=⟨_,rfl⟩
    rw[hca]at q1 q2 q3 hw
    have HCA:Hid (r.getD k default=⟨ka,na,sa⟩):=hca
    clear hca
    obtain⟨⟨w1,w2⟩,w3⟩:=hw
    dsimp only at q1 q2 q3 w1 w2 w3
    have i1:(0:Int)<=(k:Int):=by omega
    have i2:(k:Int)<(n:Int):=by omega
    have j1:=bLt _ _ q1
    have hsz:=hnx.size
    by_cases hc:(chk ka na sa==0)=true
    ·have HC:Hid (chk ka na sa=0):=by
      show chk ka na sa=0
      simpa using hc
     go_wp2_with (first
      |(go_at_call 156;refine(Bn _ _ _ _ w3).mono ?_;rintro e wc ⟨rfl,hbc⟩;have hcc:=cLz hbc (a:=⟨wr.heap.size,0,none⟩) (v:=.int .i64 ka) (by go_simp);have hcn:=cLz hbc (a:=⟨wr.heap.size,1,none⟩) (v:=.int .i64 na) (by go_simp);have hcs:=cLz hbc (a:=⟨wr.heap.size,2,none⟩) (v:=.string sa) (by go_simp);have hoc:=Qi (BQ HO.out _) hbc;have hlow:=(hnx.alloc hsz _).trans (hbc.mono (by simp;omega)))
      |(go_at_call 158;refine(Kt w.heap.size u4 (encR (r.take k)) ka na sa wc hlow.size hoc (by have:=HL.out;omega) w1 w2 HC.out).mono ?_;rintro e w2 ⟨v2,rfl,hown2,hb2⟩))
     go_roundw
     case rel=>exact⟨k+1,by omega,by go_num,by rw[HT.out,HCA.out];exact hown2,hlow.trans hb2,fun i hi=>by
      rcases Nat.lt_succ_iff_lt_or_eq.1 hi with h|h
      ·exact HA.out i h
      ·rw[h,HCA.out];exact HC.out⟩
     case measure=>simp[intOf];omega
    ·have hc':(chk ka na sa==0)=false:=by simpa using hc
     have HC:Hid (Au r=chk ka na sa):=by
      show Au r=chk ka na sa
      rw[HK.out,Nb r k (by rw[HN.out];exact hlt) HA.out (by rw[HCA.out];intro h;exact hc (beq_iff_eq.2 h)),HCA.out]
     have HC0:Hid (¬chk ka na sa=0):=fun h=>hc (beq_iff_eq.2 h)
     go_wp2_with (go_at_call 156;refine(Bn _ _ _ _ w3).mono ?_;rintro e wc ⟨rfl,hbc⟩;have hlow:=(hnx.alloc hsz _).trans (hbc.mono (by simp;omega)))
     go_ret2
     exact⟨Y4 (by unfold E9;rw[if_neg (by rw[HC.out];exact HC0.out)]) HC.out.symm,hlow⟩
   ·have HC:Hid (Au r=0):=by
     show Au r=0
     rw[HK.out,Kv r k (by rw[HN.out];omega) HA.out]
    have HE:Hid (r.take k=r):=List.take_of_length_le (by rw[HN.out];omega)
    have hcv:=Ku HO.out
    go_wp2
    go_ret2
    exact⟨Y4 (by unfold E9;rw[if_pos HC.out,HE.out]) HC.out.symm,hnx⟩
theorem Cy(a:Option Addr)(cap:Nat)(r:List Cel)(w:World)(hr:rowAt w a r)(hwf:BE r)(hl:r.length<=9223372036854775807):
 Calls Tryz.prog 83 #[.slice a r.length cap] w fun e w'=>e= .returned (.int .i64 (Au r))/\Bwz w w':=by
 obtain⟨n,hn⟩:∃n,r.length=n:=⟨_,rfl⟩
 have HN:Hid (r.length=n):=hn
 rw[hn]at hl⊢
 clear hn
 by_cases h8:8<n
 ·have HK:Hid (Au r=2):=by
   show Au r=2
   unfold Au;rw[if_pos (by rw[HN.out];exact h8)]
  go_enter func83,ntmps83
  go_wp2
  go_ret
  exact⟨Ad HK.out.symm,bR⟩
 ·have HK:Hid (Au r=DN r):=by
   show Au r=DN r
   unfold Au;rw[if_neg (by rw[HN.out];exact h8)]
  go_enter func83,ntmps83
  go_wp2
  go_loopw [3] (fun i wr=> ∃k:Nat,k<=n/\i= .int .i64 k/\Bwz w wr/\(∀i,i<k->((r.getD i default).ok))) (fun i _=>n - (intOf i).toNat)
  case atStart=>exact⟨0,by omega,rfl,bR,fun i hi=>absurd hi (Nat.not_lt_zero i)⟩
  case round=>
   obtain⟨k,hk,rfl,hnx,hall⟩:=hrel
   have HA:Hid (∀i,i<k->((r.getD i default).ok)):=hall
   clear hall
   by_cases hlt:k<n
   ·obtain⟨b1,o1,e1,x1,x2,x3⟩:=hr k (by rw[HN.out];exact hlt)
    subst e1
    have q1:=cLz hnx x1
    have q2:=cLz hnx x2
    have q3:=cLz hnx x3
    clear x1 x2 x3 hr
    have hw:=UI hwf k (by rw[HN.out];exact hlt)
    obtain⟨⟨ka,na,sa⟩,hca⟩:∃c,r.getD k default=c:=⟨_,rfl⟩
    rw[hca]at q1 q2 q3 hw
    have HCA:Hid (r.getD k default=⟨ka,na,sa⟩):=hca
    clear hca
    obtain⟨⟨w1,w2⟩,w3⟩:=hw
    dsimp only at q1 q2 q3 w1 w2 w3
    have i1:(0:Int)<=(k:Int):=by omega
    have i2:(k:Int)<(n:Int):=by omega
    have hsz:=hnx.size
    by_cases hc:(chk ka na sa==0)=true
    ·have HC:Hid (chk ka na sa=0):=by
      show chk ka na sa=0
      simpa using hc
     go_wp2_with (go_at_call 141;refine(Et _ _ _ _ w3).mono ?_;rintro e wc ⟨rfl,hbc⟩)
     go_roundw
     case rel=>exact⟨k+1,by omega,by go_num,hnx.trans (hbc.mono hsz),fun i hi=>by
      rcases Nat.lt_succ_iff_lt_or_eq.1 hi with h|h
      ·exact HA.out i h
      ·rw[h,HCA.out];exact HC.out⟩
     case measure=>simp[intOf];omega
    ·have hc':(chk ka na sa==0)=false:=by simpa using hc
     have HC:Hid (Au r=chk ka na sa):=by
      show Au r=chk ka na sa
      rw[HK.out,Nb r k (by rw[HN.out];exact hlt) HA.out (by rw[HCA.out];intro h;exact hc (beq_iff_eq.2 h)),HCA.out]
     go_wp2_with (go_at_call 141;refine(Et _ _ _ _ w3).mono ?_;rintro e wc ⟨rfl,hbc⟩)
     go_ret
     exact⟨Ad HC.out.symm,hnx.trans (hbc.mono hsz)⟩
   ·have HC:Hid (Au r=0):=by
     show Au r=0
     rw[HK.out,Kv r k (by rw[HN.out];omega) HA.out]
    go_wp2
    go_ret
    exact⟨Ad HC.out.symm,hnx⟩
end vl
namespace vl
variable {s : ByteArray} {x y : List UInt8}
theorem Cc(b:UInt8)(x:List UInt8):AZ (b::x)=(if b=0 then [0,255]else [b])++AZ x:=rfl
theorem Kw(x t tail rest:List UInt8)(h:AZ x++tail=AZ t++0::1::rest):∃t2,t=x++t2/\tail=AZ t2++0::1::rest:=by
 induction x generalizing t with
 |nil=>exact⟨t,rfl,h⟩
 |cons b x ih=>
  rw[Cc]at h
  cases t with
  |nil=>
   by_cases hb:b=0
   ·rw[if_pos hb]at h
    simp[AZ]at h
   ·rw[if_neg hb]at h
    simp[AZ]at h
    exact absurd h.1 hb
  |cons c t=>
   rw[Cc]at h
   by_cases hb:b=0
   ·rw[if_pos hb]at h
    by_cases hc:c=0
    ·rw[if_pos hc]at h
     have h':AZ x++tail=AZ t++0::1::rest:=by simpa using h
     obtain⟨t2,e1,e2⟩:=ih t h'
     exact⟨t2,by rw[hb,hc,e1];rfl,e2⟩
    ·rw[if_neg hc]at h
     simp at h
     exact absurd h.1.symm hc
   ·rw[if_neg hb]at h
    by_cases hc:c=0
    ·rw[if_pos hc]at h
     simp at h
     exact absurd h.1 hb
    ·rw[if_neg hc]at h
     simp only[List.cons_append,List.nil_append,List.cons.injEq]at h
     obtain⟨t2,e1,e2⟩:=ih t h.2
     exact⟨t2,by rw[h.1,e1];rfl,e2⟩
def AX(l:List UInt8):Nat:=l.foldl (fun u b=>u * 256+b.toNat) 0
theorem Jk(n:Nat):(UInt8.ofNat n).toNat=n % 256:=UInt8.toNat_ofNat'
theorem Yd(u:Nat):be8 u 8=[CN u 0,CN u 1,CN u 2,CN u 3,CN u 4,CN u 5,CN u 6,CN u 7]:=rfl
theorem Gl(u:Nat)(h:u<18446744073709551616):AX (be8 u 8)=u:=by
 rw[Yd]
 simp only[AX,List.foldl_cons,List.foldl_nil,CN,Jk]
 simp only[Nat.reduceMul,Nat.reduceSub,Nat.reducePow,Nat.reduceAdd]
 omega
theorem Hy{a b:UInt8}(h:a.toNat=b.toNat):a=b:=UInt8.toNat_inj.1 h
theorem SQ(l:List UInt8)(h:l.length=8):be8 (AX l) 8=l:=by
 match l,h with
 |[b0,b1,b2,b3,b4,b5,b6,b7],_=>
  have h0:=b0.toNat_lt
  have h1:=b1.toNat_lt
  have h2:=b2.toNat_lt
  have h3:=b3.toNat_lt
  have h4:=b4.toNat_lt
  have h5:=b5.toNat_lt
  have h6:=b6.toNat_lt
  have h7:=b7.toNat_lt
  rw[Yd]
  simp only[List.cons.injEq,and_true]
  refine⟨?_,?_,?_,?_,?_,?_,?_,?_⟩<;>
   (apply Hy;simp only[AX,List.foldl_cons,List.foldl_nil,CN,Jk];simp only[Nat.reduceMul,Nat.reduceSub,Nat.reducePow,Nat.reduceAdd];omega)
theorem Hz(l:List UInt8)(h:l.length=8):AX l<18446744073709551616:=by
 match l,h with
 |[b0,b1,b2,b3,b4,b5,b6,b7],_=>
  have h0:=b0.toNat_lt
  have h1:=b1.toNat_lt
  have h2:=b2.toNat_lt
  have h3:=b3.toNat_lt
  have h4:=b4.toNat_lt
  have h5:=b5.toNat_lt
  have h6:=b6.toNat_lt
  have h7:=b7.toNat_lt
  simp only[AX,List.foldl_cons,List.foldl_nil]
  omega
def Cel.wf(c:Cel):Prop:=(-9223372036854775808<=c.n/\c.n<=9223372036854775807)/\c.s.size<=maxLen
theorem Ot(h:s.size=0):s=⟨#[]⟩:=ByteArray.ext (Array.eq_empty_of_size_eq_zero h)
theorem str_eq{t:ByteArray}(h:s.data.toList=t.data.toList):s=t:=ByteArray.ext (Array.ext' h)
theorem encC_cases{c:Cel}(h:c.ok):
 (c=⟨0,0,⟨#[]⟩⟩/\Cb c=[0])\/(c=⟨1,0,⟨#[]⟩⟩/\Cb c=[1,0])\/(c=⟨1,1,⟨#[]⟩⟩/\Cb c=[1,1])\/
 (∃n,c=⟨2,n,⟨#[]⟩⟩/\Cb c=2::be8 (n+9223372036854775808).toNat 8)\/(∃s,c=⟨3,0,s⟩/\s.size<=64/\Cb c=3::(AZ s.data.toList++[0,1])):=by
 obtain⟨k,n,s⟩:=c
 obtain⟨hs,hk⟩:=Ej h
 dsimp only at hs hk
 rcases hk with⟨rfl,rfl,h0⟩|⟨rfl,rfl,h0⟩|⟨rfl,rfl,h0⟩|⟨rfl,h0⟩|⟨rfl,rfl⟩
 ·rw[Ot h0];exact .inl ⟨rfl,rfl⟩
 ·rw[Ot h0];exact .inr (.inl ⟨rfl,rfl⟩)
 ·rw[Ot h0];exact .inr (.inr (.inl ⟨rfl,rfl⟩))
 ·rw[Ot h0];exact .inr (.inr (.inr (.inl ⟨n,rfl,rfl⟩)))
 ·exact .inr (.inr (.inr (.inr ⟨s,rfl,hs,rfl⟩)))
theorem Fu{c:Cel}(h:c.ok):Cb c≠[]:=by
 rcases encC_cases h with⟨_,e⟩|⟨_,e⟩|⟨_,e⟩|⟨n,_,e⟩|⟨s,_,_,e⟩<;>rw[e]<;>simp
theorem Kx{a b:List UInt8}(ha:a.length=b.length)(h:a++x=b++y):a=b/\x=y:=List.append_inj h ha
theorem H4{c d:Cel}(hc:c.ok)(hd:d.ok)(wc:c.wf)(wd:d.wf)(h:Cb c++x=Cb d++y):c=d/\x=y:=by
 rcases encC_cases hc with⟨rfl,e⟩|⟨rfl,e⟩|⟨rfl,e⟩|⟨n,rfl,e⟩|⟨s,rfl,hs,e⟩<;>
 rcases encC_cases hd with⟨rfl,e'⟩|⟨rfl,e'⟩|⟨rfl,e'⟩|⟨m,rfl,e'⟩|⟨t,rfl,ht,e'⟩<;>
 simp only[e,e',List.cons_append,List.nil_append,List.cons.injEq]at h
 all_goals try (exact⟨rfl,h.2⟩)
 all_goals try (exact⟨rfl,h.2.2⟩)
 all_goals try (exact absurd h.1 (by decide))
 all_goals try (exact absurd h.2.1 (by decide))
 ·obtain⟨h1,h2⟩:=Kx (by rw[DC,DC]) h.2
  have:=congrArg AX h1
  obtain⟨⟨n1,n2⟩,_⟩:=wc
  obtain⟨⟨m1,m2⟩,_⟩:=wd
  dsimp only at n1 n2 m1 m2
  rw[Gl _ (by omega),Gl _ (by omega)]at this
  have e:n=m:=by omega
  exact⟨by rw[e],h2⟩
 ·have h':AZ s.data.toList++0::1::x=AZ t.data.toList++0::1::y:=by simpa using h.2
  obtain⟨t2,e1,e2⟩:=Kw _ _ _ _ h'
  have:t2=[]:=by
   cases t2 with
   |nil=>rfl
   |cons b t2=>
    rw[Cc]at e2
    by_cases hb:b=0
    ·rw[if_pos hb]at e2;simp at e2
    ·rw[if_neg hb]at e2;simp at e2;exact absurd e2.1.symm hb
  subst this
  rw[List.append_nil]at e1
  have e3:x=y:=by simpa[AZ]using e2
  exact⟨by rw[str_eq e1],e3⟩
end vl
namespace vl
open Go.ChangeShapes Go.WideShapes Go.ChangeAt Go.RowKit
variable {l tail x : List UInt8}
theorem BU{w:World}{base:Nat}{v:Value}(h:ownB w base v l):∃ad cap,v= .slice ad l.length cap:=by
 rcases h.2 with⟨rfl,h0⟩|⟨g,cap,cur,rfl,_⟩
 ·exact⟨none,0,by rw[h0]⟩
 ·exact⟨_,_,rfl⟩
theorem Bl(s:ByteArray)(k:Nat)(h:k<s.size):s.data.toList.drop k=s[k]::s.data.toList.drop (k+1):=by
 rw[List.drop_eq_getElem_cons (by simpa using h)];rfl
theorem A4(s:ByteArray):s.data.toList.length=s.size:=Array.length_toList
def Eu(l:List UInt8):Prop:=∀t rest,t.length<=64->l≠AZ t++0::1::rest
theorem Gm(h:l=AZ x++tail)(hn:∀t2 rest,(x++t2).length<=64->tail≠AZ t2++0::1::rest):Eu l:=by
 intro t rest ht hl
 rw[h]at hl
 obtain⟨t2,e1,e2⟩:=Kw _ _ _ _ hl
 exact hn t2 rest (by rw[<-e1];exact ht) e2
theorem Y5(h:l=AZ x++[]):Eu l:=Gm h (fun t2 rest _ e=>by simp at e)
theorem R9(h:l=AZ x++tail)(hx:64<x.length):Eu l:=Gm h (fun t2 rest ht e=>by rw[lAp]at ht;omega)
theorem Xb(h:l=AZ x++[0]):Eu l:=Gm h (fun t2 rest _ e=>by
 cases t2 with
 |nil=>simp[AZ]at e
 |cons b t2=>
  rw[Cc]at e
  by_cases hb:b=0
  ·rw[if_pos hb]at e;simp at e
  ·rw[if_neg hb]at e;simp at e)
theorem UJ{c:UInt8}(h:l=AZ x++0::c::tail)(h1:c≠1)(h2:c≠255):Eu l:=Gm h (fun t2 rest _ e=>by
 cases t2 with
 |nil=>simp[AZ]at e;exact h1 e.1
 |cons b t2=>
  rw[Cc]at e
  by_cases hb:b=0
  ·rw[if_pos hb]at e;simp at e;exact h2 e.1
  ·rw[if_neg hb]at e;simp at e;exact absurd e.1.symm hb)
theorem CC(b c:UInt8):((b.toNat:Int)==(c.toNat:Int))=decide (b=c):=by
 rw[Bool.eq_iff_iff,beq_iff_eq,decide_eq_true_iff,<-UInt8.toNat_inj]
 omega
theorem Nc(s:ByteArray)(w:World)(hs:s.size<=maxLen):
 Calls Tryz.prog 222 #[.string s] w fun e w'=>(∃tx rs ok,e= .returned (.tuple #[.string tx,.string rs,.bool ok])/\tx.size<=65/\
  ((ok=true/\s.data.toList=AZ tx.data.toList++0::1::rs.data.toList)\/(ok=false/\Eu s.data.toList)))/\Bwz w w':=by
 unfold maxLen at hs
 go_enter func222,ntmps222
 go_wp2
 go_loopw [5,6] (fun v i wr=> ∃(k:Nat) (t:List UInt8),k<=s.size/\i= .int .i64 k/\ownB wr w.heap.size v t/\Bwz w wr/\t.length<=65/\s.data.toList=AZ t++s.data.toList.drop k) (fun _ i _=>s.size - (intOf i).toNat)
 case atStart=>exact⟨0,[],by omega,rfl,World.ownsRow_nil _ _ _ _,bR,by simp,rfl⟩
 case round=>
  obtain⟨k,t,hk,rfl,hown,hnx,ht,hsp⟩:=hrel
  obtain⟨ad,cap,hv⟩:=BU hown
  subst hv
  have HO:Hid (ownB wr w.heap.size (.slice ad t.length cap) t):=hown
  have HS:Hid (s.data.toList=AZ t++s.data.toList.drop k):=hsp
  have hsz:=hnx.size
  clear hown hsp
  by_cases hlt:k<s.size
  ·by_cases h64:t.length<=64
   ·have h64':((t.length:Nat):Int)<=64:=by omega
    have HD:Hid (s.data.toList.drop k=s[k]::s.data.toList.drop (k+1)):=Bl s k hlt
    by_cases hz:((s[k].toNat:Int)==0)=true
    ·have hz1:s[k]=0:=of_decide_eq_true ((byte_zero s[k]).symm.trans hz)
     have HZ:Hid (s[k]=0):=hz1
     clear hz1
     by_cases hlt2:k+1<s.size
     ·have HD2:Hid (s.data.toList.drop (k+1)=s[k+1]::s.data.toList.drop (k+1+1)):=Bl s (k+1) hlt2
      have hne:((k:Int)+1==(s.size:Int))=false:=by simp;omega
      have HQ:Hid (s.data.toList=AZ t++0::s[k+1]::s.data.toList.drop (k+1+1)):=by
       show s.data.toList=_
       have h:=HS.out
       rw[HD.out,HD2.out,HZ.out]at h
       exact h
      by_cases h1:((s[k+1].toNat:Int)==1)=true
      ·have h11:s[k+1]=1:=of_decide_eq_true ((CC s[k+1] 1).symm.trans h1)
       have H1:Hid (s[k+1]=1):=h11
       clear h11
       have hcv:=fun n=>Ku (w:=wr.drewN n) (base:=w.heap.size) HO.out
       go_wp2
       go_quiet (fail)
       go_wp2
       go_ret3
       exact⟨⟨_,_,_,rfl,by show t.toArray.size<=65;simp;omega,.inl ⟨rfl,by
        have h:=HQ.out
        rw[H1.out]at h
        rw[Lib.extract_to_end]
        exact h⟩⟩,below_drewN hnx _⟩
      ·have h1':((s[k+1].toNat:Int)==1)=false:=by simpa using h1
       have H1:Hid (¬s[k+1]=1):=of_decide_eq_false ((CC s[k+1] 1).symm.trans h1')
       by_cases h2:((s[k+1].toNat:Int)==255)=true
       ·have h22:s[k+1]=255:=of_decide_eq_true ((CC s[k+1] 255).symm.trans h2)
        have H2:Hid (s[k+1]=255):=h22
        clear h22
        go_wp2_with (at_builtin;refine Bp rfl (.tmp 47) (.tmp 48) rfl w.heap.size _ t rfl _ HO.out _ 0 rfl _ rfl rfl (by omega) hsz ?_;intro v' w1 hown1 hgrow1)
        go_roundw
        case rel=>exact⟨k+1+1,t++[0],by omega,by go_num,hown1,A5 hnx hsz HO.out hgrow1,by simp;omega,by
         have h:=HQ.out;rw[H2.out]at h;rw[Gx,if_pos rfl,List.append_assoc];exact h⟩
        case measure=>simp[intOf];omega
       ·have h2':((s[k+1].toNat:Int)==255)=false:=by simpa using h2
        have H2:Hid (¬s[k+1]=255):=of_decide_eq_false ((CC s[k+1] 255).symm.trans h2')
        go_wp2
        go_ret3
        exact⟨⟨_,_,_,rfl,Nat.zero_le _,.inr ⟨rfl,UJ HQ.out H1.out H2.out⟩⟩,hnx⟩
     ·have hne:((k:Int)+1==(s.size:Int))=true:=by simp;omega
      have HE:Hid (s.data.toList.drop (k+1)=[]):=List.drop_of_length_le (by rw[A4];omega)
      go_wp2
      go_ret3
      exact⟨⟨_,_,_,rfl,Nat.zero_le _,.inr ⟨rfl,Xb (x:=t) (by have h:=HS.out;rw[HD.out,HE.out,HZ.out]at h;exact h)⟩⟩,hnx⟩
    ·have hz':((s[k].toNat:Int)==0)=false:=by simpa using hz
     have HZ:Hid (¬s[k]=0):=of_decide_eq_false ((byte_zero s[k]).symm.trans hz')
     go_wp2_with (at_builtin;refine Bp rfl (.tmp 22) (.tmp 26) rfl w.heap.size _ t rfl _ HO.out _ s[k] rfl _ rfl rfl (by omega) hsz ?_;intro v' w1 hown1 hgrow1)
     go_roundw
     case rel=>exact⟨k+1,t++[s[k]],by omega,by go_num,hown1,A5 hnx hsz HO.out hgrow1,by simp;omega,by
      have h:=HS.out;rw[HD.out]at h;rw[Gx,if_neg HZ.out,List.append_assoc];exact h⟩
     case measure=>simp[intOf];omega
   ·have hd:decide (((t.length:Nat):Int)<=64)=false:=decide_eq_false (by omega)
    go_wp2
    go_ret3
    exact⟨⟨_,_,_,rfl,Nat.zero_le _,.inr ⟨rfl,R9 HS.out (by omega)⟩⟩,hnx⟩
  ·have HE:Hid (s.data.toList.drop k=[]):=List.drop_of_length_le (by rw[A4];omega)
   have hd:decide ((k:Int)<(s.size:Int))=false:=decide_eq_false (by omega)
   go_wp2
   go_ret3
   exact⟨⟨_,_,_,rfl,Nat.zero_le _,.inr ⟨rfl,Y5 (x:=t) (by have h:=HS.out;rw[HE.out]at h;exact h)⟩⟩,hnx⟩
theorem Ky(l:List UInt8)(b:UInt8):AX (l++[b])=AX l * 256+b.toNat:=by
 unfold AX;rw[List.foldl_append];rfl
theorem Qj(l:List UInt8)(a:Nat):l.foldl (fun u b=>u * 256+b.toNat) a+1<=(a+1) * 256 ^ l.length:=by
 induction l generalizing a with
 |nil=>simp
 |cons b l ih=>
  have hb:=b.toNat_lt
  rw[List.foldl_cons,List.length_cons,Nat.pow_succ]
  refine Nat.le_trans (ih _) ?_
  rw[show(a+1) * (256 ^ l.length * 256)=((a+1) * 256) * 256 ^ l.length by rw[Nat.mul_comm (256 ^ l.length),Nat.mul_assoc]]
  exact Nat.mul_le_mul_right _ (by omega)
theorem EG(l:List UInt8):AX l<256 ^ l.length:=by
 have:=Qj l 0
 rw[Nat.zero_add,Nat.one_mul]at this
 exact this
theorem UK(u b:Nat)(hb:b<256):u * 256|||b=u * 256+b:=by
 have:=Nat.shiftLeft_add_eq_or_of_lt (a:=u) (b:=b) (i:=8) (by simpa using hb)
 rw[Nat.shiftLeft_eq]at this
 exact this.symm
theorem EH(x:Nat)(hx:x<18446744073709551616):(BitVec.ofInt 64 (x:Int)).toNat=x:=by
 rw[BitVec.toNat_ofInt]
 show((x:Int) % 18446744073709551616).toNat=x
 rw[Int.emod_eq_of_lt (by omega) (by omega)];rfl
theorem Xc(u b:Nat)(hu:u<72057594037927936)(hb:b<256):
 bits BinOp.or IntKind.u64 (IntKind.u64.wrap ((u:Int) * 256)) (IntKind.u64.wrap (b:Int))=((u * 256+b:Nat):Int):=by
 unfold bits
 simp only[Se]
 rw[Int.emod_eq_of_lt (a:=(u:Int) * 256) (by omega) (by omega),Int.emod_eq_of_lt (a:=(b:Int)) (by omega) (by omega)]
 have e1:(BitVec.ofInt IntKind.u64.bits ((u:Int) * 256)).toNat=u * 256:=by
  have:=EH (u * 256) (by omega)
  rw[show((u * 256:Nat):Int)=(u:Int) * 256 by omega]at this
  exact this
 have e2:(BitVec.ofInt IntKind.u64.bits (b:Int)).toNat=b:=EH b (by omega)
 rw[BitVec.toNat_or,e1,e2,UK u b hb]
 exact Int.emod_eq_of_lt (by omega) (by omega)
theorem UL(u:Nat)(hu:u<18446744073709551616):wrap64 (bits BinOp.xor IntKind.u64 (u:Int) 9223372036854775808)=(u:Int) - 9223372036854775808:=by
 unfold bits
 simp only[Se]
 have e1:(BitVec.ofInt IntKind.u64.bits (u:Int)).toNat=u:=EH u hu
 have e2:(BitVec.ofInt IntKind.u64.bits 9223372036854775808).toNat=9223372036854775808:=by rw[BitVec.toNat_ofInt];rfl
 rw[BitVec.toNat_xor,e1,e2]
 by_cases h:u<9223372036854775808
 ·have:=JJ u (by omega)
  rw[show(2:Nat) ^ 63=9223372036854775808 by decide]at this
  rw[this]
  unfold wrap64
  omega
 ·have:=L6 u (by omega) (by omega)
  rw[show(2:Nat) ^ 63=9223372036854775808 by decide]at this
  rw[this]
  unfold wrap64
  omega
theorem Ou(s:ByteArray)(w:World)(hs:s.size=8):
 Calls Tryz.prog 221 #[.string s] w fun e w'=>e= .returned (.int .i64 ((AX s.data.toList:Int) - 9223372036854775808))/\w'=w:=by
 have hs8:s.size<=8:=by omega
 go_enter func221,ntmps221
 go_wp2
 go_loop [3,7] (fun u i=> ∃k:Nat,k<=8/\i= .int .i64 k/\u= .int .u64 (AX (s.data.toList.take k):Int)) (fun _ i=>8 - (intOf i).toNat)
 case atStart=>exact⟨0,by omega,rfl,rfl⟩
 case round=>
  obtain⟨k,hk,rfl,rfl⟩:=hrel
  obtain⟨u,hu⟩:∃u,AX (s.data.toList.take k)=u:=⟨_,rfl⟩
  have HU:Hid (AX (s.data.toList.take k)=u):=hu
  rw[hu]
  clear hu
  by_cases hlt:k<8
  ·have hlt2:k<s.size:=by omega
   have HB:Hid (u<72057594037927936):=by
    show u<72057594037927936
    have h1:=EG (s.data.toList.take k)
    rw[HU.out,List.length_take,A4]at h1
    have h2:256 ^ (min k s.size)<=256 ^ 7:=Nat.pow_le_pow_right (by omega) (by omega)
    omega
   have HT:Hid (AX (s.data.toList.take (k+1))=u * 256+s[k].toNat):=by
    show AX (s.data.toList.take (k+1))=_
    rw[Dn s k hlt2,Ky,HU.out]
   go_wp2
   go_round
   case rel=>exact⟨k+1,by omega,by go_num,by rw[HT.out,Xc u s[k].toNat HB.out s[k].toNat_lt]⟩
   case measure=>simp[intOf];omega
  ·go_wp2
   have HE:Hid (AX s.data.toList=u):=by
    show AX s.data.toList=u
    rw[<-HU.out,List.take_of_length_le (by rw[A4];omega)]
   have HB:Hid (u<18446744073709551616):=by
    show u<18446744073709551616
    rw[<-HE.out]
    exact Hz _ (by rw[A4];exact hs)
   go_ret
   exact⟨Ad (by rw[HE.out,UL u HB.out]),rfl⟩
end vl
end Go.Proofs.YtdohnkkbkfhphaaGreat
