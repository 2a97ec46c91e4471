import Derived.Test.YtdohnkkbkfhphaaGreatPq1
import Derived.Lib.BufferRead
import Derived.Lib.IndexBytes
set_option linter.all false
set_option maxHeartbeats 4000000
set_option maxRecDepth 100000
namespace Go.Proofs.YtdohnkkbkfhphaaGreat
open Go.Proofs.Tryz
namespace vl
open Go.ChangeShapes Go.WideShapes Go.ChangeAt Go.RowKit
variable {w : World} {base : Nat} {v : Value} {l : List UInt8}
theorem NE(h:ownB w base v l):(convert 204 9 v).run Tryz.prog w= .ok (.string ⟨l.toArray⟩) w:=by
 rcases h.2 with⟨rfl,h0⟩|⟨g,cap,cur,rfl,hb,hg,hn,hm,hs,ht⟩
 ·have:l=[]:=List.eq_nil_of_length_eq_zero h0
  subst this
  exact Lib.run_convert_nil_bytes w 204 9 5 0 underlying204 underlying5 underlying9
 ·refine run_convert_bytes_back w 204 9 5 ⟨g,0,none⟩ cap l underlying204 underlying5 underlying9 ?_
  refine Lib.bytes_of_row hg ?_
  rw[Nat.mul_one]at ht
  rw[ht]
  simp[Lib.byteCells,He]
theorem Pj{w':World}(h:ownB w base v l)(hb:Bwz w w'):ownB w' base v l:=by
 refine⟨h.1,?_⟩
 rcases h.2 with h0|⟨g,cap,cur,hv,h1,hg,h2⟩
 ·exact .inl h0
 ·have hlt:g<w.heap.size:=by
   rcases Nat.lt_or_ge g w.heap.size with hlt|hge
   ·exact hlt
   ·rw[Array.getElem?_eq_none hge]at hg;cases hg
  exact .inr ⟨g,cap,cur,hv,h1,by rw[hb.block g hlt];exact hg,h2⟩
def Co(r:List Cel):Prop:=∀c∈r,(-9223372036854775808<=c.n/\c.n<=9223372036854775807)/\c.s.size<=maxLen
theorem VO{r:List Cel}(h:Co r)(k:Nat)(hk:k<r.length):(-9223372036854775808<=(r.getD k default).n/\(r.getD k default).n<=9223372036854775807)/\(r.getD k default).s.size<=maxLen:=
 h _ (by simp[gDe,hk])
theorem Qm(r:List Cel)(k:Nat)(hk:k<r.length)(h:∀i,i<k->((r.getD i default).ok))(hne:¬(r.getD k default).ok):E7 r=chk (r.getD k default).k (r.getD k default).n (r.getD k default).s:=by
 rw[Lk r k h,EJ r k hk,E7]
 exact if_neg hne
theorem NF(r:List Cel)(k:Nat)(hk:r.length<=k)(h:∀i,i<k->((r.getD i default).ok)):E7 r=0:=by
 rw[Lk r k h,List.drop_of_length_le hk];rfl
theorem Iw{r:List Cel}(h:E7 r=0):∀c∈r,c.ok:=by
 induction r with
 |nil=>intro c hc;cases hc
 |cons a r ih=>
  rw[E7]at h
  split at h
  ·rename_i h0
   intro c hc
   rcases List.mem_cons.1 hc with rfl|hc
   ·exact h0
   ·exact ih h c hc
  ·rename_i h0;exact absurd h h0
theorem Vb(r:List Cel)(k:Nat)(hk:k<=r.length)(h:∀i,i<k->((r.getD i default).ok)):∀c∈r.take k,c.ok:=by
 intro c hc
 obtain⟨i,hi,rfl⟩:=List.getElem_of_mem hc
 rw[List.length_take]at hi
 have:=h i (by omega)
 rw[List.getElem_take]
 simpa[gDe,show i<r.length by omega]using this
def Eb(r:List Cel):ByteArray:=⟨(if AE r=0 then encR r else []).toArray⟩
theorem W7{x y:ByteArray}{a b:Int}(h1:x=y)(h2:a=b):Ending.returned (.tuple #[.string x,.int .i64 a])= .returned (.tuple #[.string y,.int .i64 b]):=by rw[h1,h2]
theorem IU(a:Option Addr)(cap:Nat)(r:List Cel)(w:World)(hr:rowAt w a r)(hwf:Co r)(hl:r.length<=9223372036854775807):
 Calls Tryz.prog 109 #[.slice a r.length cap] w fun e w'=>e= .returned (.tuple #[.string (Eb r),.int .i64 (AE r)])/\Bwz w w':=by
 obtain⟨n,hn⟩:∃n,r.length=n:=⟨_,rfl⟩
 have HN:Hid (r.length=n):=hn
 rw[hn]at hl⊢
 clear hn
 by_cases h8:8<n
 ·have HK:Hid (AE r=2):=by
   show AE r=2
   unfold AE;rw[if_pos (by rw[HN.out];exact h8)]
  go_enter func109,ntmps109
  go_wp2
  go_ret2
  exact⟨W7 (by unfold Eb;rw[HK.out];rfl) HK.out.symm,bR⟩
 ·have HK:Hid (AE r=E7 r):=by
   show AE r=E7 r
   unfold AE;rw[if_neg (by rw[HN.out];exact h8)]
  go_enter func109,ntmps109
  go_wp2
  go_loopw [4,13] (fun v i wr=> ∃k:Nat,k<=n/\i= .int .i64 k/\ownB wr w.heap.size v (encR (r.take k))/\Bwz w wr/\(∀i,i<k->((r.getD i default).ok))) (fun _ i _=>n - (intOf i).toNat)
  case atStart=>exact⟨0,by omega,rfl,World.ownsRow_nil _ _ _ _,bR,fun i hi=>absurd hi (Nat.not_lt_zero i)⟩
  case round=>
   obtain⟨k,hk,rfl,hown,hnx,hall⟩:=hrel
   have HA:Hid (∀i,i<k->((r.getD i default).ok)):=hall
   have HO:Hid (ownB wr w.heap.size u4 (encR (r.take k))):=hown
   have HL:Hid ((encR (r.take k)).length<=2000):=by
    have h1:=Hf (r.take k) (Vb r k (by rw[HN.out];exact hk) hall)
    have h2:(r.take k).length<=k:=List.length_take_le _ _
    show _<=2000
    omega
   clear hall hown
   by_cases hlt:k<n
   ·obtain⟨b1,o1,e1,x1,x2,x3⟩:=hr k (by rw[HN.out];exact hlt)
    subst e1
    have q1:=cLz hnx x1
    have q2:=cLz hnx x2
    have q3:=cLz hnx x3
    clear x1 x2 x3 hr
    have hw:=VO hwf k (by rw[HN.out];exact hlt)
    have HT:Hid (encR (r.take (k+1))=encR (r.take k)++Cr (r.getD k default)):=by
     show encR (r.take (k+1))=_
     rw[QW r k (by rw[HN.out];exact hlt),Ll]
    obtain⟨⟨ka,na,sa⟩,hca⟩:∃c,r.getD k default=c:=⟨_,rfl⟩
    rw[hca]at q1 q2 q3 hw
    have HCA:Hid (r.getD k default=⟨ka,na,sa⟩):=hca
    clear hca
    obtain⟨⟨w1,w2⟩,w3⟩:=hw
    dsimp only at q1 q2 q3 w1 w2 w3
    have i1:(0:Int)<=(k:Int):=by omega
    have i2:(k:Int)<(n:Int):=by omega
    have j1:=bLt _ _ q1
    have hsz:=hnx.size
    by_cases hc:(chk ka na sa==0)=true
    ·have HC:Hid (chk ka na sa=0):=by
      show chk ka na sa=0
      simpa using hc
     go_wp2_with (first
      |(go_at_call 156;refine(Bk _ _ _ _ w3).mono ?_;rintro e wc ⟨rfl,hbc⟩;have hcc:=cLz hbc (a:=⟨wr.heap.size,0,none⟩) (v:=.int .i64 ka) (by go_simp);have hcn:=cLz hbc (a:=⟨wr.heap.size,1,none⟩) (v:=.int .i64 na) (by go_simp);have hcs:=cLz hbc (a:=⟨wr.heap.size,2,none⟩) (v:=.string sa) (by go_simp);have hoc:=Pj (BD HO.out _) hbc;have hlow:=(hnx.alloc hsz _).trans (hbc.mono (by simp;omega)))
      |(go_at_call 158;refine(Jy w.heap.size u4 (encR (r.take k)) ka na sa wc hlow.size hoc (by have:=HL.out;omega) w1 w2 HC.out).mono ?_;rintro e w2 ⟨v2,rfl,hown2,hb2⟩))
     go_roundw
     case rel=>exact⟨k+1,by omega,by go_num,by rw[HT.out,HCA.out];exact hown2,hlow.trans hb2,fun i hi=>by
      rcases Nat.lt_succ_iff_lt_or_eq.1 hi with h|h
      ·exact HA.out i h
      ·rw[h,HCA.out];exact HC.out⟩
     case measure=>simp[intOf];omega
    ·have hc':(chk ka na sa==0)=false:=by simpa using hc
     have HC:Hid (AE r=chk ka na sa):=by
      show AE r=chk ka na sa
      rw[HK.out,Qm r k (by rw[HN.out];exact hlt) HA.out (by rw[HCA.out];intro h;exact hc (beq_iff_eq.2 h)),HCA.out]
     have HC0:Hid (¬chk ka na sa=0):=fun h=>hc (beq_iff_eq.2 h)
     go_wp2_with (go_at_call 156;refine(Bk _ _ _ _ w3).mono ?_;rintro e wc ⟨rfl,hbc⟩;have hlow:=(hnx.alloc hsz _).trans (hbc.mono (by simp;omega)))
     go_ret2
     exact⟨W7 (by unfold Eb;rw[if_neg (by rw[HC.out];exact HC0.out)]) HC.out.symm,hlow⟩
   ·have HC:Hid (AE r=0):=by
     show AE r=0
     rw[HK.out,NF r k (by rw[HN.out];omega) HA.out]
    have HE:Hid (r.take k=r):=List.take_of_length_le (by rw[HN.out];omega)
    have hcv:=NE HO.out
    go_wp2
    go_ret2
    exact⟨W7 (by unfold Eb;rw[if_pos HC.out,HE.out]) HC.out.symm,hnx⟩
end vl
namespace vl
variable {s : ByteArray} {x y : List UInt8}
theorem C4(b:UInt8)(x:List UInt8):Bh (b::x)=(if b=0 then [0,255]else [b])++Bh x:=rfl
theorem JO(x t tail rest:List UInt8)(h:Bh x++tail=Bh t++0::1::rest):∃t2,t=x++t2/\tail=Bh t2++0::1::rest:=by
 induction x generalizing t with
 |nil=>exact⟨t,rfl,h⟩
 |cons b x ih=>
  rw[C4]at h
  cases t with
  |nil=>
   by_cases hb:b=0
   ·rw[if_pos hb]at h
    simp[Bh]at h
   ·rw[if_neg hb]at h
    simp[Bh]at h
    exact absurd h.1 hb
  |cons c t=>
   rw[C4]at h
   by_cases hb:b=0
   ·rw[if_pos hb]at h
    by_cases hc:c=0
    ·rw[if_pos hc]at h
     have h':Bh x++tail=Bh t++0::1::rest:=by simpa using h
     obtain⟨t2,e1,e2⟩:=ih t h'
     exact⟨t2,by rw[hb,hc,e1];rfl,e2⟩
    ·rw[if_neg hc]at h
     simp at h
     exact absurd h.1.symm hc
   ·rw[if_neg hb]at h
    by_cases hc:c=0
    ·rw[if_pos hc]at h
     simp at h
     exact absurd h.1 hb
    ·rw[if_neg hc]at h
     simp only[List.cons_append,List.nil_append,List.cons.injEq]at h
     obtain⟨t2,e1,e2⟩:=ih t h.2
     exact⟨t2,by rw[h.1,e1];rfl,e2⟩
def Bm(l:List UInt8):Nat:=l.foldl (fun u b=>u * 256+b.toNat) 0
theorem IB(n:Nat):(UInt8.ofNat n).toNat=n % 256:=UInt8.toNat_ofNat'
theorem VP(u:Nat):be8 u 8=[CP u 0,CP u 1,CP u 2,CP u 3,CP u 4,CP u 5,CP u 6,CP u 7]:=rfl
theorem FV(u:Nat)(h:u<18446744073709551616):Bm (be8 u 8)=u:=by
 rw[VP]
 simp only[Bm,List.foldl_cons,List.foldl_nil,CP,IB]
 simp only[Nat.reduceMul,Nat.reduceSub,Nat.reducePow,Nat.reduceAdd]
 omega
theorem Hq{a b:UInt8}(h:a.toNat=b.toNat):a=b:=UInt8.toNat_inj.1 h
theorem RA(l:List UInt8)(h:l.length=8):be8 (Bm l) 8=l:=by
 match l,h with
 |[b0,b1,b2,b3,b4,b5,b6,b7],_=>
  have h0:=b0.toNat_lt
  have h1:=b1.toNat_lt
  have h2:=b2.toNat_lt
  have h3:=b3.toNat_lt
  have h4:=b4.toNat_lt
  have h5:=b5.toNat_lt
  have h6:=b6.toNat_lt
  have h7:=b7.toNat_lt
  rw[VP]
  simp only[List.cons.injEq,and_true]
  refine⟨?_,?_,?_,?_,?_,?_,?_,?_⟩<;>
   (apply Hq;simp only[Bm,List.foldl_cons,List.foldl_nil,CP,IB];simp only[Nat.reduceMul,Nat.reduceSub,Nat.reducePow,Nat.reduceAdd];omega)
theorem NG(l:List UInt8)(h:l.length=8):Bm l<18446744073709551616:=by
 match l,h with
 |[b0,b1,b2,b3,b4,b5,b6,b7],_=>
  have h0:=b0.toNat_lt
  have h1:=b1.toNat_lt
  have h2:=b2.toNat_lt
  have h3:=b3.toNat_lt
  have h4:=b4.toNat_lt
  have h5:=b5.toNat_lt
  have h6:=b6.toNat_lt
  have h7:=b7.toNat_lt
  simp only[Bm,List.foldl_cons,List.foldl_nil]
  omega
def Cel.wf(c:Cel):Prop:=(-9223372036854775808<=c.n/\c.n<=9223372036854775807)/\c.s.size<=maxLen
theorem NH(h:s.size=0):s=⟨#[]⟩:=ByteArray.ext (Array.eq_empty_of_size_eq_zero h)
theorem str_eq{t:ByteArray}(h:s.data.toList=t.data.toList):s=t:=ByteArray.ext (Array.ext' h)
theorem encC_cases{c:Cel}(h:c.ok):
 (c=⟨0,0,⟨#[]⟩⟩/\Cr c=[0])\/(c=⟨1,0,⟨#[]⟩⟩/\Cr c=[1,0])\/(c=⟨1,1,⟨#[]⟩⟩/\Cr c=[1,1])\/
 (∃n,c=⟨2,n,⟨#[]⟩⟩/\Cr c=2::be8 (n+9223372036854775808).toNat 8)\/(∃s,c=⟨3,0,s⟩/\s.size<=64/\Cr c=3::(Bh s.data.toList++[0,1])):=by
 obtain⟨k,n,s⟩:=c
 obtain⟨hs,hk⟩:=EK h
 dsimp only at hs hk
 rcases hk with⟨rfl,rfl,h0⟩|⟨rfl,rfl,h0⟩|⟨rfl,rfl,h0⟩|⟨rfl,h0⟩|⟨rfl,rfl⟩
 ·rw[NH h0];exact .inl ⟨rfl,rfl⟩
 ·rw[NH h0];exact .inr (.inl ⟨rfl,rfl⟩)
 ·rw[NH h0];exact .inr (.inr (.inl ⟨rfl,rfl⟩))
 ·rw[NH h0];exact .inr (.inr (.inr (.inl ⟨n,rfl,rfl⟩)))
 ·exact .inr (.inr (.inr (.inr ⟨s,rfl,hs,rfl⟩)))
theorem Hr{c:Cel}(h:c.ok):Cr c≠[]:=by
 rcases encC_cases h with⟨_,e⟩|⟨_,e⟩|⟨_,e⟩|⟨n,_,e⟩|⟨s,_,_,e⟩<;>rw[e]<;>simp
theorem JP{a b:List UInt8}(ha:a.length=b.length)(h:a++x=b++y):a=b/\x=y:=List.append_inj h ha
theorem T8{c d:Cel}(hc:c.ok)(hd:d.ok)(wc:c.wf)(wd:d.wf)(h:Cr c++x=Cr d++y):c=d/\x=y:=by
 rcases encC_cases hc with⟨rfl,e⟩|⟨rfl,e⟩|⟨rfl,e⟩|⟨n,rfl,e⟩|⟨s,rfl,hs,e⟩<;>
 rcases encC_cases hd with⟨rfl,e'⟩|⟨rfl,e'⟩|⟨rfl,e'⟩|⟨m,rfl,e'⟩|⟨t,rfl,ht,e'⟩<;>
 simp only[e,e',List.cons_append,List.nil_append,List.cons.injEq]at h
 all_goals try (exact⟨rfl,h.2⟩)
 all_goals try (exact⟨rfl,h.2.2⟩)
 all_goals try (exact absurd h.1 (by decide))
 all_goals try (exact absurd h.2.1 (by decide))
 ·obtain⟨h1,h2⟩:=JP (by rw[Ek,Ek]) h.2
  have:=congrArg Bm h1
  obtain⟨⟨n1,n2⟩,_⟩:=wc
  obtain⟨⟨m1,m2⟩,_⟩:=wd
  dsimp only at n1 n2 m1 m2
  rw[FV _ (by omega),FV _ (by omega)]at this
  have e:n=m:=by omega
  exact⟨by rw[e],h2⟩
 ·have h':Bh s.data.toList++0::1::x=Bh t.data.toList++0::1::y:=by simpa using h.2
  obtain⟨t2,e1,e2⟩:=JO _ _ _ _ h'
  have:t2=[]:=by
   cases t2 with
   |nil=>rfl
   |cons b t2=>
    rw[C4]at e2
    by_cases hb:b=0
    ·rw[if_pos hb]at e2;simp at e2
    ·rw[if_neg hb]at e2;simp at e2;exact absurd e2.1.symm hb
  subst this
  rw[List.append_nil]at e1
  have e3:x=y:=by simpa[Bh]using e2
  exact⟨by rw[str_eq e1],e3⟩
end vl
namespace vl
open Go.ChangeShapes Go.WideShapes Go.ChangeAt Go.RowKit
variable {l tail x : List UInt8} {b : UInt8}
theorem C1{w:World}{base:Nat}{v:Value}(h:ownB w base v l):∃ad cap,v= .slice ad l.length cap:=by
 rcases h.2 with⟨rfl,h0⟩|⟨g,cap,cur,rfl,_⟩
 ·exact⟨none,0,by rw[h0]⟩
 ·exact⟨_,_,rfl⟩
theorem CX(s:ByteArray)(k:Nat)(h:k<s.size):s.data.toList.drop k=s[k]::s.data.toList.drop (k+1):=by
 rw[List.drop_eq_getElem_cons (by simpa using h)];rfl
theorem Bz(s:ByteArray):s.data.toList.length=s.size:=Array.length_toList
def E9(l:List UInt8):Prop:=∀t rest,t.length<=64->l≠Bh t++0::1::rest
theorem FW(h:l=Bh x++tail)(hn:∀t2 rest,(x++t2).length<=64->tail≠Bh t2++0::1::rest):E9 l:=by
 intro t rest ht hl
 rw[h]at hl
 obtain⟨t2,e1,e2⟩:=JO _ _ _ _ hl
 exact hn t2 rest (by rw[<-e1];exact ht) e2
theorem W8(h:l=Bh x++[]):E9 l:=FW h (fun t2 rest _ e=>by simp at e)
theorem Qn(h:l=Bh x++tail)(hx:64<x.length):E9 l:=FW h (fun t2 rest ht e=>by rw[lAp]at ht;omega)
theorem Vc(h:l=Bh x++[0]):E9 l:=FW h (fun t2 rest _ e=>by
 cases t2 with
 |nil=>simp[Bh]at e
 |cons b t2=>
  rw[C4]at e
  by_cases hb:b=0
  ·rw[if_pos hb]at e;simp at e
  ·rw[if_neg hb]at e;simp at e)
theorem T9{c:UInt8}(h:l=Bh x++0::c::tail)(h1:c≠1)(h2:c≠255):E9 l:=FW h (fun t2 rest _ e=>by
 cases t2 with
 |nil=>simp[Bh]at e;exact h1 e.1
 |cons b t2=>
  rw[C4]at e
  by_cases hb:b=0
  ·rw[if_pos hb]at e;simp at e;exact h2 e.1
  ·rw[if_neg hb]at e;simp at e;exact absurd e.1.symm hb)
theorem Eu(b c:UInt8):((b.toNat:Int)==(c.toNat:Int))=decide (b=c):=by
 rw[Bool.eq_iff_iff,beq_iff_eq,decide_eq_true_iff,<-UInt8.toNat_inj]
 omega
theorem Mp(s:ByteArray)(w:World)(hs:s.size<=maxLen):
 Calls Tryz.prog 222 #[.string s] w fun e w'=>(∃tx rs ok,e= .returned (.tuple #[.string tx,.string rs,.bool ok])/\tx.size<=65/\
  ((ok=true/\s.data.toList=Bh tx.data.toList++0::1::rs.data.toList)\/(ok=false/\E9 s.data.toList)))/\Bwz w w':=by
 unfold maxLen at hs
 go_enter func222,ntmps222
 go_wp2
 go_loopw [5,6] (fun v i wr=> ∃(k:Nat) (t:List UInt8),k<=s.size/\i= .int .i64 k/\ownB wr w.heap.size v t/\Bwz w wr/\t.length<=65/\s.data.toList=Bh t++s.data.toList.drop k) (fun _ i _=>s.size - (intOf i).toNat)
 case atStart=>exact⟨0,[],by omega,rfl,World.ownsRow_nil _ _ _ _,bR,by simp,rfl⟩
 case round=>
  obtain⟨k,t,hk,rfl,hown,hnx,ht,hsp⟩:=hrel
  obtain⟨ad,cap,hv⟩:=C1 hown
  subst hv
  have HO:Hid (ownB wr w.heap.size (.slice ad t.length cap) t):=hown
  have HS:Hid (s.data.toList=Bh t++s.data.toList.drop k):=hsp
  have hsz:=hnx.size
  clear hown hsp
  by_cases hlt:k<s.size
  ·by_cases h64:t.length<=64
   ·have h64':((t.length:Nat):Int)<=64:=by omega
    have HD:Hid (s.data.toList.drop k=s[k]::s.data.toList.drop (k+1)):=CX s k hlt
    by_cases hz:((s[k].toNat:Int)==0)=true
    ·have hz1:s[k]=0:=of_decide_eq_true ((byte_zero s[k]).symm.trans hz)
     have HZ:Hid (s[k]=0):=hz1
     clear hz1
     by_cases hlt2:k+1<s.size
     ·have HD2:Hid (s.data.toList.drop (k+1)=s[k+1]::s.data.toList.drop (k+1+1)):=CX s (k+1) hlt2
      have hne:((k:Int)+1==(s.size:Int))=false:=by simp;omega
      have HQ:Hid (s.data.toList=Bh t++0::s[k+1]::s.data.toList.drop (k+1+1)):=by
       show s.data.toList=_
       have h:=HS.out
       rw[HD.out,HD2.out,HZ.out]at h
       exact h
      by_cases h1:((s[k+1].toNat:Int)==1)=true
      ·have h11:s[k+1]=1:=of_decide_eq_true ((Eu s[k+1] 1).symm.trans h1)
       have H1:Hid (s[k+1]=1):=h11
       clear h11
       have hcv:=fun n=>NE (w:=wr.drewN n) (base:=w.heap.size) HO.out
       go_wp2
       go_quiet (fail)
       go_wp2
       go_ret3
       exact⟨⟨_,_,_,rfl,by show t.toArray.size<=65;simp;omega,.inl ⟨rfl,by
        have h:=HQ.out
        rw[H1.out]at h
        rw[Lib.extract_to_end]
        exact h⟩⟩,below_drewN hnx _⟩
      ·have h1':((s[k+1].toNat:Int)==1)=false:=by simpa using h1
       have H1:Hid (¬s[k+1]=1):=of_decide_eq_false ((Eu s[k+1] 1).symm.trans h1')
       by_cases h2:((s[k+1].toNat:Int)==255)=true
       ·have h22:s[k+1]=255:=of_decide_eq_true ((Eu s[k+1] 255).symm.trans h2)
        have H2:Hid (s[k+1]=255):=h22
        clear h22
        go_wp2_with (at_builtin;refine Bd rfl (.tmp 47) (.tmp 48) rfl w.heap.size _ t rfl _ HO.out _ 0 rfl _ rfl rfl (by omega) hsz ?_;intro v' w1 hown1 hgrow1)
        go_roundw
        case rel=>exact⟨k+1+1,t++[0],by omega,by go_num,hown1,A9 hnx hsz HO.out hgrow1,by simp;omega,by
         have h:=HQ.out;rw[H2.out]at h;rw[Ik,if_pos rfl,List.append_assoc];exact h⟩
        case measure=>simp[intOf];omega
       ·have h2':((s[k+1].toNat:Int)==255)=false:=by simpa using h2
        have H2:Hid (¬s[k+1]=255):=of_decide_eq_false ((Eu s[k+1] 255).symm.trans h2')
        go_wp2
        go_ret3
        exact⟨⟨_,_,_,rfl,Nat.zero_le _,.inr ⟨rfl,T9 HQ.out H1.out H2.out⟩⟩,hnx⟩
     ·have hne:((k:Int)+1==(s.size:Int))=true:=by simp;omega
      have HE:Hid (s.data.toList.drop (k+1)=[]):=List.drop_of_length_le (by rw[Bz];omega)
      go_wp2
      go_ret3
      exact⟨⟨_,_,_,rfl,Nat.zero_le _,.inr ⟨rfl,Vc (x:=t) (by have h:=HS.out;rw[HD.out,HE.out,HZ.out]at h;exact h)⟩⟩,hnx⟩
    ·have hz':((s[k].toNat:Int)==0)=false:=by simpa using hz
     have HZ:Hid (¬s[k]=0):=of_decide_eq_false ((byte_zero s[k]).symm.trans hz')
     go_wp2_with (at_builtin;refine Bd rfl (.tmp 22) (.tmp 26) rfl w.heap.size _ t rfl _ HO.out _ s[k] rfl _ rfl rfl (by omega) hsz ?_;intro v' w1 hown1 hgrow1)
     go_roundw
     case rel=>exact⟨k+1,t++[s[k]],by omega,by go_num,hown1,A9 hnx hsz HO.out hgrow1,by simp;omega,by
      have h:=HS.out;rw[HD.out]at h;rw[Ik,if_neg HZ.out,List.append_assoc];exact h⟩
     case measure=>simp[intOf];omega
   ·have hd:decide (((t.length:Nat):Int)<=64)=false:=decide_eq_false (by omega)
    go_wp2
    go_ret3
    exact⟨⟨_,_,_,rfl,Nat.zero_le _,.inr ⟨rfl,Qn HS.out (by omega)⟩⟩,hnx⟩
  ·have HE:Hid (s.data.toList.drop k=[]):=List.drop_of_length_le (by rw[Bz];omega)
   have hd:decide ((k:Int)<(s.size:Int))=false:=decide_eq_false (by omega)
   go_wp2
   go_ret3
   exact⟨⟨_,_,_,rfl,Nat.zero_le _,.inr ⟨rfl,W8 (x:=t) (by have h:=HS.out;rw[HE.out]at h;exact h)⟩⟩,hnx⟩
theorem Pk(l:List UInt8)(b:UInt8):Bm (l++[b])=Bm l * 256+b.toNat:=by
 unfold Bm;rw[List.foldl_append];rfl
theorem Pm(l:List UInt8)(a:Nat):l.foldl (fun u b=>u * 256+b.toNat) a+1<=(a+1) * 256 ^ l.length:=by
 induction l generalizing a with
 |nil=>simp
 |cons b l ih=>
  have hb:=b.toNat_lt
  rw[List.foldl_cons,List.length_cons,Nat.pow_succ]
  refine Nat.le_trans (ih _) ?_
  rw[show(a+1) * (256 ^ l.length * 256)=((a+1) * 256) * 256 ^ l.length by rw[Nat.mul_comm (256 ^ l.length),Nat.mul_assoc]]
  exact Nat.mul_le_mul_right _ (by omega)
theorem F7(l:List UInt8):Bm l<256 ^ l.length:=by
 have:=Pm l 0
 rw[Nat.zero_add,Nat.one_mul]at this
 exact this
theorem W9(u b:Nat)(hb:b<256):u * 256|||b=u * 256+b:=by
 have:=Nat.shiftLeft_add_eq_or_of_lt (a:=u) (b:=b) (i:=8) (by simpa using hb)
 rw[Nat.shiftLeft_eq]at this
 exact this.symm
theorem F8(x:Nat)(hx:x<18446744073709551616):(BitVec.ofInt 64 (x:Int)).toNat=x:=by
 rw[BitVec.toNat_ofInt]
 show((x:Int) % 18446744073709551616).toNat=x
 rw[Int.emod_eq_of_lt (by omega) (by omega)];rfl
theorem Vd(u b:Nat)(hu:u<72057594037927936)(hb:b<256):
 bits BinOp.or IntKind.u64 (IntKind.u64.wrap ((u:Int) * 256)) (IntKind.u64.wrap (b:Int))=((u * 256+b:Nat):Int):=by
 unfold bits
 simp only[SP]
 rw[Int.emod_eq_of_lt (a:=(u:Int) * 256) (by omega) (by omega),Int.emod_eq_of_lt (a:=(b:Int)) (by omega) (by omega)]
 have e1:(BitVec.ofInt IntKind.u64.bits ((u:Int) * 256)).toNat=u * 256:=by
  have:=F8 (u * 256) (by omega)
  rw[show((u * 256:Nat):Int)=(u:Int) * 256 by omega]at this
  exact this
 have e2:(BitVec.ofInt IntKind.u64.bits (b:Int)).toNat=b:=F8 b (by omega)
 rw[BitVec.toNat_or,e1,e2,W9 u b hb]
 exact Int.emod_eq_of_lt (by omega) (by omega)
theorem TA(u:Nat)(hu:u<18446744073709551616):wrap64 (bits BinOp.xor IntKind.u64 (u:Int) 9223372036854775808)=(u:Int) - 9223372036854775808:=by
 unfold bits
 simp only[SP]
 have e1:(BitVec.ofInt IntKind.u64.bits (u:Int)).toNat=u:=F8 u hu
 have e2:(BitVec.ofInt IntKind.u64.bits 9223372036854775808).toNat=9223372036854775808:=by rw[BitVec.toNat_ofInt];rfl
 rw[BitVec.toNat_xor,e1,e2]
 by_cases h:u<9223372036854775808
 ·have:=LT u (by omega)
  rw[show(2:Nat) ^ 63=9223372036854775808 by decide]at this
  rw[this]
  unfold wrap64
  omega
 ·have:=Ng u (by omega) (by omega)
  rw[show(2:Nat) ^ 63=9223372036854775808 by decide]at this
  rw[this]
  unfold wrap64
  omega
theorem NI(s:ByteArray)(w:World)(hs:s.size=8):
 Calls Tryz.prog 221 #[.string s] w fun e w'=>e= .returned (.int .i64 ((Bm s.data.toList:Int) - 9223372036854775808))/\w'=w:=by
 have hs8:s.size<=8:=by omega
 go_enter func221,ntmps221
 go_wp2
 go_loop [3,7] (fun u i=> ∃k:Nat,k<=8/\i= .int .i64 k/\u= .int .u64 (Bm (s.data.toList.take k):Int)) (fun _ i=>8 - (intOf i).toNat)
 case atStart=>exact⟨0,by omega,rfl,rfl⟩
 case round=>
  obtain⟨k,hk,rfl,rfl⟩:=hrel
  obtain⟨u,hu⟩:∃u,Bm (s.data.toList.take k)=u:=⟨_,rfl⟩
  have HU:Hid (Bm (s.data.toList.take k)=u):=hu
  rw[hu]
  clear hu
  by_cases hlt:k<8
  ·have hlt2:k<s.size:=by omega
   have HB:Hid (u<72057594037927936):=by
    show u<72057594037927936
    have h1:=F7 (s.data.toList.take k)
    rw[HU.out,List.length_take,Bz]at h1
    have h2:256 ^ (min k s.size)<=256 ^ 7:=Nat.pow_le_pow_right (by omega) (by omega)
    omega
   have HT:Hid (Bm (s.data.toList.take (k+1))=u * 256+s[k].toNat):=by
    show Bm (s.data.toList.take (k+1))=_
    rw[Lj s k hlt2,Pk,HU.out]
   go_wp2
   go_round
   case rel=>exact⟨k+1,by omega,by go_num,by rw[HT.out,Vd u s[k].toNat HB.out s[k].toNat_lt]⟩
   case measure=>simp[intOf];omega
  ·go_wp2
   have HE:Hid (Bm s.data.toList=u):=by
    show Bm s.data.toList=u
    rw[<-HU.out,List.take_of_length_le (by rw[Bz];omega)]
   have HB:Hid (u<18446744073709551616):=by
    show u<18446744073709551616
    rw[<-HE.out]
    exact NG _ (by rw[Bz];exact hs)
   go_ret
   exact⟨Ao (by rw[HE.out,TA u HB.out]),rfl⟩
def noCell(l:List UInt8):Prop:=∀(d:Cel) t,d.ok->d.wf->l≠Cr d++t
def JQ(l:List UInt8)(c:Cel)(rs:ByteArray)(ok:Bool):Prop:=(ok=true/\c.ok/\l=Cr c++rs.data.toList)\/((ok=false\/¬c.ok)/\noCell l)
def Ew(l:List UInt8)(e:Ending):Prop:=∃(c:Cel) (rs:ByteArray) (ok:Bool),e= .returned (.tuple #[.agg #[.int .i64 c.k,.int .i64 c.n,.string c.s],.string rs,.bool ok])/\
 c.wf/\JQ l c rs ok
theorem wf0(k n:Int)(h1: -9223372036854775808<=n)(h2:n<=9223372036854775807):(⟨k,n,⟨#[]⟩⟩:Cel).wf:=⟨⟨h1,h2⟩,Nat.zero_le _⟩
theorem wf3{tx:ByteArray}(h:tx.size<=65):(⟨3,0,tx⟩:Cel).wf:=⟨⟨by show(-9223372036854775808:Int)<=0;decide,by show(0:Int)<=9223372036854775807;decide⟩,by show tx.size<=maxLen;unfold maxLen;omega⟩
theorem Mq(k n:Int)(s:ByteArray)(h:chk k n s=0):(⟨k,n,s⟩:Cel).ok:=h
theorem Ve(h0:b≠0)(h1:b≠1)(h2:b≠2)(h3:b≠3):noCell (b::l):=by
 intro d t hd hw h
 rcases encC_cases hd with⟨_,e⟩|⟨_,e⟩|⟨_,e⟩|⟨n,_,e⟩|⟨s,_,_,e⟩<;>rw[e]at h<;>simp at h
 ·exact h0 h.1
 ·exact h1 h.1
 ·exact h1 h.1
 ·exact h2 h.1
 ·exact h3 h.1
theorem TB:noCell [1]:=by
 intro d t hd hw h
 rcases encC_cases hd with⟨_,e⟩|⟨_,e⟩|⟨_,e⟩|⟨n,_,e⟩|⟨s,_,_,e⟩<;>rw[e]at h<;>simp at h
theorem Vf(h0:b≠0)(h1:b≠1):noCell (1::b::l):=by
 intro d t hd hw h
 rcases encC_cases hd with⟨_,e⟩|⟨_,e⟩|⟨_,e⟩|⟨n,_,e⟩|⟨s,_,_,e⟩<;>rw[e]at h<;>simp at h
 ·exact h0 h.1
 ·exact h1 h.1
theorem WA(hl:l.length<8):noCell (2::l):=by
 intro d t hd hw h
 rcases encC_cases hd with⟨_,e⟩|⟨_,e⟩|⟨_,e⟩|⟨n,_,e⟩|⟨s,_,_,e⟩<;>rw[e]at h<;>simp at h
 have:=congrArg List.length h
 rw[lAp,Ek]at this
 omega
theorem Qo(hl:E9 l):noCell (3::l):=by
 intro d t hd hw h
 rcases encC_cases hd with⟨_,e⟩|⟨_,e⟩|⟨_,e⟩|⟨n,_,e⟩|⟨s,_,hs,e⟩<;>rw[e]at h<;>simp at h
 exact hl s.data.toList t (by rw[Bz];exact hs) (by simpa using h)
theorem TC(l:List UInt8)(hl:8<=l.length):2::l=Cr ⟨2,(Bm (l.take 8):Int) - 9223372036854775808,⟨#[]⟩⟩++l.drop 8:=by
 have e:(((Bm (l.take 8):Int) - 9223372036854775808)+9223372036854775808).toNat=Bm (l.take 8):=by omega
 have e2:Cr ⟨2,(Bm (l.take 8):Int) - 9223372036854775808,⟨#[]⟩⟩=2::be8 (((Bm (l.take 8):Int) - 9223372036854775808)+9223372036854775808).toNat 8:=rfl
 rw[e2,e,RA _ (by rw[List.length_take];omega),List.cons_append,List.take_append_drop]
theorem C5(s:ByteArray)(h:0<s.size):s.data.toList=s[0]::(s.extract 1 s.size).data.toList:=by
 rw[Lib.extract_to_end]
 have:=CX s 0 h
 simpa using this
attribute [local go_sem ↓] Go.wp_at_zero Go.wp_at_succ
theorem Kx(s r:ByteArray)(w:World)(hs:0<s.size)(hm:s.size<=maxLen)(hre:s.extract 1 s.size=r)(h0:s[0]=0):
 Calls Tryz.prog 212 #[.string s] w fun e w'=>Ew s.data.toList e/\Bwz w w':=by
 have HL:Hid (s.data.toList=s[0]::(s.extract 1 s.size).data.toList):=C5 s hs
 have hk:(s[0].toNat:Int)=0:=by rw[h0];rfl
 have HH:Hid (s[0]=0):=h0
 clear h0
 unfold maxLen at hm
 have hr:s.extract 1 s.size=r:=hre
 have i0:(0:Int)<(s.size:Int):=by omega
 have b0:(s[0].toNat:Int)<=255:=by have:=s[0].toNat_lt;omega
 go_enter func212,ntmps212
 go_wp2
 go_quiet (fail)
 go_wp2
 exact bodyPost_ret (v:=.tuple #[.agg #[.int .i64 0,.int .i64 0,.string ⟨#[]⟩],.string r,.bool true]) (by simp[results,results212,go_sem]) rfl
  ⟨⟨⟨0,0,⟨#[]⟩⟩,r,true,rfl,wf0 _ _ (by decide) (by decide),.inl ⟨rfl,Mq _ _ _ (by decide),by have h:=HL.out;rw[HH.out,hr]at h;exact h⟩⟩,by repeat (first|exact bR|(refine below_drewN ?_ _)|apply Below.drew|(refine Below.setCell ?_ (by simp) _)|(refine Below.alloc ?_ (by simp<;>omega) _))⟩
theorem JS(s r:ByteArray)(w:World)(hs:0<s.size)(hm:s.size<=maxLen)(hre:s.extract 1 s.size=r)(h0:s[0]≠0)(h1:s[0]≠1)(h2:s[0]≠2)(h3:s[0]≠3):
 Calls Tryz.prog 212 #[.string s] w fun e w'=>Ew s.data.toList e/\Bwz w w':=by
 have HL:Hid (s.data.toList=s[0]::(s.extract 1 s.size).data.toList):=C5 s hs
 have HN:Hid (noCell s.data.toList):=by
  show noCell s.data.toList
  rw[C5 s hs];exact Ve h0 h1 h2 h3
 have k0:((s[0].toNat:Int)==0)=false:=(Eu s[0] 0).trans (decide_eq_false h0)
 have k1:((s[0].toNat:Int)==1)=false:=(Eu s[0] 1).trans (decide_eq_false h1)
 have k2:((s[0].toNat:Int)==2)=false:=(Eu s[0] 2).trans (decide_eq_false h2)
 have k3:((s[0].toNat:Int)==3)=false:=(Eu s[0] 3).trans (decide_eq_false h3)
 clear h0 h1 h2 h3
 unfold maxLen at hm
 have hr:s.extract 1 s.size=r:=hre
 have i0:(0:Int)<(s.size:Int):=by omega
 have b0:(s[0].toNat:Int)<=255:=by have:=s[0].toNat_lt;omega
 go_enter func212,ntmps212
 go_wp2
 go_quiet (fail)
 go_wp2
 exact bodyPost_ret (v:=.tuple #[.agg #[.int .i64 0,.int .i64 0,.string ⟨#[]⟩],.string ⟨#[]⟩,.bool false]) (by simp[results,results212,go_sem]) rfl
  ⟨⟨⟨0,0,⟨#[]⟩⟩,⟨#[]⟩,false,rfl,wf0 _ _ (by decide) (by decide),.inr ⟨.inl rfl,HN.out⟩⟩,by repeat (first|exact bR|(refine below_drewN ?_ _)|apply Below.drew|(refine Below.setCell ?_ (by simp) _)|(refine Below.alloc ?_ (by simp<;>omega) _))⟩
theorem JT(s r:ByteArray)(w:World)(hs:0<s.size)(hm:s.size<=maxLen)(hre:s.extract 1 s.size=r)(h0:s[0]=1)(hr0:r.size=0):
 Calls Tryz.prog 212 #[.string s] w fun e w'=>Ew s.data.toList e/\Bwz w w':=by
 have HN:Hid (noCell s.data.toList):=by
  show noCell s.data.toList
  rw[C5 s hs,h0,hre,NH hr0];exact TB
 have hk:(s[0].toNat:Int)=1:=by rw[h0];rfl
 clear h0
 unfold maxLen at hm
 have hr:s.extract 1 s.size=r:=hre
 have i0:(0:Int)<(s.size:Int):=by omega
 have b0:(s[0].toNat:Int)<=255:=by have:=s[0].toNat_lt;omega
 go_enter func212,ntmps212
 go_wp2
 go_quiet (fail)
 go_wp2
 exact bodyPost_ret (v:=.tuple #[.agg #[.int .i64 0,.int .i64 0,.string ⟨#[]⟩],.string ⟨#[]⟩,.bool false]) (by simp[results,results212,go_sem]) rfl
  ⟨⟨⟨0,0,⟨#[]⟩⟩,⟨#[]⟩,false,rfl,wf0 _ _ (by decide) (by decide),.inr ⟨.inl rfl,HN.out⟩⟩,by repeat (first|exact bR|(refine below_drewN ?_ _)|apply Below.drew|(refine Below.setCell ?_ (by simp) _)|(refine Below.alloc ?_ (by simp<;>omega) _))⟩
theorem TD(b:UInt8)(h:b=0\/b=1):(⟨1,(b.toNat:Int),⟨#[]⟩⟩:Cel).ok/\Cr ⟨1,(b.toNat:Int),⟨#[]⟩⟩=[1,b]:=by
 rcases h with rfl|rfl<;>exact⟨Mq _ _ _ (by decide),rfl⟩
theorem Pn(b:UInt8)(h0:b≠0)(h1:b≠1):¬(⟨1,(b.toNat:Int),⟨#[]⟩⟩:Cel).ok:=by
 intro h
 obtain⟨_,hk⟩:=EK h
 dsimp only at hk
 have e0:b.toNat≠0:=fun e=>h0 (Hq e)
 have e1:b.toNat≠1:=fun e=>h1 (Hq e)
 omega
theorem TE(s r:ByteArray)(hs:0<s.size)(hre:s.extract 1 s.size=r)(h0:s[0]=1)(hr0:0<r.size):
 JQ s.data.toList ⟨1,(r[0].toNat:Int),⟨#[]⟩⟩ (r.extract 1 r.size) true:=by
 have e:s.data.toList=(1:UInt8)::r[0]::(r.extract 1 r.size).data.toList:=by rw[C5 s hs,h0,hre,<-C5 r hr0]
 by_cases hb:r[0]=0\/r[0]=1
 ·obtain⟨h1,h2⟩:=TD r[0] hb
  exact .inl ⟨rfl,h1,by rw[h2,e];rfl⟩
 ·have hb0:r[0]≠0:=fun h=>hb (.inl h)
  have hb1:r[0]≠1:=fun h=>hb (.inr h)
  exact .inr ⟨.inr (Pn _ hb0 hb1),by rw[e];exact Vf hb0 hb1⟩
theorem Ky(s r:ByteArray)(w:World)(hs:0<s.size)(hm:s.size<=maxLen)(hre:s.extract 1 s.size=r)(h0:s[0]=1)(hr0:0<r.size):
 Calls Tryz.prog 212 #[.string s] w fun e w'=>Ew s.data.toList e/\Bwz w w':=by
 have HN:=TE s r hs hre h0 hr0
 have HNN:Hid (JQ s.data.toList ⟨1,(r[0].toNat:Int),⟨#[]⟩⟩ (r.extract 1 r.size) true):=HN
 have HW:Hid ((⟨1,(r[0].toNat:Int),⟨#[]⟩⟩:Cel).wf):=by
  have:=r[0].toNat_lt
  exact wf0 _ _ (by omega) (by omega)
 clear HN
 have hrm:r.size<=maxLen:=by
  rw[<-hre,ByteArray.size_extract];omega
 have hk:(s[0].toNat:Int)=1:=by rw[h0];rfl
 have hrz:((r.size:Int)==0)=false:=by rw[beq_eq_false_iff_ne];omega
 have i1:(0:Int)<(r.size:Int):=by omega
 have b1:(r[0].toNat:Int)<=255:=by have:=r[0].toNat_lt;omega
 clear h0
 unfold maxLen at hm hrm
 have hr:s.extract 1 s.size=r:=hre
 have i0:(0:Int)<(s.size:Int):=by omega
 have b0:(s[0].toNat:Int)<=255:=by have:=s[0].toNat_lt;omega
 go_enter func212,ntmps212
 go_wp2
 go_quiet (fail)
 go_wp2
 go_region
 all_goals go_wp2
 all_goals
  exact bodyPost_ret (v:=.tuple #[.agg #[.int .i64 1,.int .i64 (r[0].toNat:Int),.string ⟨#[]⟩],.string (r.extract 1 r.size),.bool true]) (by simp[results,results212,go_sem]) rfl
   ⟨⟨⟨1,_,⟨#[]⟩⟩,_,true,rfl,HW.out,HNN.out⟩,by repeat (first|exact bR|(refine below_drewN ?_ _)|apply Below.drew|(refine Below.setCell ?_ (by simp) _)|(refine Below.alloc ?_ (by simp<;>omega) _))⟩
theorem Kz(s r:ByteArray)(w:World)(hs:0<s.size)(hm:s.size<=maxLen)(hre:s.extract 1 s.size=r)(h0:s[0]=2)(hr0:r.size<8):
 Calls Tryz.prog 212 #[.string s] w fun e w'=>Ew s.data.toList e/\Bwz w w':=by
 have HN:Hid (noCell s.data.toList):=by
  show noCell s.data.toList
  rw[C5 s hs,h0,hre];exact WA (by rw[Bz];exact hr0)
 have hk:(s[0].toNat:Int)=2:=by rw[h0];rfl
 clear h0
 unfold maxLen at hm
 have hr:s.extract 1 s.size=r:=hre
 have i0:(0:Int)<(s.size:Int):=by omega
 have b0:(s[0].toNat:Int)<=255:=by have:=s[0].toNat_lt;omega
 go_enter func212,ntmps212
 go_wp2
 go_quiet (fail)
 go_wp2
 exact bodyPost_ret (v:=.tuple #[.agg #[.int .i64 0,.int .i64 0,.string ⟨#[]⟩],.string ⟨#[]⟩,.bool false]) (by simp[results,results212,go_sem]) rfl
  ⟨⟨⟨0,0,⟨#[]⟩⟩,⟨#[]⟩,false,rfl,wf0 _ _ (by decide) (by decide),.inr ⟨.inl rfl,HN.out⟩⟩,by repeat (first|exact bR|(refine below_drewN ?_ _)|apply Below.drew|(refine Below.setCell ?_ (by simp) _)|(refine Below.alloc ?_ (by simp<;>omega) _))⟩
theorem Mr(s:ByteArray)(k:Nat):(s.extract 0 k).data.toList=s.data.toList.take k:=by
 simp[ByteArray.data_extract,Array.toList_extract]
theorem WB(n:Int):(⟨2,n,⟨#[]⟩⟩:Cel).ok:=by
 refine Mq _ _ _ ?_
 unfold chk
 have e:(⟨#[]⟩:ByteArray).size=0:=rfl
 rw[e,if_neg (by omega),if_neg (by omega),if_neg (by omega)]
theorem Ms(s r:ByteArray)(w:World)(hs:0<s.size)(hm:s.size<=maxLen)(hre:s.extract 1 s.size=r)(h0:s[0]=2)(hr0:8<=r.size):
 Calls Tryz.prog 212 #[.string s] w fun e w'=>Ew s.data.toList e/\Bwz w w':=by
 have HN:Hid (s.data.toList=Cr ⟨2,(Bm (r.extract 0 8).data.toList:Int) - 9223372036854775808,⟨#[]⟩⟩++(r.extract 8 r.size).data.toList):=by
  show s.data.toList=_
  rw[C5 s hs,h0,hre,Mr,Lib.extract_to_end]
  exact TC _ (by rw[Bz];exact hr0)
 have hz8:(r.extract 0 8).size=8:=by rw[ByteArray.size_extract];omega
 have HB:Hid (Bm (r.extract 0 8).data.toList<18446744073709551616):=NG _ (by rw[Bz];exact hz8)
 have hrm:r.size<=maxLen:=by
  rw[<-hre,ByteArray.size_extract];omega
 have hk:(s[0].toNat:Int)=2:=by rw[h0];rfl
 have i1:(8:Int)<=(r.size:Int):=by omega
 have Hz8:Hid ((r.extract 0 8).size=8):=hz8
 clear h0 hz8
 unfold maxLen at hm hrm
 have hr:s.extract 1 s.size=r:=hre
 have i0:(0:Int)<(s.size:Int):=by omega
 have b0:(s[0].toNat:Int)<=255:=by have:=s[0].toNat_lt;omega
 go_enter func212,ntmps212
 go_wp2
 go_quiet (fail)
 go_wp2
 go_region_held3 (fun _=>True) (trivial) (first|(go_at_call 221;refine(NI _ _ Hz8.out).mono ?_;rintro e w' ⟨rfl,rfl⟩))
 all_goals go_wp2
 all_goals
  exact bodyPost_ret (v:=.tuple #[.agg #[.int .i64 2,.int .i64 ((Bm (r.extract 0 8).data.toList:Int) - 9223372036854775808),.string ⟨#[]⟩],.string (r.extract 8 r.size),.bool true]) (by simp[results,results212,go_sem]) rfl
   ⟨⟨⟨2,_,⟨#[]⟩⟩,_,true,rfl,wf0 _ _ (by have:=HB.out;omega) (by have:=HB.out;omega),.inl ⟨rfl,WB _,HN.out⟩⟩,by repeat (first|exact bR|(refine below_drewN ?_ _)|apply Below.drew|(refine Below.setCell ?_ (by simp) _)|(refine Below.alloc ?_ (by simp<;>omega) _))⟩
theorem TF(s r tx rs:ByteArray)(ok:Bool)(hs:0<s.size)(hre:s.extract 1 s.size=r)(h0:s[0]=3)
 (h:(ok=true/\r.data.toList=Bh tx.data.toList++0::1::rs.data.toList)\/(ok=false/\E9 r.data.toList)):
 JQ s.data.toList ⟨3,0,tx⟩ rs ok:=by
 have e:s.data.toList=(3:UInt8)::r.data.toList:=by rw[C5 s hs,h0,hre]
 rcases h with⟨rfl,h⟩|⟨rfl,h⟩
 ·by_cases hl:tx.size<=64
  ·refine .inl ⟨rfl,Mq _ _ _ ?_,?_⟩
   ·unfold chk;rw[if_neg (by omega),if_neg (by omega),if_neg (by omega)]
   ·rw[e,h];show _=(3::(Bh tx.data.toList++[0,1]))++_;simp
  ·refine .inr ⟨.inr ?_,?_⟩
   ·intro hc
    have:=(EK hc).1
    exact hl this
   ·rw[e];exact Qo (Qn h (by rw[Bz];omega))
 ·exact .inr ⟨.inl rfl,by rw[e];exact Qo h⟩
theorem K6(s r:ByteArray)(w:World)(hs:0<s.size)(hm:s.size<=maxLen)(hre:s.extract 1 s.size=r)(h0:s[0]=3):
 Calls Tryz.prog 212 #[.string s] w fun e w'=>Ew s.data.toList e/\Bwz w w':=by
 have HR:∀tx rs ok,((ok=true/\r.data.toList=Bh tx.data.toList++0::1::rs.data.toList)\/(ok=false/\E9 r.data.toList))->JQ s.data.toList ⟨3,0,tx⟩ rs ok:=
  fun tx rs ok h=>TF s r tx rs ok hs hre h0 h
 have HRR:Hid (∀tx rs ok,((ok=true/\r.data.toList=Bh tx.data.toList++0::1::rs.data.toList)\/(ok=false/\E9 r.data.toList))->JQ s.data.toList ⟨3,0,tx⟩ rs ok):=HR
 clear HR
 have hrm:r.size<=maxLen:=by
  rw[<-hre,ByteArray.size_extract];omega
 have hk:(s[0].toNat:Int)=3:=by rw[h0];rfl
 clear h0
 unfold maxLen at hm
 have hr:s.extract 1 s.size=r:=hre
 have i0:(0:Int)<(s.size:Int):=by omega
 have b0:(s[0].toNat:Int)<=255:=by have:=s[0].toNat_lt;omega
 go_enter func212,ntmps212
 go_wp2
 go_quiet (fail)
 go_wp2_with (go_at_call 222;refine(Mp r _ hrm).mono ?_;rintro e w1 ⟨⟨tx,rs,ok,rfl,htx,hres⟩,hb1⟩;have hc0:=cLz hb1 (a:=⟨w.heap.size,0,none⟩) (v:=.int .i64 0) (by go_simp);have hc1:=cLz hb1 (a:=⟨w.heap.size,1,none⟩) (v:=.int .i64 0) (by go_simp);have hc2:=cLz hb1 (a:=⟨w.heap.size,2,none⟩) (v:=.string ⟨#[]⟩) (by go_simp);have hf0:w1.frozen? ⟨w.heap.size,0,none⟩=false:=(hb1.frozen (by simp)).trans (by go_simp);have hf1:w1.frozen? ⟨w.heap.size,1,none⟩=false:=(hb1.frozen (by simp)).trans (by go_simp);have hf2:w1.frozen? ⟨w.heap.size,2,none⟩=false:=(hb1.frozen (by simp)).trans (by go_simp))
 have hbl:Bwz w w1:=(below_drewN (bR.alloc nR _) _).trans (hb1.mono (by simp))
 have hz:w.heap.size<w1.heap.size:=by have:=hb1.size;simp at this;omega
 exact bodyPost_ret (v:=.tuple #[.agg #[.int .i64 3,.int .i64 0,.string tx],.string rs,.bool ok]) (by simp[results,results212,go_sem,hc0,hc1,hc2,hz]) rfl
  ⟨⟨⟨3,0,tx⟩,rs,ok,rfl,wf3 htx,HRR.out tx rs ok hres⟩,by repeat (first|exact hbl|(refine Below.setCell ?_ (by simp) _))⟩
theorem Mt(s:ByteArray)(w:World)(hs:0<s.size)(hm:s.size<=maxLen):
 Calls Tryz.prog 212 #[.string s] w fun e w'=>Ew s.data.toList e/\Bwz w w':=by
 obtain⟨r,hr⟩:∃r,s.extract 1 s.size=r:=⟨_,rfl⟩
 by_cases h0:s[0]=0
 ·exact Kx s r w hs hm hr h0
 ·by_cases h1:s[0]=1
  ·by_cases hz:r.size=0
   ·exact JT s r w hs hm hr h1 hz
   ·exact Ky s r w hs hm hr h1 (by omega)
  ·by_cases h2:s[0]=2
   ·by_cases hz:r.size<8
    ·exact Kz s r w hs hm hr h2 hz
    ·exact Ms s r w hs hm hr h2 (by omega)
   ·by_cases h3:s[0]=3
    ·exact K6 s r w hs hm hr h3
    ·exact JS s r w hs hm hr h0 h1 h2 h3
end vl
end Go.Proofs.YtdohnkkbkfhphaaGreat
