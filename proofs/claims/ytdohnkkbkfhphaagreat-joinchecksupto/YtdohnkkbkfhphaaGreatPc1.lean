import Derived.Test.YtdohnkkbkfhphaaGreatRows
import Derived.ProofKit
import Derived.OpenShut
import Derived.WalkSpells
import Derived.Deep.RegionHeld3
import Derived.WalkLawsBesides
import Derived.Shelf.Small.Strs
import Derived.Deep.DrawnRows
import Derived.Deep.Light
import Derived.BigQuiet
import Derived.Deep.AppendLies
set_option linter.all false
set_option maxHeartbeats 4000000
set_option maxRecDepth 100000
namespace Go.Proofs.YtdohnkkbkfhphaaGreat
open Go.ChangeShapes Go.WideShapes Go.ChangeAt Go.RowKit
variable {w : World} {a : Addr} {v : Value} {fuel i n : Nat} {P : Program} {md : Region.Mode} {ops : Array Oper} {Q : Exit -> Act -> World -> Prop} {S : World -> Prop} {listed : Array Bool} {b : Act} {oi : Oper}
abbrev CTz:=Calls Tryz.prog
abbrev Bwz(w v:World):Prop:=Below w.heap.size w v
theorem cLz{wx:World}(hb:Bwz w wx)(h:w.cell? a=some v):wx.cell? a=some v:=cell_later hb h
theorem nM{α:Type}(a:α):∃z,a=z:=⟨a,rfl⟩
theorem bR:Below n w w:=Below.refl _ _
theorem nR:n<=n:=Nat.le_refl _
theorem sI{α:Type}(l:List α)(i:Nat)(a:α):l.toArray.setIfInBounds i a=(l.set i a).toArray:=List.setIfInBounds_toArray l i a
theorem sZ{α:Type}(x:α)(xs:List α)(a:α):(x::xs).set 0 a=a::xs:=rfl
theorem sSz{α:Type}(x:α)(xs:List α)(n:Nat)(a:α):(x::xs).set (n+1) a=x::xs.set n a:=rfl
theorem hIz{p:Prop}(h:p):Hid p:=h
theorem gDe{α:Type}{l:List α}{a:α}:l.getD i a=l[i]?.getD a:=List.getD_eq_getElem?_getD
theorem gEe{α:Type}{l:List α}(h:i<l.length):l[i]? =some l[i]:=List.getElem?_eq_getElem h
theorem bLt(w:World)(a:Addr){u:Value}(h:w.cell? a=some u):a.block<w.heap.size:=World.block_lt_of_cell? w a h
theorem lAp{α:Type}{xs ys:List α}:(xs++ys).length=xs.length+ys.length:=List.length_append
theorem cOb{w':World}(h:w'.heap[a.block]? =w.heap[a.block]?):w'.cell? a=w.cell? a:=World.cell?_of_block h
theorem lMp{α β:Type}{xs:List α}(f:α->β):(List.map f xs).length=xs.length:=List.length_map f
theorem sk{a:Act}(i:Nat)(d:Nat)(hS:S w)(h:wpAnyH P md ops Q S fuel (listed.setIfInBounds i true) b w)
    (hi:ops[i]? =some oi:=by exact rfl) (hk:(Region.noSelect ops&&(Region.free md ops listed i&&(Region.ready md ops listed).contains i))=true:=by kernel_rfl) (hd:oi.dst=some d:=by exact rfl) (hw:Region.wanted oi (yielded ops a.tmps)=false:=by exact rfl) (ha:a.put (some d) undef=b:=by(simp only[Act.put,sI,sZ,sSz];exact rfl))
    (hQ:∀c a w,Q (.panic c) (a.put oi.dst undef) w->Q (.panic c) a w:=by exact fun _ _ _ h=>h):wpAnyH P md ops Q S (fuel+1) listed a w:=by
  rw[Bool.and_eq_true,Bool.and_eq_true]at hk
  exact wpAnyH_take hi hk.1 hk.2.1 hk.2.2 hQ (Or.inr ⟨hw,rfl⟩) hS (by rw[hd,ha];exact h)
theorem tkz{a:Act}(i:Nat)(d:Nat)(hS:S w)(h:wpAnyH P md ops Q S fuel (listed.setIfInBounds i true) b w)
    (hi:ops[i]? =some oi:=by exact rfl) (hk:(Region.noSelect ops&&(Region.free md ops listed i&&(Region.ready md ops listed).contains i))=true:=by kernel_rfl) (hd:oi.dst=some d:=by exact rfl) (hw:Region.wanted oi (yielded ops a.tmps)=true:=by exact rfl) (hy:∀w,S w->(execOp a.eval oi).run P w= .ok (.value v) w:=by(intro w' hSw;(try dsimp only at hSw);first|(go_simp;done)|(go_simp;with_reducible rfl))) (ha:a.put (some d) v=b:=by(simp only[Act.put,sI,sZ,sSz];exact rfl))
    (hQ:∀c a w,Q (.panic c) (a.put oi.dst v) w->Q (.panic c) a w:=by exact fun _ _ _ h=>h):wpAnyH P md ops Q S (fuel+1) listed a w:=by
  rw[Bool.and_eq_true,Bool.and_eq_true]at hk
  exact wpAnyH_take hi hk.1 hk.2.1 hk.2.2 hQ (Or.inl ⟨hw,hy⟩) hS (by rw[hd,ha];exact h)
end Go.Proofs.YtdohnkkbkfhphaaGreat
namespace Go.Proofs
open Go.Shelf
def Tryz.lays106_ren:Go.Shelf.Ren:=⟨fun|106=>165|213=>205|265=>218|n=>n,fun|9=>9|3=>3|n=>n,fun|n=>n⟩
theorem Tryz.lays106:Go.Proofs.Lays.n106 Tryz.prog Tryz.lays106_ren:={
 mixed:=by kernel_rfl
 f106:=Tryz.func165.trans (congrArg some (by kernel_rfl))
 f213:=Tryz.func205.trans (congrArg some (by kernel_rfl))
 f265:=Tryz.func218.trans (congrArg some (by kernel_rfl))
 t3:=Tryz.underlying3
 a3:=Tryz.isAgg3
 z3:=Tryz.sizeOf3
 v3:=Tryz.zeroValue3
 t9:=Tryz.underlying9
 a9:=Tryz.isAgg9
 z9:=Tryz.sizeOf9
 v9:=Tryz.zeroValue9}
end Go.Proofs
namespace Go.Proofs.YtdohnkkbkfhphaaGreat.vl
open Go.Proofs.Tryz
open Go.ChangeShapes Go.WideShapes Go.ChangeAt Go.RowKit
variable {a : Act} {ops : Array Oper} {rest : List Oper} {o : Oper} {Q : Exit -> Act -> World -> Prop}
theorem He(a b:ByteArray)(w:World):
 Calls Tryz.prog 165 #[.string a,.string b] w fun e w'=>e= .returned (.int .i64 (Lib.compareBytes a.data.toList b.data.toList))/\w'=w:=
 Any.strings_Compare Tryz.lays106 a b w
theorem Ad{k:IntKind}{a b:Int}(h:a=b):Ending.returned (.int k a)= .returned (.int k b):=by rw[h]
def Cs(a b:Int):Int:=if a<b then -1 else if b<a then 1 else 0
theorem Hf(a b:Int)(w:World):
 Calls Tryz.prog 166 #[.int .i64 a,.int .i64 b] w fun e w'=>e= .returned (.int .i64 (Cs a b))/\w'=w:=by
 go_enter func166,ntmps166
 go_wp2
 all_goals
  go_ret
  exact⟨Ad (by unfold Cs;omega),rfl⟩
theorem Je(a b:Int)(w:World):
 Calls Tryz.prog 105 #[.int .i64 a,.int .i64 b] w fun e w'=>e= .returned (.int .i64 (Cs a b))/\w'=w:=by
 go_enter func105,ntmps105
 go_wp2
 all_goals
  go_ret
  exact⟨Ad (by unfold Cs;omega),rfl⟩
def AF:List Int->Int
 |[]=>0
 |x::r=>if x=0 then AF r else x
theorem F3(zs:List Int)(k:Nat)(h:∀i,i<k->zs[i]?.getD 0=0):AF zs=AF (zs.drop k):=by
 induction zs generalizing k with
 |nil=>simp
 |cons x r ih=>
  cases k with
  |zero=>rfl
  |succ k=>
   have h0:x=0:=by simpa using h 0 (by omega)
   subst h0
   simp only[AF,if_true,List.drop_succ_cons]
   exact ih k (fun i hi=>by simpa using h (i+1) (by omega))
theorem L4(zs:List Int)(k:Nat)(h:∀i,i<k->zs[i]?.getD 0=0)(hk:k<zs.length)(hz:zs[k]?.getD 0≠0):AF zs=zs[k]?.getD 0:=by
 rw[F3 zs k h,List.drop_eq_getElem_cons hk,AF]
 simp only[gEe hk,Option.getD_some]at hz⊢
 rw[if_neg hz]
theorem TU(b:Nat)(zs:List Int)(w:World)(hl:zs.length<=100)
 (hc:∀i,i<zs.length->w.cell? ⟨b,i,none⟩=some (.int .i64 (zs[i]?.getD 0))):
 Calls Tryz.prog 208 #[.slice (some ⟨b,0,none⟩) zs.length zs.length] w fun e w'=>e= .returned (.int .i64 (AF zs))/\w'=w:=by
 go_enter func208,ntmps208
 go_wp2
 go_loop [7] (fun i=> ∃k:Nat,k<=zs.length/\i= .int .i64 k/\∀i,i<k->zs[i]?.getD 0=0) (fun i=>zs.length - (intOf i).toNat)
 case atStart=>exact⟨0,Nat.zero_le _,rfl,fun i hi=>absurd hi (Nat.not_lt_zero i)⟩
 case round=>
  obtain⟨k,hk,rfl,hall⟩:=hrel
  have HA:Hid (∀i,i<k->zs[i]?.getD 0=0):=hall
  clear hall
  by_cases hlt:k<zs.length
  ·have hcell:=hc k hlt
   obtain⟨z,hz0⟩:=nM (zs[k]?.getD 0)
   rw[hz0]at hcell
   have HZ:Hid (zs[k]?.getD 0=z):=hz0
   clear hc hz0
   by_cases hf:(z==0)=true
   ·have hf2:z=0:=by simpa using hf
    have HF:Hid (z=0):=hf2
    clear hf2
    go_wp2
    go_round
    case rel=>exact⟨k+1,by omega,by go_num,fun i hi=>by
     rcases Nat.lt_succ_iff_lt_or_eq.1 hi with h|h
     ·exact HA.out i h
     ·rw[h,HZ.out];exact HF.out⟩
    case measure=>simp[intOf];omega
   ·have hf':(z==0)=false:=by simpa using hf
    have hne:Hid (AF zs=z):=by
     show AF zs=z
     rw[L4 zs k HA.out hlt (by rw[HZ.out];simpa using hf)];exact HZ.out
    go_wp2
    go_ret
    exact⟨Ad (by rw[hne.out]),rfl⟩
  ·have hz:Hid (AF zs=0):=by
    show AF zs=0
    rw[F3 zs k HA.out,List.drop_of_length_le (by omega)];rfl
   go_wp2
   go_ret
   exact⟨Ad (by rw[hz.out]),rfl⟩
theorem YS(b:Nat)(x y z:Int)(w:World)(h0:w.cell? ⟨b,0,none⟩=some (.int .i64 x))(h1:w.cell? ⟨b,1,none⟩=some (.int .i64 y))(h2:w.cell? ⟨b,2,none⟩=some (.int .i64 z)):
 Calls Tryz.prog 208 #[.slice (some ⟨b,0,none⟩) 3 3] w fun e w'=>e= .returned (.int .i64 (AF [x,y,z]))/\w'=w:=
 TU b [x,y,z] w (by simp) (fun i hi=>by
  match i,hi with
  |0,_=>exact h0
  |1,_=>exact h1
  |2,_=>exact h2)
def NI(k1 n1:Int)(s1:ByteArray)(k2 n2:Int)(s2:ByteArray):Int:=
 AF [Cs k1 k2,Cs n1 n2,Lib.compareBytes s1.data.toList s2.data.toList]
attribute [local go_sem ↓] Go.wp_at_zero Go.wp_at_succ
theorem Jw(k1 n1:Int)(s1:ByteArray)(k2 n2:Int)(s2:ByteArray)(w:World):
 Calls Tryz.prog 176 #[.agg #[.int .i64 k1,.int .i64 n1,.string s1],.agg #[.int .i64 k2,.int .i64 n2,.string s2]] w
  fun e w'=>e= .returned (.int .i64 (NI k1 n1 s1 k2 n2 s2))/\Bwz w w':=by
 go_enter func176,ntmps176
 go_wp2
 go_region_held3 (fun w'=>w'.cell? ⟨w.heap.size,0,none⟩=some (.int .i64 k1)/\w'.cell? ⟨w.heap.size,1,none⟩=some (.int .i64 n1)/\w'.cell? ⟨w.heap.size,2,none⟩=some (.string s1)/\w'.cell? ⟨w.heap.size+1,0,none⟩=some (.int .i64 k2)/\w'.cell? ⟨w.heap.size+1,1,none⟩=some (.int .i64 n2)/\w'.cell? ⟨w.heap.size+1,2,none⟩=some (.string s2)) (go_keep)
  (first
   |(go_at_call 166;refine(Hf _ _ _).mono ?_;rintro e w' ⟨rfl,rfl⟩)
   |(go_at_call 165;refine(He _ _ _).mono ?_;rintro e w' ⟨rfl,rfl⟩)
   |(go_at_call 208;refine(YS _ (Cs k1 k2) (Cs n1 n2) (Lib.compareBytes s1.data.toList s2.data.toList) _ ?_ ?_ ?_).mono ?_;(go_simp);(go_simp);(go_simp);rintro e w' ⟨rfl,rfl⟩))
 all_goals
  go_wp2
  go_ret
  refine⟨rfl,?_⟩
  repeat (first|exact bR|apply Below.drew|(refine Below.alloc ?_ (by simp<;>omega) _))
def chk(k n:Int)(s:ByteArray):Int:=
 if k<0\/3<k then 4
 else if (k≠2/\n≠0/\¬(k=1/\n=1))\/(k≠3/\s.size≠0)then 1
 else if 64<s.size then 2 else 0
theorem Gw(s:ByteArray):s.toList=[]↔s.size=0:=by
 rw[Lib.toList_data]
 exact⟨fun h=>by show s.data.size=0;rw[<-Array.length_toList,h];rfl,fun h=>List.eq_nil_of_length_eq_zero (by rw[Array.length_toList];exact h)⟩
theorem Bn(k n:Int)(s:ByteArray)(w:World)(hs:s.size<=maxLen):
 Calls Tryz.prog 156 #[.agg #[.int .i64 k,.int .i64 n,.string s]] w fun e w'=>e= .returned (.int .i64 (chk k n s))/\Bwz w w':=by
 unfold maxLen at hs
 go_enter func156,ntmps156
 go_wp2
 all_goals
  go_ret
  refine⟨Ad ?_,bR.alloc nR _⟩
  go_light
  try simp only[beq_iff_eq,beq_eq_false_iff_ne,bne_iff_ne,bne_eq_false_iff_eq,Bool.not_eq_true',Bool.not_eq_false',List.isEmpty_iff,List.isEmpty_eq_false_iff,ne_eq,Gw]at *
  unfold chk
  omega
theorem Et(k n:Int)(s:ByteArray)(w:World)(hs:s.size<=maxLen):
 Calls Tryz.prog 141 #[.agg #[.int .i64 k,.int .i64 n,.string s]] w fun e w'=>e= .returned (.int .i64 (chk k n s))/\Bwz w w':=by
 unfold maxLen at hs
 by_cases c0:k<0
 ·go_enter func141,ntmps141
  go_wp2
  all_goals
   go_ret
   refine⟨Ad ?_,bR.alloc nR _⟩
   go_light
   try simp only[beq_iff_eq,beq_eq_false_iff_ne,bne_iff_ne,bne_eq_false_iff_eq,Bool.not_eq_true',Bool.not_eq_false',List.isEmpty_iff,List.isEmpty_eq_false_iff,ne_eq,Gw]at *
   unfold chk
   omega
 ·by_cases c1:3<k
  ·go_enter func141,ntmps141
   go_wp2
   all_goals
    go_ret
    refine⟨Ad ?_,bR.alloc nR _⟩
    go_light
    try simp only[beq_iff_eq,beq_eq_false_iff_ne,bne_iff_ne,bne_eq_false_iff_eq,Bool.not_eq_true',Bool.not_eq_false',List.isEmpty_iff,List.isEmpty_eq_false_iff,ne_eq,Gw]at *
    unfold chk
    omega
  ·have hk:k=0\/k=1\/k=2\/k=3:=by omega
   clear c0 c1
   rcases hk with rfl|rfl|rfl|rfl
   all_goals
    go_enter func141,ntmps141
    go_wp2
    all_goals
     go_ret
     refine⟨Ad ?_,bR.alloc nR _⟩
     go_light
     try simp only[beq_iff_eq,beq_eq_false_iff_ne,bne_iff_ne,bne_eq_false_iff_eq,Bool.not_eq_true',Bool.not_eq_false',List.isEmpty_iff,List.isEmpty_eq_false_iff,ne_eq,Gw]at *
     unfold chk
     omega
theorem I3:∀(a b:List UInt8),Lib.compareBytes a b=if Op.bytesLess a b=true then -1 else if (a==b)=true then 0 else 1
 |[],[]=>by simp[Lib.compareBytes,Op.bytesLess]
 |_::_,[]=>by simp[Lib.compareBytes,Op.bytesLess]
 |[],_::_=>by simp[Lib.compareBytes,Op.bytesLess]
 |a::x,b::y=>by
  rw[Lib.compareBytes,I3 x y,Op.bytesLess]
  by_cases h1:a<b
  ·simp[h1]
  ·by_cases h2:b<a
   ·have h3:¬a=b:=fun h=>by subst h;exact absurd h2 h1
    simp[h1,h2,h3]
   ·have h3:a=b:=UInt8.le_antisymm (UInt8.not_lt.1 h2) (UInt8.not_lt.1 h1)
    subst h3
    simp[h1]
structure Cel where
 k:Int
 n:Int
 s:ByteArray
deriving DecidableEq
instance:Inhabited Cel:=⟨⟨0,0,⟨#[]⟩⟩⟩
def Cel.val(c:Cel):Value:=.agg #[.int .i64 c.k,.int .i64 c.n,.string c.s]
def rowAt(w:World)(a:Option Addr)(r:List Cel):Prop:=
 ∀i,i<r.length->∃b off,a=some ⟨b,off,none⟩/\w.cell? ⟨b,off+i * 3,none⟩=some (.int .i64 (r.getD i default).k)/\w.cell? ⟨b,off+i * 3+1,none⟩=some (.int .i64 (r.getD i default).n)/\w.cell? ⟨b,off+i * 3+1+1,none⟩=some (.string (r.getD i default).s)
theorem Aa{a b:Bool}(h:a=b):Ending.returned (.bool a)= .returned (.bool b):=by rw[h]
theorem NJ{r1 r2:List Cel}{k:Nat}(h1:k<r1.length)(h2:k<r2.length)(h:r1.take k=r2.take k)(hk:r1.getD k default=r2.getD k default):r1.take (k+1)=r2.take (k+1):=by
 rw[List.take_succ_eq_append_getElem h1,List.take_succ_eq_append_getElem h2,h]
 simp only[gDe,gEe h1,gEe h2,Option.getD_some]at hk
 rw[hk]
theorem Wh(a1 a2:Option Addr)(c1 c2:Nat)(r1 r2:List Cel)(w:World)(h1:rowAt w a1 r1)(h2:rowAt w a2 r2)(l1:r1.length<=9223372036854775807)(l2:r2.length<=9223372036854775807):
 Calls Tryz.prog 22 #[.slice a1 r1.length c1,.slice a2 r2.length c2] w fun e w'=>e= .returned (.bool (decide (r1=r2)))/\Bwz w w':=by
 by_cases hl:r1.length=r2.length
 ·obtain⟨len,hlen⟩:∃len,r1.length=len:=⟨_,rfl⟩
  have hlen2:r2.length=len:=by omega
  rw[hlen]at l1
  have HR:Hid (r1.length=len):=hlen
  have HR2:Hid (r2.length=len):=hlen2
  rw[hlen,hlen2]
  clear hl l2 hlen hlen2
  go_enter func22,ntmps22
  go_wp2
  go_loopw [5] (fun i wr=> ∃k:Nat,k<=len/\i= .int .i64 k/\Bwz w wr/\r1.take k=r2.take k) (fun i _=>len - (intOf i).toNat)
  case atStart=>exact⟨0,Nat.zero_le _,rfl,bR,rfl⟩
  case round=>
   obtain⟨k,hk,rfl,hnx,hall⟩:=hrel
   have HA:Hid (r1.take k=r2.take k):=hall
   clear hall
   by_cases hlt:k<len
   ·obtain⟨b1,o1,e1,x1,x2,x3⟩:=h1 k (by rw[HR.out];exact hlt)
    obtain⟨b2,o2,e2,y1,y2,y3⟩:=h2 k (by rw[HR2.out];exact hlt)
    subst e1 e2
    have q1:=cLz hnx x1
    have q2:=cLz hnx x2
    have q3:=cLz hnx x3
    have p1:=cLz hnx y1
    have p2:=cLz hnx y2
    have p3:=cLz hnx y3
    clear x1 x2 x3 y1 y2 y3 h1 h2
    obtain⟨⟨ka,na,sa⟩,hca⟩:∃c,r1.getD k default=c:=⟨_,rfl⟩
    obtain⟨⟨kb,nb,sb⟩,hcb⟩:∃c,r2.getD k default=c:=⟨_,rfl⟩
    rw[hca]at q1 q2 q3
    rw[hcb]at p1 p2 p3
    have HCA:Hid (r1.getD k default=⟨ka,na,sa⟩):=hca
    have HCB:Hid (r2.getD k default=⟨kb,nb,sb⟩):=hcb
    clear hca hcb
    dsimp only at q1 q2 q3 p1 p2 p3
    have i1:(0:Int)<=(k:Int):=by omega
    have i2:(k:Int)<(len:Int):=by omega
    by_cases t1:ka=kb
    ·by_cases t2:na=nb
     ·by_cases t3:sa.toList=sb.toList
      ·have t3':sa=sb:=ByteArray.ext (Array.ext' (by rwa[Lib.toList_data,Lib.toList_data]at t3))
       clear t3
       subst t1 t2 t3'
       go_wp2
       go_quiet (fail)
       go_wp2
       go_roundw
       case rel=>exact⟨k+1,by omega,by go_num,below_drewN hnx _,NJ (by rw[HR.out];exact hlt) (by rw[HR2.out];exact hlt) HA.out (by rw[HCA.out,HCB.out])⟩
       case measure=>simp[intOf];omega
      ·have hn:Hid (¬r1=r2):=fun h=>by
        have e1:=HCA.out
        rw[h,HCB.out]at e1
        cases e1
        exact t3 rfl
       go_wp2
       go_quiet (fail)
       go_wp2
       go_ret
       exact⟨Aa (by rw[decide_eq_false hn.out]),below_drewN hnx _⟩
     ·have hn:Hid (¬r1=r2):=fun h=>by
       have e1:=HCA.out
       rw[h,HCB.out]at e1
       cases e1
       exact t2 rfl
      go_wp2
      go_quiet (fail)
      go_wp2
      go_ret
      exact⟨Aa (by rw[decide_eq_false hn.out]),below_drewN hnx _⟩
    ·have hn:Hid (¬r1=r2):=fun h=>by
      have e1:=HCA.out
      rw[h,HCB.out]at e1
      cases e1
      exact t1 rfl
     go_wp2
     go_quiet (fail)
     go_wp2
     go_ret
     exact⟨Aa (by rw[decide_eq_false hn.out]),below_drewN hnx _⟩
   ·have hn:Hid (r1=r2):=by
     show r1=r2
     have h:=HA.out
     rwa[List.take_of_length_le (by rw[HR.out];omega),List.take_of_length_le (by rw[HR2.out];omega)]at h
    go_wp2
    go_ret
    exact⟨Aa (by rw[decide_eq_true hn.out]),hnx⟩
 ·have hn:Hid (¬r1=r2):=fun h=>hl (by rw[h])
  have hl':((r1.length:Int)==(r2.length:Int))=false:=by simp;omega
  go_enter func22,ntmps22
  go_wp2
  go_ret
  exact⟨Aa (by rw[decide_eq_false hn.out]),bR⟩
def GC(a b:Cel):Int:=NI a.k a.n a.s b.k b.n b.s
def Bc:List Cel->List Cel->Int
 |[],[]=>0
 |[],_::_=> -1
 |_::_,[]=>1
 |a::x,b::y=>if GC a b=0 then Bc x y else GC a b
theorem I4(r1 r2:List Cel)(k:Nat)(h1:k<=r1.length)(h2:k<=r2.length)(h:∀i,i<k->GC (r1.getD i default) (r2.getD i default)=0):
 Bc r1 r2=Bc (r1.drop k) (r2.drop k):=by
 induction k generalizing r1 r2 with
 |zero=>rfl
 |succ k ih=>
  match r1,r2,h1,h2 with
  |a::x,b::y,h1,h2=>
   have h0:GC a b=0:=h 0 (by omega)
   rw[Bc,if_pos h0,List.drop_succ_cons,List.drop_succ_cons]
   exact ih x y (by simpa using h1) (by simpa using h2) (fun i hi=>h (i+1) (by omega))
theorem Em(r:List Cel)(k:Nat)(h:k<r.length):r.drop k=r.getD k default::r.drop (k+1):=by
 rw[List.drop_eq_getElem_cons h];simp[gDe,h]
theorem Rb(r1 r2:List Cel)(k:Nat)(h1:k<r1.length)(h2:k<r2.length)(h:∀i,i<k->GC (r1.getD i default) (r2.getD i default)=0)
 (hne:GC (r1.getD k default) (r2.getD k default)≠0):Bc r1 r2=GC (r1.getD k default) (r2.getD k default):=by
 rw[I4 r1 r2 k (by omega) (by omega) h,Em r1 k h1,Em r2 k h2,Bc,if_neg hne]
theorem Jy(r1 r2:List Cel)(k:Nat)(h1:k<=r1.length)(h2:k<=r2.length)(h:∀i,i<k->GC (r1.getD i default) (r2.getD i default)=0)
 (he:k=r1.length\/k=r2.length):Bc r1 r2=Cs r1.length r2.length:=by
 rw[I4 r1 r2 k h1 h2 h]
 unfold Cs
 by_cases e1:k=r1.length
 ·rw[List.drop_of_length_le (show r1.length<=k by omega)]
  by_cases e2:k=r2.length
  ·rw[List.drop_of_length_le (show r2.length<=k by omega),Bc,if_neg (by omega),if_neg (by omega)]
  ·rw[Em r2 k (by omega),Bc,if_pos (by omega)]
 ·have e2:k=r2.length:=by omega
  rw[List.drop_of_length_le (show r2.length<=k by omega),Em r1 k (by omega),Bc,if_neg (by omega),if_pos (by omega)]
attribute [local go_sem ↓] Go.wp_at_zero Go.wp_at_succ
theorem Px(a1 a2:Option Addr)(c1 c2:Nat)(r1 r2:List Cel)(w:World)(h1:rowAt w a1 r1)(h2:rowAt w a2 r2)(l1:r1.length<=9223372036854775807)(l2:r2.length<=9223372036854775807):
 Calls Tryz.prog 175 #[.slice a1 r1.length c1,.slice a2 r2.length c2,.func (.func 176) #[] #[]] w fun e w'=>e= .returned (.int .i64 (Bc r1 r2))/\Bwz w w':=by
 obtain⟨n1,hn1⟩:∃n,r1.length=n:=⟨_,rfl⟩
 obtain⟨n2,hn2⟩:∃n,r2.length=n:=⟨_,rfl⟩
 have HR1:Hid (r1.length=n1):=hn1
 have HR2:Hid (r2.length=n2):=hn2
 rw[hn1]at l1⊢
 rw[hn2]at l2⊢
 clear hn1 hn2
 go_enter func175,ntmps175
 go_wp2
 go_loopw [13] (fun i wr=> ∃k:Nat,k<=n1/\k<=n2/\i= .int .i64 k/\Bwz w wr/\(∀i,i<k->GC (r1.getD i default) (r2.getD i default)=0)) (fun i _=>n1 - (intOf i).toNat)
 case atStart=>exact⟨0,Nat.zero_le _,Nat.zero_le _,rfl,bR,fun i hi=>absurd hi (Nat.not_lt_zero i)⟩
 case round=>
  obtain⟨k,hk1,hk2,rfl,hnx,hall⟩:=hrel
  have HA:Hid (∀i,i<k->GC (r1.getD i default) (r2.getD i default)=0):=hall
  clear hall
  by_cases hlt:k<n1
  ·obtain⟨b1,o1,e1,x1,x2,x3⟩:=h1 k (by rw[HR1.out];exact hlt)
   subst e1
   have q1:=cLz hnx x1
   have q2:=cLz hnx x2
   have q3:=cLz hnx x3
   clear x1 x2 x3 h1
   obtain⟨⟨ka,na,sa⟩,hca⟩:∃c,r1.getD k default=c:=⟨_,rfl⟩
   rw[hca]at q1 q2 q3
   have HCA:Hid (r1.getD k default=⟨ka,na,sa⟩):=hca
   clear hca
   dsimp only at q1 q2 q3
   have i1:(0:Int)<=(k:Int):=by omega
   have i2:(k:Int)<(n1:Int):=by omega
   have j1:=bLt _ _ q1
   by_cases hlt2:k<n2
   ·obtain⟨b2,o2,e2,y1,y2,y3⟩:=h2 k (by rw[HR2.out];exact hlt2)
    subst e2
    have p1:=cLz hnx y1
    have p2:=cLz hnx y2
    have p3:=cLz hnx y3
    clear y1 y2 y3 h2
    obtain⟨⟨kb,nb,sb⟩,hcb⟩:∃c,r2.getD k default=c:=⟨_,rfl⟩
    rw[hcb]at p1 p2 p3
    have HCB:Hid (r2.getD k default=⟨kb,nb,sb⟩):=hcb
    clear hcb
    dsimp only at p1 p2 p3
    have j2:=bLt _ _ p1
    have i3:(k:Int)<(n2:Int):=by omega
    by_cases hc:(NI ka na sa kb nb sb==0)=true
    ·have hz:Hid (GC (r1.getD k default) (r2.getD k default)=0):=by
      show GC (r1.getD k default) (r2.getD k default)=0
      rw[HCA.out,HCB.out];exact(show NI ka na sa kb nb sb=0 by simpa using hc)
     go_wp2_with (go_at_call 176;refine(Jw _ _ _ _ _ _ _).mono ?_;rintro e w1 ⟨rfl,hb1⟩)
     go_roundw
     case rel=>exact⟨k+1,by omega,by omega,by go_num,((hnx.alloc hnx.size _).alloc (by have:=hnx.size;simp;omega) _).trans (hb1.mono (by have:=hnx.size;simp;omega)),fun i hi=>by
      rcases Nat.lt_succ_iff_lt_or_eq.1 hi with h|h
      ·exact HA.out i h
      ·rw[h];exact hz.out⟩
     case measure=>simp[intOf];omega
    ·have hz:Hid (Bc r1 r2=NI ka na sa kb nb sb):=by
      show Bc r1 r2=NI ka na sa kb nb sb
      rw[Rb r1 r2 k (by rw[HR1.out];exact hlt) (by rw[HR2.out];exact hlt2) HA.out (by rw[HCA.out,HCB.out];exact(show¬NI ka na sa kb nb sb=0 by simpa using hc)),HCA.out,HCB.out]
      rfl
     have hc':(NI ka na sa kb nb sb==0)=false:=by simpa using hc
     go_wp2_with (go_at_call 176;refine(Jw _ _ _ _ _ _ _).mono ?_;rintro e w1 ⟨rfl,hb1⟩)
     go_ret
     exact⟨Ad (by rw[hz.out]),((hnx.alloc hnx.size _).alloc (by have:=hnx.size;simp;omega) _).trans (hb1.mono (by have:=hnx.size;simp;omega))⟩
   ·have hz:Hid (Bc r1 r2=1):=by
     show Bc r1 r2=1
     rw[Jy r1 r2 k (by rw[HR1.out];exact hk1) (by rw[HR2.out];exact hk2) HA.out (by rw[HR1.out,HR2.out];omega),HR1.out,HR2.out]
     unfold Cs;rw[if_neg (by omega),if_pos (by omega)]
    go_wp2
    go_ret
    exact⟨Ad (by rw[hz.out]),hnx.alloc hnx.size _⟩
  ·have hz:Hid (Bc r1 r2=Cs n1 n2):=by
    show Bc r1 r2=Cs n1 n2
    rw[Jy r1 r2 k (by rw[HR1.out];exact hk1) (by rw[HR2.out];exact hk2) HA.out (by rw[HR1.out,HR2.out];omega),HR1.out,HR2.out]
   go_wp2
   all_goals
    go_ret
    exact⟨Ad (by rw[hz.out];unfold Cs;omega),hnx⟩
theorem Wi(a1 a2:Option Addr)(c1 c2:Nat)(r1 r2:List Cel)(w:World)(h1:rowAt w a1 r1)(h2:rowAt w a2 r2)(l1:r1.length<=9223372036854775807)(l2:r2.length<=9223372036854775807):
 Calls Tryz.prog 130 #[.slice a1 r1.length c1,.slice a2 r2.length c2] w fun e w'=>e= .returned (.int .i64 (Bc r1 r2))/\Bwz w w':=by
 obtain⟨n1,hn1⟩:∃n,r1.length=n:=⟨_,rfl⟩
 obtain⟨n2,hn2⟩:∃n,r2.length=n:=⟨_,rfl⟩
 have H:=Px a1 a2 c1 c2 r1 r2 w h1 h2 l1 l2
 rw[hn1,hn2]at H⊢
 clear hn1 hn2
 go_enter func130,ntmps130
 go_wp2_with (go_at_call 175;refine H.mono ?_;rintro e w1 ⟨rfl,hb1⟩)
 go_ret
 exact⟨rfl,hb1⟩
theorem Tryz.info5:(Tryz.prog.info? 5).map (fun i=>(i.zero,i.size,i.bytes))=some (some (.int .u8 0),1,1):=by kernel_rfl
def Fl(b:UInt8):Value:=.int .u8 (b.toNat:Int)
def ownB(w:World)(base:Nat)(v:Value)(l:List UInt8):Prop:=w.ownsRow base 5 1 v l.length (l.map Fl)
def CN(u:Nat)(j:Nat):UInt8:=UInt8.ofNat (u/2 ^ (56 - 8 * j))
def be8(u:Nat)(j:Nat):List UInt8:=(List.range j).map (CN u)
theorem Bp(hgd:o.guard=none)(s x:Operand)
 (ho:o.op= .call {callee:=.builtin .append,args:=#[s,x],argTypes:=#[204,204]}) (base:Nat) (v:Value) (l:List UInt8) (hs:a.eval s=v) (w0:World)
 (hown:ownB w0 base v l) (X:Value) (b:UInt8) (hX:X=Fl b) (B:Nat) (hB:w0.heap.size=B) (hx:a.eval x= .slice (some ⟨B,0,none⟩) 1 1) (hl:l.length<=2000000) (hb:base<=w0.heap.size)
 (h:∀v' w',ownB w' base v' (l++[b])->(w0.alloc (.cells #[X] 5)).grownBy w' v.ownBlock->wpList Tryz.prog ops Q rest (a.put o.dst v') w'):
 wpList Tryz.prog ops Q (o::rest) a (w0.alloc (.cells #[X] 5)):=by
 subst hX
 subst hB
 obtain⟨i0,hi,hz0,hz1,hz2⟩:=info_parts Tryz.info5
 refine wpList_append_own _ hgd s x 204 ho base 5 i0 (.int .u8 0) 1 1 underlying204 hi hz0 hz1 hz2 rfl (by decide) v l.length (l.map Fl) hs
  (World.ownsRow.alloc hown _) ⟨w0.heap.size,0,none⟩ 1 1 [Fl b] hx rfl (cell_one_new _ _ _) (by intro u hu;simp at hu;subst hu;rfl) (by unfold maxLen;omega) (by omega) (by simp;omega) ?_
 intro v' w' h1 h2 _
 refine h v' w' ?_ h2
 unfold ownB
 rw[lAp,List.map_append]
 exact h1
theorem A5{base:Nat}{w w0 w':World}{v:Value}{l:List UInt8}{o:Obj}(hb:Below base w w0)(h0:base<=w0.heap.size)(hown:ownB w0 base v l)(hg:(w0.alloc o).grownBy w' v.ownBlock):Below base w w':=
 (hb.alloc h0 o).grown hg (by simp;omega) (fun k hk=>(World.ownsRow.lt hown k hk).1)
theorem MM(u j:Nat):(.int .u8 ((u:Int)/2 ^ (56 - 8 * j) % 256):Value)=Fl (CN u j):=by
 unfold Fl CN
 rw[UInt8.toNat_ofNat']
 congr 1
theorem Py(u j:Nat):be8 u (j+1)=be8 u j++[CN u j]:=by
 unfold be8;rw[List.range_succ,List.map_append];rfl
theorem DC(u j:Nat):(be8 u j).length=j:=by simp[be8]
theorem JJ(m:Nat)(h:m<2 ^ 63):m ^^^ 2 ^ 63=2 ^ 63+m:=by
 apply Nat.eq_of_testBit_eq
 intro i
 rw[Nat.testBit_xor]
 by_cases h1:i<63
 ·rw[Nat.testBit_two_pow_add_gt h1,Nat.testBit_two_pow_of_ne (by omega)];simp
 ·by_cases h2:i=63
  ·subst h2;rw[Nat.testBit_two_pow_add_eq,Nat.testBit_two_pow_self,Nat.testBit_lt_two_pow h];rfl
  ·have h3:2 ^ 64<=2 ^ i:=Nat.pow_le_pow_right (by omega) (by omega)
   rw[Nat.testBit_lt_two_pow (Nat.lt_of_lt_of_le h (by omega)),Nat.testBit_two_pow_of_ne (by omega),Nat.testBit_lt_two_pow (Nat.lt_of_lt_of_le (by omega) h3)];rfl
theorem L6(m:Nat)(h:2 ^ 63<=m)(h2:m<2 ^ 64):m ^^^ 2 ^ 63=m - 2 ^ 63:=by
 have e:=JJ (m - 2 ^ 63) (by omega)
 have:m=(m - 2 ^ 63) ^^^ 2 ^ 63:=by rw[e];omega
 rw[this,Nat.xor_assoc,Nat.xor_self,Nat.xor_zero,<-this]
theorem Pz(n:Int)(n1: -9223372036854775808<=n)(n2:n<=9223372036854775807):
 (n % 18446744073709551616).toNat ^^^ 9223372036854775808=(n+9223372036854775808).toNat:=by
 by_cases h:0<=n
 ·have e:n % 18446744073709551616=n:=Int.emod_eq_of_lt h (by omega)
  rw[e]
  have:=JJ n.toNat (by omega)
  rw[show(2:Nat) ^ 63=9223372036854775808 by decide]at this
  rw[this];omega
 ·have e:n % 18446744073709551616=n+18446744073709551616:=by omega
  rw[e]
  have:=L6 (n+18446744073709551616).toNat (by omega) (by omega)
  rw[show(2:Nat) ^ 63=9223372036854775808 by decide]at this
  rw[this];omega
theorem Se(x:Int):IntKind.u64.wrap x=x % 18446744073709551616:=by
 simp[IntKind.wrap,IntKind.signed,IntKind.bits]
theorem Wj(n:Int)(n1: -9223372036854775808<=n)(n2:n<=9223372036854775807):
 bits BinOp.xor IntKind.u64 (IntKind.u64.wrap n) 9223372036854775808=(((n+9223372036854775808).toNat:Nat):Int):=by
 unfold bits
 simp only[Se]
 rw[BitVec.toNat_xor]
 have e1:(BitVec.ofInt IntKind.u64.bits (n % 18446744073709551616)).toNat=(n % 18446744073709551616).toNat:=by
  rw[BitVec.toNat_ofInt]
  show((n % 18446744073709551616) % 18446744073709551616).toNat=_
  rw[Int.emod_emod_of_dvd _ (Int.dvd_refl _)]
 have e2:(BitVec.ofInt IntKind.u64.bits 9223372036854775808).toNat=9223372036854775808:=by
  rw[BitVec.toNat_ofInt];rfl
 rw[e1,e2,Pz n n1 n2]
 omega
theorem TV(n:Int)(n1: -9223372036854775808<=n)(n2:n<=9223372036854775807):
 IntKind.u64.wrap (bits BinOp.xor IntKind.i64 n (-9223372036854775808))=(((n+9223372036854775808).toNat:Nat):Int):=by
 unfold bits
 simp only[Se]
 rw[BitVec.toNat_xor]
 have e1:(BitVec.ofInt IntKind.i64.bits n).toNat=(n % 18446744073709551616).toNat:=by
  rw[BitVec.toNat_ofInt];rfl
 have e2:(BitVec.ofInt IntKind.i64.bits (-9223372036854775808)).toNat=9223372036854775808:=by
  rw[BitVec.toNat_ofInt];rfl
 rw[e1,e2,Pz n n1 n2]
 simp only[IntKind.wrap,IntKind.signed,IntKind.bits]
 simp
 split<;>omega
theorem Mb(base:Nat)(v:Value)(l:List UInt8)(n:Int)(w:World)(hb:base<=w.heap.size)(ho:ownB w base v l)(hl:l.length<=1000000)
 (n1: -9223372036854775808<=n) (n2:n<=9223372036854775807):
 Calls Tryz.prog 193 #[v,.int .i64 n] w fun e w'=> ∃v',e= .returned v'/\ownB w' base v' (l++be8 (n+9223372036854775808).toNat 8)/\Below base w w':=by
 have hx:=Wj n n1 n2
 obtain⟨u,hu⟩:∃u,(n+9223372036854775808).toNat=u:=⟨_,rfl⟩
 rw[hu]at hx
 have HU:Hid ((n+9223372036854775808).toNat=u):=hu
 have hu2:u<=18446744073709551615:=by omega
 clear hu
 go_enter func193,ntmps193
 go_wp2
 go_loopw [0,6] (fun v i wr=> ∃j:Nat,j<=8/\i= .int .i64 (56 - 8 * (j:Int))/\ownB wr base v (l++be8 u j)/\Below base w wr) (fun _ i _=>(intOf i+8).toNat)
 case atStart=>exact⟨0,by omega,rfl,by simpa[be8]using ho,bR⟩
 case round=>
  obtain⟨j,hj,rfl,hown,hnx⟩:=hrel
  have hlj:=DC u j
  have hbr:base<=wr.heap.size:=Nat.le_trans hb hnx.size
  have HO:Hid (ownB wr base u0 (l++be8 u j)):=hown
  clear ho hown
  by_cases hlt:j<8
  ·go_wp2_with (at_builtin;refine Bp rfl (.tmp 14) (.tmp 19) rfl base _ (l++be8 u j) rfl _ HO.out _ (CN u j) (MM u j) _ rfl rfl (by rw[lAp,DC];omega) hbr ?_;intro v' w1 hown1 hgrow1)
   go_roundw
   case rel=>exact⟨j+1,by omega,by go_num,by rw[Py,<-List.append_assoc];exact hown1,A5 hnx hbr HO.out hgrow1⟩
   case measure=>simp[intOf];omega
  ·have h8:j=8:=by omega
   subst h8
   go_wp2
   go_ret
   exact⟨_,rfl,by rw[HU.out];exact HO.out,hnx⟩
theorem Rc(hgd:o.guard=none)(s x:Operand)
 (ho:o.op= .call {callee:=.builtin .append,args:=#[s,x],argTypes:=#[204,204]}) (base:Nat) (v:Value) (l:List UInt8) (hs:a.eval s=v) (w0:World)
 (hown:ownB w0 base v l) (B:Nat) (hB:w0.heap.size=B) (hx:a.eval x= .slice (some ⟨B,0,none⟩) 2 2) (hl:l.length<=2000000) (hb:base<=w0.heap.size)
 (h:∀v' w',ownB w' base v' (l++[0,1])->(w0.alloc (.cells #[.int .u8 0,.int .u8 1] 5)).grownBy w' v.ownBlock->wpList Tryz.prog ops Q rest (a.put o.dst v') w'):
 wpList Tryz.prog ops Q (o::rest) a (w0.alloc (.cells #[.int .u8 0,.int .u8 1] 5)):=by
 subst hB
 obtain⟨i0,hi,hz0,hz1,hz2⟩:=info_parts Tryz.info5
 refine wpList_append_own _ hgd s x 204 ho base 5 i0 (.int .u8 0) 1 1 underlying204 hi hz0 hz1 hz2 rfl (by decide) v l.length (l.map Fl) hs
  (World.ownsRow.alloc hown _) ⟨w0.heap.size,0,none⟩ 2 2 [.int .u8 0,.int .u8 1] hx rfl (cell_two_new _ _ _ _) (by intro u hu;simp at hu;rcases hu with rfl|rfl<;>rfl) (by unfold maxLen;omega) (by omega) (by simp;omega) ?_
 intro v' w' h1 h2 _
 refine h v' w' ?_ h2
 unfold ownB
 rw[lAp,List.map_append]
 exact h1
def AZ(l:List UInt8):List UInt8:=l.flatMap fun b=>if b=0 then [0,255]else [b]
theorem L7(l:List UInt8):(AZ l).length<=2 * l.length:=by
 induction l with
 |nil=>simp[AZ]
 |cons b r ih=>
  have:AZ (b::r)=(if b=0 then [0,255]else [b])++AZ r:=rfl
  rw[this,lAp,List.length_cons]
  split<;>simp<;>omega
theorem Gx(l:List UInt8)(b:UInt8):AZ (l++[b])=AZ l++(if b=0 then [0,255]else [b]):=by
 unfold AZ;rw[List.flatMap_append];simp
theorem Dn(s:ByteArray)(k:Nat)(h:k<s.size):s.data.toList.take (k+1)=s.data.toList.take k++[s[k]]:=by
 rw[List.take_succ_eq_append_getElem (by simpa using h)];rfl
theorem byte_zero(b:UInt8):((b.toNat:Int)==0)=decide (b=0):=by
 rw[Bool.eq_iff_iff,beq_iff_eq,decide_eq_true_iff,<-UInt8.toNat_inj]
 simp
theorem byte_of{b c:UInt8}(h:b=c):(.int .u8 (b.toNat:Int):Value)=Fl c:=by rw[h];rfl
theorem L8(base:Nat)(v:Value)(l:List UInt8)(s:ByteArray)(w:World)(hb:base<=w.heap.size)(ho:ownB w base v l)(hl:l.length<=1000000)(hs:s.size<=64):
 Calls Tryz.prog 194 #[v,.string s] w fun e w'=> ∃v',e= .returned v'/\ownB w' base v' (l++AZ s.data.toList++[0,1])/\Below base w w':=by
 go_enter func194,ntmps194
 go_wp2
 go_loopw [0,8] (fun v i wr=> ∃k:Nat,k<=s.size/\i= .int .i64 k/\ownB wr base v (l++AZ (s.data.toList.take k))/\Below base w wr) (fun _ i _=>s.size - (intOf i).toNat)
 case atStart=>exact⟨0,by omega,rfl,by simpa[AZ]using ho,bR⟩
 case round=>
  obtain⟨k,hk,rfl,hown,hnx⟩:=hrel
  have hle:(l++AZ (s.data.toList.take k)).length<=1000200:=by
   have h1:=L7 (s.data.toList.take k)
   have h2:(s.data.toList.take k).length<=k:=List.length_take_le _ _
   rw[lAp];omega
  have hbr:base<=wr.heap.size:=Nat.le_trans hb hnx.size
  have HO:Hid (ownB wr base u0 (l++AZ (s.data.toList.take k))):=hown
  have HL:Hid ((l++AZ (s.data.toList.take k)).length<=1000200):=hle
  clear ho hown hle
  by_cases hlt:k<s.size
  ·have HS:Hid (AZ (s.data.toList.take (k+1))=AZ (s.data.toList.take k)++(if s[k]=0 then [0,255]else [s[k]])):=by
    show AZ (s.data.toList.take (k+1))=_
    rw[Dn s k hlt,Gx]
   by_cases hz:((s[k].toNat:Int)==0)=true
   ·have hz1:s[k]=0:=of_decide_eq_true ((byte_zero s[k]).symm.trans hz)
    have HZ:Hid (s[k]=0):=hz1
    clear hz1
    go_wp2_with (first
     |(at_builtin;refine Bp rfl (.tmp 11) (.tmp 15) rfl base _ (l++AZ (s.data.toList.take k)) rfl _ HO.out _ 0 (byte_of HZ.out) _ rfl rfl (by have:=HL.out;omega) hbr ?_;intro v' w1 hown1 hgrow1)
     |(at_builtin;refine Bp rfl (.tmp 21) (.tmp 22) rfl base _ (l++AZ (s.data.toList.take k)++[0]) rfl _ hown1 _ 255 rfl _ rfl rfl (by have:=HL.out;rw[lAp];simp only[List.length_cons,List.length_nil];omega) (Nat.le_trans hbr (A5 bR hbr HO.out hgrow1).size) ?_;intro v2 w2 hown2 hgrow2))
    go_roundw
    case rel=>exact⟨k+1,by omega,by go_num,by rw[HS.out,if_pos HZ.out];simpa[List.append_assoc]using hown2,A5 (A5 hnx hbr HO.out hgrow1) (Nat.le_trans hbr (A5 bR hbr HO.out hgrow1).size) hown1 hgrow2⟩
    case measure=>simp[intOf];omega
   ·have hz':((s[k].toNat:Int)==0)=false:=by simpa using hz
    have HZ:Hid (¬s[k]=0):=of_decide_eq_false ((byte_zero s[k]).symm.trans hz')
    go_wp2_with (at_builtin;refine Bp rfl (.tmp 11) (.tmp 15) rfl base _ (l++AZ (s.data.toList.take k)) rfl _ HO.out _ s[k] rfl _ rfl rfl (by have:=HL.out;omega) hbr ?_;intro v' w1 hown1 hgrow1)
    go_roundw
    case rel=>exact⟨k+1,by omega,by go_num,by rw[HS.out,if_neg HZ.out];simpa[List.append_assoc]using hown1,A5 hnx hbr HO.out hgrow1⟩
    case measure=>simp[intOf];omega
  ·have HE:Hid (s.data.toList.take k=s.data.toList):=List.take_of_length_le (by simp;omega)
   go_wp2_with (at_builtin;refine Rc rfl (.tmp 25) (.tmp 26) rfl base _ (l++AZ (s.data.toList.take k)) rfl _ HO.out _ rfl rfl (by have:=HL.out;omega) hbr ?_;intro v' w1 hown1 hgrow1)
   go_ret
   exact⟨_,rfl,by have h:=hown1;rw[HE.out]at h;exact h,A5 hnx hbr HO.out hgrow1⟩
end Go.Proofs.YtdohnkkbkfhphaaGreat.vl
