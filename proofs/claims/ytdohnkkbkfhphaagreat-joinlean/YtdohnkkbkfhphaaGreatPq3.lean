import Derived.Test.YtdohnkkbkfhphaaGreatPq2
import Derived.Lib.SmallJoins
set_option linter.all false
set_option maxHeartbeats 4000000
set_option maxRecDepth 100000
namespace Go.Proofs.YtdohnkkbkfhphaaGreat
open Go.Proofs.Tryz
namespace vl
open Go.ChangeShapes Go.WideShapes Go.ChangeAt Go.RowKit
variable {w w' : World} {base : Nat} {v : Value} {r x : List Cel} {l tail : List UInt8}
theorem Tryz.infoV:(Tryz.prog.info? 103).map (fun i=>(i.zero,i.size,i.bytes))=some (some (.agg #[.int .i64 0,.int .i64 0,.string ⟨#[]⟩]),3,32):=by kernel_rfl
def celCells(r:List Cel):List Value:=r.flatMap fun c=>[.int .i64 c.k,.int .i64 c.n,.string c.s]
theorem Di(r:List Cel):(celCells r).length=r.length * 3:=by
 induction r with
 |nil=>rfl
 |cons c r ih=>show([_,_,_]++celCells r).length=_;rw[lAp,ih,List.length_cons];simp;omega
theorem Kt(r:List Cel)(c:Cel):celCells (r++[c])=celCells r++[.int .i64 c.k,.int .i64 c.n,.string c.s]:=by
 unfold celCells;rw[List.flatMap_append];simp
theorem Fs(r:List Cel)(i:Nat)(h:i<r.length):(celCells r)[i * 3]? =some (.int .i64 (r.getD i default).k)/\(celCells r)[i * 3+1]? =some (.int .i64 (r.getD i default).n)/\(celCells r)[i * 3+2]? =some (.string (r.getD i default).s):=by
 induction r generalizing i with
 |nil=>exact absurd h (Nat.not_lt_zero i)
 |cons c r ih=>
  have e:celCells (c::r)= .int .i64 c.k:: .int .i64 c.n:: .string c.s::celCells r:=rfl
  rw[e]
  cases i with
  |zero=>exact⟨rfl,rfl,rfl⟩
  |succ i=>
   have:=ih i (by simpa using h)
   rw[show(i+1) * 3=i * 3+1+1+1 by omega]
   simpa using this
def AM(w:World)(base:Nat)(v:Value)(r:List Cel):Prop:=w.ownsRow base 103 3 v r.length (celCells r)
theorem OJ(h:AM w base v r)(o:Obj):AM (w.alloc o) base v r:=World.ownsRow.alloc h o
theorem J2(h:AM w base v r)(hb:Bwz w w'):AM w' base v r:=by
 refine⟨h.1,?_⟩
 rcases h.2 with h0|⟨g,cap,cur,hv,h1,hg,h2⟩
 ·exact .inl h0
 ·have hlt:g<w.heap.size:=by
   rcases Nat.lt_or_ge g w.heap.size with hlt|hge
   ·exact hlt
   ·rw[Array.getElem?_eq_none hge]at hg;cases hg
  exact .inr ⟨g,cap,cur,hv,h1,by rw[hb.block g hlt];exact hg,h2⟩
theorem Lp(h:AM w base v r):∃ad cap,v= .slice ad r.length cap:=by
 rcases h.2 with⟨rfl,h0⟩|⟨g,cap,cur,rfl,_⟩
 ·exact⟨none,0,by rw[h0]⟩
 ·exact⟨_,_,rfl⟩
theorem Fu{ad:Option Addr}{cap:Nat}(h:AM w base (.slice ad r.length cap) r):rowAt w ad r:=by
 intro i hi
 rcases h.2 with⟨hv,h0⟩|⟨g,cap',cur,hv,h1,hg,h2⟩
 ·omega
 ·cases hv
  have hc:=World.ownsRow.cells h (g:=g) rfl
  obtain⟨x1,x2,x3⟩:=Fs r i hi
  have hadd:∀j,((⟨g,0,none⟩:Addr).add j)=⟨g,0+j,none⟩:=fun j=>by unfold Addr.add;split<;>simp_all
  refine⟨g,0,rfl,?_,?_,?_⟩
  ·have:=hc _ _ x1;rw[hadd]at this;exact this
  ·have:=hc _ _ x2;rw[hadd]at this;exact this
  ·have:=hc _ _ x3;rw[hadd]at this;exact this
theorem J3(w:World)(a b c:Value)(t:TypeId):∀j u,[a,b,c][j]? =some u->(w.alloc (.cells #[a,b,c] t)).cell? ((⟨w.heap.size,0,none⟩:Addr).add j)=some u:=by
 intro j u hj
 match j,hj with
 |0,hj=>simp at hj;subst hj;simp[Addr.add]
 |1,hj=>simp at hj;subst hj;simp[Addr.add]
 |2,hj=>simp at hj;subst hj;simp[Addr.add]
theorem I6{ops:Array Oper}{rest:List Oper}{o:Oper}{a:Act}{Q:Exit->Act->World->Prop}(hgd:o.guard=none)(s x:Operand)
 (ho:o.op= .call {callee:=.builtin .append,args:=#[s,x],argTypes:=#[41,41]}) (base:Nat) (v:Value) (r:List Cel) (hs:a.eval s=v) (w0:World)
 (hown:AM w0 base v r) (c:Cel) (B:Nat) (hB:w0.heap.size=B) (hx:a.eval x= .slice (some ⟨B,0,none⟩) 1 1) (hl:r.length<=1000000) (hb:base<=w0.heap.size)
 (h:∀v' w',AM w' base v' (r++[c])->(w0.alloc (.cells #[.int .i64 c.k,.int .i64 c.n,.string c.s] 103)).grownBy w' v.ownBlock->wpList Tryz.prog ops Q rest (a.put o.dst v') w'):
 wpList Tryz.prog ops Q (o::rest) a (w0.alloc (.cells #[.int .i64 c.k,.int .i64 c.n,.string c.s] 103)):=by
 subst hB
 obtain⟨i0,hi,hz0,hz1,hz2⟩:=info_parts Tryz.infoV
 refine wpList_append_own _ hgd s x 41 ho base 103 i0 (.agg #[.int .i64 0,.int .i64 0,.string ⟨#[]⟩]) 3 32 underlying41 hi hz0 hz1 hz2 rfl (by decide) v r.length (celCells r) hs
  (World.ownsRow.alloc hown _) ⟨w0.heap.size,0,none⟩ 1 1 [.int .i64 c.k,.int .i64 c.n,.string c.s] hx rfl (J3 _ _ _ _ _) (by intro u hu;simp at hu;rcases hu with rfl|rfl|rfl<;>rfl) (by unfold maxLen;omega) (by omega) (by simp;omega) ?_
 intro v' w' h1 h2 _
 refine h v' w' ?_ h2
 unfold AM
 rw[lAp,Kt]
 exact h1
theorem Gd{w0:World}{o:Obj}(hb:Below base w w0)(h0:base<=w0.heap.size)(hown:AM w0 base v r)(hg:(w0.alloc o).grownBy w' v.ownBlock):Below base w w':=
 (hb.alloc h0 o).grown hg (by simp;omega) (fun k hk=>(World.ownsRow.lt hown k hk).1)
theorem Gs(x r:List Cel)(tail:List UInt8)(hx:∀c∈x,c.ok/\c.wf)(hr:∀c∈r,c.ok/\c.wf)(h:encR x++tail=encR r):∃r2,r=x++r2/\tail=encR r2:=by
 induction x generalizing r with
 |nil=>exact⟨r,rfl,h⟩
 |cons c x ih=>
  have e:encR (c::x)=Cr c++encR x:=rfl
  rw[e,List.append_assoc]at h
  have hc:=hx c (List.mem_cons_self ..)
  cases r with
  |nil=>
   have:=Hr hc.1
   simp[encR]at h
   exact absurd h.1 this
  |cons d r=>
   have e2:encR (d::r)=Cr d++encR r:=rfl
   rw[e2]at h
   have hd:=hr d (List.mem_cons_self ..)
   obtain⟨rfl,h2⟩:=T8 hc.1 hd.1 hc.2 hd.2 h
   obtain⟨r2,e3,e4⟩:=ih r (fun y hy=>hx y (List.mem_cons_of_mem _ hy)) (fun y hy=>hr y (List.mem_cons_of_mem _ hy)) h2
   exact⟨r2,by rw[e3];rfl,e4⟩
def rowOk(r:List Cel):Prop:=r.length<=8/\∀c∈r,c.ok/\c.wf
def Nm(l:List UInt8):Prop:=∀r,rowOk r->encR r≠l
theorem J4(hx:∀c∈x,c.ok/\c.wf)(hl:l=encR x++tail)(hne:tail≠[])(hn:noCell tail):Nm l:=by
 intro r hr h
 rw[hl]at h
 obtain⟨r2,e1,e2⟩:=Gs x r tail hx hr.2 h.symm
 cases r2 with
 |nil=>exact hne e2
 |cons d r2=>
  have hd:=hr.2 d (by rw[e1];simp)
  exact hn d (encR r2) hd.1 hd.2 e2
theorem OL(hx:∀c∈x,c.ok/\c.wf)(hl:l=encR x++tail)(hne:tail≠[])(h8:x.length=8):Nm l:=by
 intro r hr h
 rw[hl]at h
 obtain⟨r2,e1,e2⟩:=Gs x r tail hx hr.2 h.symm
 cases r2 with
 |nil=>exact hne e2
 |cons d r2=>
  have:=hr.1
  rw[e1,lAp,List.length_cons]at this
  omega
def Wi:Value->Nat
 | .string q=>q.size
 |_=>0
def UD(s:ByteArray)(base:Nat)(e:Ending)(w':World):Prop:=
 (∃r ad cap,e= .returned (.tuple #[.slice ad r.length cap,.int .i64 0])/\rowOk r/\encR r=s.data.toList/\AM w' base (.slice ad r.length cap) r)\/
 (e= .returned (.tuple #[.slice none 0 0,.int .i64 1])/\Nm s.data.toList)
theorem UE{q:ByteArray}(h:0<q.size):q.data.toList≠[]:=fun e=>by
 have:=Bz q
 rw[e]at this
 simp at this
 omega
theorem Nn(s:ByteArray)(w:World)(hm:s.size<=maxLen):
 Calls Tryz.prog 179 #[.string s] w fun e w'=>UD s w.heap.size e w'/\Bwz w w':=by
 have HM:Hid (s.size<=maxLen):=hm
 unfold maxLen at hm
 go_enter func179,ntmps179
 go_wp2
 go_loopw [0,4] (fun t v wr=> ∃(q:ByteArray) (r:List Cel),t= .string q/\q.size<=s.size/\AM wr w.heap.size v r/\Bwz w wr/\r.length<=8/\(∀c∈r,c.ok/\c.wf)/\s.data.toList=encR r++q.data.toList) (fun t _ _=>Wi t)
 case atStart=>exact⟨s,[],rfl,Nat.le_refl _,World.ownsRow_nil _ _ _ _,bR,by simp,by simp,rfl⟩
 case round=>
  obtain⟨q,r,rfl,hq,hown,hnx,h8,hall,hsp⟩:=hrel
  obtain⟨ad,cap,hv⟩:=Lp hown
  subst hv
  have HO:Hid (AM wr w.heap.size (.slice ad r.length cap) r):=hown
  have HA:Hid (∀c∈r,c.ok/\c.wf):=hall
  have HS:Hid (s.data.toList=encR r++q.data.toList):=hsp
  have hsz:=hnx.size
  have hqm:q.size<=maxLen:=Nat.le_trans hq HM.out
  have HQ:Hid (q.size<=maxLen):=hqm
  unfold maxLen at hqm
  clear hown hall hsp
  by_cases hz:0<q.size
  ·have HN:Hid (q.data.toList≠[]):=UE hz
   go_wp2_with fail
   refine(Mt q _ hz HQ.out).mono ?_
   rintro e w1 ⟨⟨c,rs,ok,rfl,hwf,hres⟩,hb1⟩
   obtain⟨k,n,t⟩:=c
   have HW:Hid ((⟨k,n,t⟩:Cel).wf):=hwf
   have HR:Hid (JQ q.data.toList ⟨k,n,t⟩ rs ok):=hres
   have ht:t.size<=maxLen:=hwf.2
   have hl1:=hnx.trans (hb1.mono hsz)
   have ho1:=J2 HO.out hb1
   clear hres hwf
   cases ok with
   |false=>
    go_wp2
    go_ret2
    exact⟨.inr ⟨rfl,J4 HA.out HS.out HN.out (by
     rcases HR.out with⟨h,_⟩|⟨_,h⟩
     ·cases h
     ·exact h)⟩,by repeat (first|exact hl1|(refine Below.setCell ?_ (by have:=hl1.size;simp;omega) _)|(refine Below.alloc ?_ (by have:=hl1.size;simp;omega) _))⟩
   |true=>
    by_cases hc:(chk k n t==0)=true
    ·have HC:Hid (chk k n t=0):=by
      show chk k n t=0
      simpa using hc
     have HL:Hid (q.data.toList=Cr ⟨k,n,t⟩++rs.data.toList):=by
      show q.data.toList=_
      rcases HR.out with⟨_,_,h⟩|⟨h|h,_⟩
      ·exact h
      ·cases h
      ·exact absurd HC.out h
     have hrs:rs.size<q.size:=by
      have h1:=congrArg List.length HL.out
      rw[lAp,Bz,Bz]at h1
      have h2:0<(Cr ⟨k,n,t⟩).length:=List.length_pos_iff.2 (Hr HC.out)
      omega
     by_cases h88:r.length=8
     ·have h88':((r.length:Int)==8)=true:=by rw[beq_iff_eq];omega
      go_wp2_with (go_at_call 156;refine(Bk _ _ _ _ ht).mono ?_;rintro e wc ⟨rfl,hbc⟩;have hlow:=(hl1.alloc hl1.size _).trans (hbc.mono (by have:=hl1.size;simp;omega)))
      go_ret2
      exact⟨.inr ⟨rfl,OL HA.out HS.out HN.out h88⟩,hlow⟩
     ·have h88':((r.length:Int)==8)=false:=by rw[beq_eq_false_iff_ne];omega
      go_wp2_with (first
       |(go_at_call 156;refine(Bk _ _ _ _ ht).mono ?_;rintro e wc ⟨rfl,hbc⟩;have hlow:=(hl1.alloc hl1.size _).trans (hbc.mono (by have:=hl1.size;simp;omega));have hoc:=J2 (OJ ho1 _) hbc;have hcc:=cLz hbc (a:=⟨w1.heap.size,0,none⟩) (v:=.int .i64 k) (by go_simp);have hcn:=cLz hbc (a:=⟨w1.heap.size,1,none⟩) (v:=.int .i64 n) (by go_simp);have hcs:=cLz hbc (a:=⟨w1.heap.size,2,none⟩) (v:=.string t) (by go_simp))
       |(at_builtin;refine I6 rfl (.tmp 29) (.tmp 31) rfl w.heap.size _ r rfl _ hoc ⟨k,n,t⟩ _ rfl rfl (by omega) hlow.size ?_;intro v' w2 hown2 hgrow2))
      go_roundw
      case rel=>exact⟨rs,r++[⟨k,n,t⟩],rfl,by omega,hown2,Gd hlow hlow.size hoc hgrow2,by rw[lAp];simp;omega,fun c hc=>by
       rcases List.mem_append.1 hc with h|h
       ·exact HA.out c h
       ·rw[List.mem_singleton.1 h];exact⟨HC.out,HW.out⟩,by rw[HS.out,Ll,List.append_assoc,HL.out]⟩
      case measure=>exact hrs
    ·have hc':(chk k n t==0)=false:=by simpa using hc
     have HC:Hid (¬(⟨k,n,t⟩:Cel).ok):=fun h=>hc (beq_iff_eq.2 h)
     go_wp2_with (go_at_call 156;refine(Bk _ _ _ _ ht).mono ?_;rintro e wc ⟨rfl,hbc⟩;have hlow:=(hl1.alloc hl1.size _).trans (hbc.mono (by have:=hl1.size;simp;omega)))
     go_ret2
     exact⟨.inr ⟨rfl,J4 HA.out HS.out HN.out (by
      rcases HR.out with⟨_,h,_⟩|⟨_,h⟩
      ·exact absurd h HC.out
      ·exact h)⟩,hlow⟩
  ·have HE:Hid (q.data.toList=[]):=List.eq_nil_of_length_eq_zero (by rw[Bz];omega)
   go_wp2
   go_ret2
   exact⟨.inl ⟨r,ad,cap,rfl,⟨h8,HA.out⟩,by have h:=HS.out;rw[HE.out,List.append_nil]at h;exact h.symm,HO.out⟩,hnx⟩
theorem Np(s:ByteArray)(r:List Cel)(w:World)(hm:s.size<=maxLen)(hr:rowOk r)(hk:encR r=s.data.toList):
 Calls Tryz.prog 179 #[.string s] w fun e w'=>(∃ad cap,e= .returned (.tuple #[.slice ad r.length cap,.int .i64 0])/\AM w' w.heap.size (.slice ad r.length cap) r)/\Bwz w w':=by
 refine(Nn s w hm).mono fun e w' ⟨h,hb⟩=>⟨?_,hb⟩
 rcases h with⟨r',ad,cap,he,h1,h2,h3⟩|⟨_,h⟩
 ·obtain⟨r2,e1,e2⟩:=Gs r' r [] h1.2 hr.2 (by rw[List.append_nil,h2,hk])
  have:r2=[]:=by
   cases r2 with
   |nil=>rfl
   |cons d r2=>
    have hd:=hr.2 d (by rw[e1];simp)
    have e3:encR (d::r2)=Cr d++encR r2:=rfl
    rw[e3]at e2
    have:=(List.append_eq_nil_iff.1 e2.symm).1
    exact absurd this (Hr hd.1)
  subst this
  rw[List.append_nil]at e1
  subst e1
  exact⟨ad,cap,he,h3⟩
 ·exact absurd hk (h r hr)
theorem UF(s:ByteArray)(w:World)(hm:s.size<=maxLen)(hn:Nm s.data.toList):
 Calls Tryz.prog 179 #[.string s] w fun e w'=>e= .returned (.tuple #[.slice none 0 0,.int .i64 1])/\Bwz w w':=by
 refine(Nn s w hm).mono fun e w' ⟨h,hb⟩=>⟨?_,hb⟩
 rcases h with⟨r',ad,cap,he,h1,h2,h3⟩|⟨h,_⟩
 ·exact absurd h2 (hn r' h1)
 ·exact h
theorem UG(h:∀c∈r,c.ok/\c.wf):E7 r=0:=by
 induction r with
 |nil=>rfl
 |cons c r ih=>
  have hc:chk c.k c.n c.s=0:=(h c (List.mem_cons_self ..)).1
  rw[E7,if_pos hc]
  exact ih (fun x hx=>h x (List.mem_cons_of_mem _ hx))
theorem Il(h:rowOk r):AE r=0:=by
 unfold AE
 have:=h.1
 rw[if_neg (by omega)]
 exact UG h.2
theorem Hi(h:rowOk r):(Eb r).data.toList=encR r:=by
 unfold Eb;rw[if_pos (Il h)]
theorem Td(h:rowOk r):Co r:=fun c hc=>(h.2 c hc).2
theorem Nq(h:rowOk r):(Eb r).size<=1048:=by
 rw[<-Bz,Hi h]
 have h1:=Hf r (fun c hc=>(h.2 c hc).1)
 have:=h.1
 omega
theorem Wj(a:Option Addr)(cap:Nat)(r:List Cel)(w:World)(hr:rowAt w a r)(h:rowOk r):
 Calls Tryz.prog 109 #[.slice a r.length cap] w fun e w'=>e= .returned (.tuple #[.string (Eb r),.int .i64 0])/\Bwz w w':=by
 refine(IU a cap r w hr (Td h) (by have:=h.1;omega)).mono fun e w' ⟨he,hb⟩=>⟨?_,hb⟩
 rw[he,Il h]
theorem Ac{a:Option Addr}(h:rowAt w a r)(hb:Bwz w w'):rowAt w' a r:=by
 intro i hi
 obtain⟨b,o,e,x1,x2,x3⟩:=h i hi
 exact⟨b,o,e,cLz hb x1,cLz hb x2,cLz hb x3⟩
end vl
namespace vl
open Go.ChangeShapes Go.WideShapes Go.ChangeAt Go.RowKit Go.Joins Go.Deep
theorem laidOut:laidOutB Tryz.prog=true:=by kernel_rfl
theorem own:ownKnob Tryz.prog.godebug=none:=by kernel_rfl
theorem CE:Tryz.prog.cellsOf 3=1:=by kernel_rfl
theorem Te:Tryz.prog.cellsOf 9=1:=by kernel_rfl
theorem Wk:Tryz.prog.cellsOf 103=3:=by kernel_rfl
section
variable {H : Type} {enc : TypeId × Value -> H} {w : World} {base : Nat} {spare : Nat -> Bool} {held : Bool}
theorem Nr{x:Addr}{cs:List Value}{y:DataW H×List MemPlace}{fuel:Nat}(hc:w.cells? base x 3=some cs)(ht:DataW.trod enc Tryz.prog w base spare held fuel 103 cs=some y):
 ∃(b off:Nat) (c:Cel),x=⟨b,off,none⟩/\w.cell? ⟨b,off,none⟩=some (.int .i64 c.k)/\w.cell? ⟨b,off+1,none⟩=some (.int .i64 c.n)/\w.cell? ⟨b,off+1+1,none⟩=some (.string c.s)/\c.wf:=by
 obtain⟨_,hlen,hat⟩:=World.cells?_some hc
 obtain⟨y0,y1,y2,n,_,_,h0,h1,h2⟩:=trod_struct3 underlying103 ht
 match cs,hlen with
 |[a0,a1,a2],_=>
  obtain⟨k,e0,_,wk⟩:=DataW.trod_int underlying3 h0
  obtain⟨m,e1,_,wm⟩:=DataW.trod_int underlying3 h1
  obtain⟨s,e2,_,hs⟩:=DataW.trod_string underlying9 h2
  simp[CE]at e0
  simp[CE]at e1
  simp[Te]at e2
  subst e0 e1 e2
  obtain⟨b,off,spot⟩:=x
  have g0:=hat 0 (by omega)
  have g1:=hat 1 (by omega)
  have g2:=hat 2 (by omega)
  have hspot:spot=none:=by simpa[Addr.add]using World.cell?_spot g0
  subst hspot
  refine⟨b,off,⟨k,m,s⟩,rfl,?_,?_,?_,bounds_i64 wm,hs⟩
  ·simpa[Addr.add]using g0
  ·simpa[Addr.add]using g1
  ·simpa[Addr.add]using g2
theorem open_row{a:Option Addr}{len cap:Nat}{d:DataW H}{p:List MemPlace}(h:DataW.Trod enc Tryz.prog w base spare held 41 (.slice a len cap) d p):
 ∃r:List Cel,r.length=len/\rowAt w a r/\Co r/\len<=9223372036854775807:=by
 obtain⟨fuel,hf⟩:=h
 rcases open_slice underlying41 hf with⟨hcs,_⟩|⟨x,l,c,m,n,D,Pl,hcs,_,hl,hm,hmm,_,hel⟩
 ·simp[Value.cells]at hcs
  obtain⟨rfl,rfl,rfl⟩:=hcs
  exact⟨[],rfl,fun i hi=>absurd hi (Nat.not_lt_zero i),(fun c hc=>by cases hc),by omega⟩
 ·simp[Value.cells]at hcs
  obtain⟨rfl,rfl,rfl⟩:=hcs
  have hle:len<=m:=by rw[hmm];split<;>omega
  rw[Wk]at hel
  obtain⟨f,hfam⟩:=choose_lt (α:=Cel) (n:=len) (p:=fun i c=> ∃b off,x=⟨b,off,none⟩/\w.cell? ⟨b,off+i * 3,none⟩=some (.int .i64 c.k)/\w.cell? ⟨b,off+i * 3+1,none⟩=some (.int .i64 c.n)/\w.cell? ⟨b,off+i * 3+1+1,none⟩=some (.string c.s)/\c.wf) (fun i hi=>by
   obtain⟨cs',h1,h2⟩:=hel i (by omega)
   obtain⟨b,off,c,e,g0,g1,g2,hw⟩:=Nr h1 h2
   -- the slice begins where its first element does
   obtain⟨cs0,z1,z2⟩:=hel 0 (by omega)
   obtain⟨b0,off0,c0,e0,_⟩:=Nr z1 z2
   have ex:x=⟨b0,off0,none⟩:=by simpa[Addr.add]using e0
   subst ex
   have ea:(⟨b0,off0,none⟩:Addr).add (i * 3)=⟨b0,off0+i * 3,none⟩:=by unfold Addr.add;split<;>simp_all
   rw[ea]at e
   cases e
   exact⟨c,b,off0,rfl,g0,g1,g2,hw⟩)
  refine⟨(List.range len).map f,by simp,?_,?_,by unfold maxLen at hm;omega⟩
  ·intro i hi
   have hi':i<len:=by simpa using hi
   obtain⟨b,off,rfl,g0,g1,g2,_⟩:=hfam i hi'
   have e:((List.range len).map f).getD i default=f i:=by simp[gDe,hi']
   rw[e]
   exact⟨b,off,rfl,g0,g1,g2⟩
  ·intro c hc
   obtain⟨i,hi,rfl⟩:=List.mem_map.1 hc
   obtain⟨_,_,_,_,_,_,hw⟩:=hfam i (by simpa using hi)
   exact hw
end
end vl
namespace tm
open Go.ChangeShapes Go.WideShapes Go.ChangeAt Go.RowKit
def AP(t:Int):Bool:=decide (-1099511627776<=t/\t<=1099511627776)
theorem CI(t:Int):AP t=true↔(-1099511627776<=t/\t<=1099511627776):=by simp[AP]
theorem Tf(t:Int):AP t=false↔ ¬(-1099511627776<=t/\t<=1099511627776):=by
 unfold AP;exact decide_eq_false_iff_not
theorem Ca(t:Int)(w:World):
 Calls Tryz.prog 88 #[.int .i64 t] w fun e w'=>e= .returned (.bool (AP t))/\w'=w:=by
 by_cases h1: -1099511627776<=t
 ·by_cases h2:t<=1099511627776
  ·have hf:AP t=true:=(CI t).2 ⟨h1,h2⟩
   rw[hf]
   go_enter func88,ntmps88
   go_wp2
   go_ret
   exact⟨rfl,rfl⟩
  ·have hf:AP t=false:=(Tf t).2 (by omega)
   rw[hf]
   go_enter func88,ntmps88
   go_wp2
   go_ret
   exact⟨rfl,rfl⟩
 ·have hf:AP t=false:=(Tf t).2 (by omega)
  rw[hf]
  go_enter func88,ntmps88
  go_wp2
  go_ret
  exact⟨rfl,rfl⟩
theorem Tg(zs:List Int)(k:Nat)(h:k<zs.length):(zs.take (k+1)).all AP=((zs.take k).all AP&&AP (zs[k]?.getD 0)):=by
 rw[List.take_succ_eq_append_getElem h,List.all_append,List.getElem?_eq_getElem h]
 simp only[List.all_cons,List.all_nil,Bool.and_true,Option.getD_some]
theorem Wl(zs:List Int)(k:Nat)(h:k<zs.length)(hf:AP (zs[k]?.getD 0)=false):zs.all AP=false:=by
 rw[List.all_eq_false]
 exact⟨zs[k],List.getElem_mem h,by simpa[List.getElem?_eq_getElem h]using hf⟩
theorem OM(b:Nat)(zs:List Int)(w:World)(hl:zs.length<=100)
 (hc:∀i,i<zs.length->w.cell? ⟨b,i,none⟩=some (.int .i64 (zs[i]?.getD 0))):
 Calls Tryz.prog 159 #[.slice (some ⟨b,0,none⟩) zs.length zs.length] w fun e w'=>e= .returned (.bool (zs.all AP))/\w'=w:=by
 go_enter func159,ntmps159
 go_wp2
 go_loop [7] (fun i=> ∃k:Nat,k<=zs.length/\i= .int .i64 k/\(zs.take k).all AP=true) (fun i=>zs.length - (intOf i).toNat)
 case atStart=>exact⟨0,Nat.zero_le _,rfl,rfl⟩
 case round=>
  obtain⟨k,hk,rfl,hall⟩:=hrel
  have HA:Hid ((zs.take k).all AP=true):=hall
  clear hall
  by_cases hlt:k<zs.length
  ·have hcell:=hc k hlt
   obtain⟨z,hz0⟩:=nM (zs[k]?.getD 0)
   rw[hz0]at hcell
   have HZ:Hid (zs[k]?.getD 0=z):=hz0
   clear hc hz0
   by_cases hf:AP z=true
   ·go_wp2_with (go_at_call 88;refine(Ca _ _).mono ?_;rintro e w' ⟨rfl,hw⟩;subst hw)
    go_round
    case rel=>exact⟨k+1,by omega,by go_num,by rw[Tg zs k hlt,HA.out,HZ.out,hf];rfl⟩
    case measure=>simp[intOf];omega
   ·have hf':AP z=false:=by simpa using hf
    have hz:Hid (zs.all AP=false):=Wl zs k hlt (by rw[HZ.out];exact hf')
    go_wp2_with (go_at_call 88;refine(Ca _ _).mono ?_;rintro e w' ⟨rfl,hw⟩;subst hw)
    go_ret
    exact⟨by rw[hz.out];rfl,rfl⟩
  ·have hz:Hid (zs.all AP=true):=by
    show zs.all AP=true
    have h:=HA.out
    rwa[List.take_of_length_le (by omega)]at h
   go_wp2
   go_ret
   exact⟨by rw[hz.out];rfl,rfl⟩
def UH(a b:Int):Bool:=AP a&&AP b
theorem PX(b:Nat)(x y:Int)(w:World)
 (h0:w.cell? ⟨b,0,none⟩=some (.int .i64 x)) (h1:w.cell? ⟨b,1,none⟩=some (.int .i64 y)):
 Calls Tryz.prog 159 #[.slice (some ⟨b,0,none⟩) 2 2] w fun e w'=>e= .returned (.bool (UH x y))/\w'=w:=by
 have h:=OM b [x,y] w (by simp) (fun i hi=>by
  match i,hi with
  |0,_=>exact h0
  |1,_=>exact h1)
 refine h.mono fun e w' ⟨he,hw⟩=>⟨?_,hw⟩
 rw[he];simp[UH]
def start(t s:Int):Int:=t - t % s
theorem Th(t s:Int)(ht:t<0)(hs:0<s):t.tmod s= -((-t) % s):=by
 have:=Int.neg_tmod (-t) s
 rw[Int.neg_neg]at this
 rw[this,Int.tmod_eq_emod_of_nonneg (by omega)]
theorem UI(t s:Int)(hs:0<s):(-t % s=0/\t % s=0)\/(0< -t % s/\t % s=s - -t % s):=by
 have n1:=Int.emod_nonneg t (show s≠0 by omega)
 have n2:=Int.emod_lt_of_pos t hs
 have n3:=Int.emod_nonneg (-t) (show s≠0 by omega)
 have n4:=Int.emod_lt_of_pos (-t) hs
 have d1:=Int.mul_ediv_add_emod t s
 have d2:=Int.mul_ediv_add_emod (-t) s
 have d3:s * (t/s+ -t/s)= -(t % s+ -t % s):=by rw[Int.mul_add];omega
 obtain⟨k,hk⟩:∃k,t/s+ -t/s=k:=⟨_,rfl⟩
 rw[hk]at d3
 have k1:k<=0:=by
  rcases Int.lt_or_le 0 k with h|h
  ·have:=Int.mul_pos hs h;omega
  ·exact h
 have k2: -2<k:=by
  rcases Int.lt_or_le (-2) k with h|h
  ·exact h
  ·have:=Int.mul_le_mul_of_nonneg_left h (Int.le_of_lt hs);omega
 have k3:k=0\/k= -1:=by omega
 rcases k3 with rfl|rfl<;>omega
theorem tup3{a b c a' b' c':Int}(h1:a=a')(h2:b=b')(h3:c=c'):
 Ending.returned (.tuple #[.int .i64 a,.int .i64 b,.int .i64 c])= .returned (.tuple #[.int .i64 a',.int .i64 b',.int .i64 c']):=by rw[h1,h2,h3]
theorem Ti(t s:Int)(hs:0<s):start t s<=t/\t<start t s+s:=by
 unfold start
 have:=Int.emod_nonneg t (show s≠0 by omega)
 have:=Int.emod_lt_of_pos t hs
 omega
theorem J5(t s:Int)(w:World)(h:AP t=true)(h1:1<=s)(h2:s<=1099511627776):
 Calls Tryz.prog 160 #[.int .i64 t,.int .i64 s] w fun e w'=>e= .returned (.tuple #[.int .i64 (start t s),.int .i64 (start t s+s),.int .i64 0])/\w'=w:=by
 have hb:=(CI t).1 h
 obtain⟨b1,b2⟩:=hb
 have hn1:¬s<1:=by omega
 have hn2:¬1099511627776<s:=by omega
 have s0:(s==0)=false:=by simp;omega
 by_cases ht:0<=t
 ·have e1:=Int.emod_nonneg t (show s≠0 by omega)
  have e2:=Int.emod_lt_of_pos t (show 0<s by omega)
  go_enter func160,ntmps160
  go_wp2_with (go_at_call 88;refine(Ca _ _).mono ?_;rintro e w' ⟨rfl,hw⟩;subst hw)
  go_ret3
  exact⟨rfl,rfl⟩
 ·have e0:=Th t s (by omega) (by omega)
  have e1:=Int.emod_nonneg (-t) (show s≠0 by omega)
  have e2:=Int.emod_lt_of_pos (-t) (show 0<s by omega)
  have HM:Hid ((-t % s=0/\t % s=0)\/(0< -t % s/\t % s=s - -t % s)):=UI t s (by omega)
  go_enter func160,ntmps160
  go_wp2_with (go_at_call 88;refine(Ca _ _).mono ?_;rintro e w' ⟨rfl,hw⟩;subst hw)
  all_goals
   have hm:=HM.out
   go_ret3
   exact⟨tup3 (by unfold start;omega) (by unfold start;omega) rfl,rfl⟩
end tm
namespace pl
open Go.ChangeShapes Go.WideShapes Go.ChangeAt Go.RowKit
open vl
variable {w w' : World} {a : Option Addr}
def A4(w:World)(a:Option Addr)(l:List Int):Prop:=
 ∀i,i<l.length->∃b off,a=some ⟨b,off,none⟩/\w.cell? ⟨b,off+i,none⟩=some (.int .i64 (l.getD i 0))
def Fa(w:World)(a:Option Addr)(l:List (Int×Int)):Prop:=
 ∀i,i<l.length->∃b off,a=some ⟨b,off,none⟩/\w.cell? ⟨b,off+i * 2,none⟩=some (.int .i64 (l.getD i (0,0)).1)/\w.cell? ⟨b,off+i * 2+1,none⟩=some (.int .i64 (l.getD i (0,0)).2)
theorem At{l:List Int}(h:A4 w a l)(hb:Bwz w w'):A4 w' a l:=by
 intro i hi
 obtain⟨b,o,e,x⟩:=h i hi
 exact⟨b,o,e,cLz hb x⟩
theorem DL{l:List (Int×Int)}(h:Fa w a l)(hb:Bwz w w'):Fa w' a l:=by
 intro i hi
 obtain⟨b,o,e,x,y⟩:=h i hi
 exact⟨b,o,e,cLz hb x,cLz hb y⟩
structure Pln where
 kind:Int
 mode:Int
 low:Int
 high:Int
 size:Int
 limit:Int
 left:List Int
 right:List Int
 lkeys:List Int
 rkeys:List Int
 grouped:Bool
 group:List Int
 aggs:List (Int×Int)
structure PA where
 l:Option Addr
 lc:Nat
 r:Option Addr
 rc:Nat
 lk:Option Addr
 lkc:Nat
 rk:Option Addr
 rkc:Nat
 g:Option Addr
 gc:Nat
 a:Option Addr
 ac:Nat
def As(p:Pln)(x:PA):Value:=
 .agg #[.int .i64 p.kind,.int .i64 p.mode,.int .i64 p.low,.int .i64 p.high,.int .i64 p.size,.int .i64 p.limit,
  .slice x.l p.left.length x.lc,.slice x.r p.right.length x.rc,.slice x.lk p.lkeys.length x.lkc,.slice x.rk p.rkeys.length x.rkc,.bool p.grouped,.slice x.g p.group.length x.gc,.slice x.a p.aggs.length x.ac]
structure planAt(w:World)(p:Pln)(x:PA):Prop where
 l:A4 w x.l p.left
 r:A4 w x.r p.right
 lk:A4 w x.lk p.lkeys
 rk:A4 w x.rk p.rkeys
 g:A4 w x.g p.group
 a:Fa w x.a p.aggs
theorem Ah{p:Pln}{x:PA}(h:planAt w p x)(hb:Bwz w w'):planAt w' p x:=
 ⟨At h.l hb,At h.r hb,At h.lk hb,At h.rk hb,At h.g hb,DL h.a hb⟩
def i64(n:Int):Prop:= -9223372036854775808<=n/\n<=9223372036854775807
structure wfPlan(p:Pln):Prop where
 low:i64 p.low
 high:i64 p.high
 l:p.left.length<=9223372036854775807
 r:p.right.length<=9223372036854775807
 lk:p.lkeys.length<=9223372036854775807
 rk:p.rkeys.length<=9223372036854775807
 g:p.group.length<=9223372036854775807
 a:p.aggs.length<=9223372036854775807
def fit(t:Int):Prop:= -1099511627776<=t/\t<=1099511627776
instance(t:Int):Decidable (fit t):=by unfold fit;infer_instance
def CJ(p:Pln):Prop:=(1<=p.kind/\p.kind<=3)/\(1<=p.mode/\p.mode<=(if p.kind=3 then 2 else 4))/\(p.grouped=true->∀a∈p.aggs,1<=a.1/\a.1<=4)
def Cn(p:Pln):Prop:=(if p.kind=1 then fit p.low/\fit p.high else p.low=0/\p.high=0)/\(if p.kind=2 then 1<=p.size/\p.size<=1099511627776 else p.size=0)/\(1<=p.limit/\p.limit<=64)
def Hj(n:Nat):Prop:=1<=n/\n<=4
instance(n:Nat):Decidable (Hj n):=by unfold Hj;infer_instance
def CQ(p:Pln):Prop:=(Hj p.left.length/\Hj p.right.length/\Hj p.lkeys.length/\Hj p.rkeys.length)/\(if p.grouped=true then Hj p.aggs.length/\p.group.length+p.aggs.length<=8 else p.group.length=0/\p.aggs.length=0)
def Cy(p:Pln):List Int:=p.left++p.right
def Cv(p:Pln):Prop:=∀c∈Cy p,1<=c/\c<=3
def AF(l:List Int)(n:Nat):Prop:=(∀x∈l,0<=x/\x<(n:Int))/\l.Pairwise (· ≠ ·)
def En(p:Pln):Prop:=∀i,i<p.lkeys.length->p.left.getD (p.lkeys.getD i 0).toNat 0=p.right.getD (p.rkeys.getD i 0).toNat 0
def J6(c:List Int)(a:Int×Int):Prop:=if a.1=1 then a.2=0 else(0<=a.2/\a.2<(c.length:Int))/\(a.1=2->c.getD a.2.toNat 0=2)
def Fv(p:Pln):Prop:=p.lkeys.length=p.rkeys.length/\AF p.lkeys p.left.length/\AF p.rkeys p.right.length/\En p
def Cg(p:Pln):Prop:=p.low<=p.high/\Fv p/\AF p.group (Cy p).length/\(∀a∈p.aggs,J6 (Cy p) a)
instance(p:Pln):Decidable (CJ p):=by unfold CJ;infer_instance
instance(p:Pln):Decidable (Cn p):=by unfold Cn;infer_instance
instance(p:Pln):Decidable (CQ p):=by unfold CQ;infer_instance
instance(p:Pln):Decidable (Cv p):=by unfold Cv;infer_instance
instance(l:List Int)(n:Nat):Decidable (AF l n):=by unfold AF;infer_instance
instance(p:Pln):Decidable (En p):=by unfold En;infer_instance
instance(c:List Int)(a:Int×Int):Decidable (J6 c a):=by unfold J6;infer_instance
instance(p:Pln):Decidable (Fv p):=by unfold Fv;infer_instance
instance(p:Pln):Decidable (Cg p):=by unfold Cg;infer_instance
def Ai(p:Pln):Int:=
 if¬CJ p then 4 else if¬Cn p then 3 else if¬CQ p then 2 else if¬Cv p then 5 else if¬Cg p then 1 else 0
theorem BG{p:Pln}(h:Ai p=0):CJ p/\Cn p/\CQ p/\Cv p/\Cg p:=by
 unfold Ai at h
 by_cases h1:CJ p
 ·by_cases h2:Cn p
  ·by_cases h3:CQ p
   ·by_cases h4:Cv p
    ·by_cases h5:Cg p
     ·exact⟨h1,h2,h3,h4,h5⟩
     ·rw[if_neg (by simp[h1]),if_neg (by simp[h2]),if_neg (by simp[h3]),if_neg (by simp[h4]),if_pos h5]at h;cases h
    ·rw[if_neg (by simp[h1]),if_neg (by simp[h2]),if_neg (by simp[h3]),if_pos h4]at h;cases h
   ·rw[if_neg (by simp[h1]),if_neg (by simp[h2]),if_pos h3]at h;cases h
  ·rw[if_neg (by simp[h1]),if_pos h2]at h;cases h
 ·rw[if_pos h1]at h;cases h
end pl
namespace pl
open Go.ChangeShapes Go.WideShapes Go.ChangeAt Go.RowKit Go.Joins Go.Deep
open vl
theorem Wm:Tryz.prog.cellsOf 69=2:=by kernel_rfl
theorem Wn:Tryz.prog.cellsOf 25=13:=by kernel_rfl
theorem UJ:Tryz.prog.cellsOf 22=1:=by kernel_rfl
theorem UK:Tryz.prog.cellsOf 23=1:=by kernel_rfl
theorem Wo:Tryz.prog.cellsOf 4=1:=by kernel_rfl
section
variable {H : Type} {enc : TypeId × Value -> H} {w : World} {base : Nat} {spare : Nat -> Bool} {held : Bool}
theorem J7{x:Addr}{cs:List Value}{y:DataW H×List MemPlace}{fuel:Nat}(hc:w.cells? base x 1=some cs)(ht:DataW.trod enc Tryz.prog w base spare held fuel 3 cs=some y):
 ∃(b off:Nat) (n:Int),x=⟨b,off,none⟩/\w.cell? ⟨b,off,none⟩=some (.int .i64 n)/\i64 n:=by
 obtain⟨_,hlen,hat⟩:=World.cells?_some hc
 obtain⟨n,e0,_,wn⟩:=DataW.trod_int underlying3 ht
 subst e0
 obtain⟨b,off,spot⟩:=x
 have g0:=hat 0 (by omega)
 have hspot:spot=none:=by simpa[Addr.add]using World.cell?_spot g0
 subst hspot
 exact⟨b,off,n,rfl,by simpa[Addr.add]using g0,bounds_i64 wn⟩
theorem J8{x:Addr}{cs:List Value}{y:DataW H×List MemPlace}{fuel:Nat}(hc:w.cells? base x 2=some cs)(ht:DataW.trod enc Tryz.prog w base spare held fuel 69 cs=some y):
 ∃(b off:Nat) (n m:Int),x=⟨b,off,none⟩/\w.cell? ⟨b,off,none⟩=some (.int .i64 n)/\w.cell? ⟨b,off+1,none⟩=some (.int .i64 m)/\i64 n/\i64 m:=by
 obtain⟨_,hlen,hat⟩:=World.cells?_some hc
 obtain⟨y0,y1,k,_,_,h0,h1⟩:=trod_struct2 underlying69 ht
 match cs,hlen with
 |[a0,a1],_=>
  obtain⟨n,e0,_,wn⟩:=DataW.trod_int underlying3 h0
  obtain⟨m,e1,_,wm⟩:=DataW.trod_int underlying3 h1
  simp[CE]at e0
  simp[CE]at e1
  subst e0 e1
  obtain⟨b,off,spot⟩:=x
  have g0:=hat 0 (by omega)
  have g1:=hat 1 (by omega)
  have hspot:spot=none:=by simpa[Addr.add]using World.cell?_spot g0
  subst hspot
  exact⟨b,off,n,m,rfl,by simpa[Addr.add]using g0,by simpa[Addr.add]using g1,bounds_i64 wn,bounds_i64 wm⟩
theorem open_ints{v:Value}{y:DataW H×List MemPlace}{fuel:Nat}(hf:DataW.trod enc Tryz.prog w base spare held fuel 22 [v]=some y):
 ∃a cap l,v= .slice a (List.length (α:=Int) l) cap/\A4 w a l/\l.length<=9223372036854775807/\∀n∈l,i64 n:=by
 rcases open_slice underlying22 hf with⟨hcs,_⟩|⟨x,len,cap,m,n,D,Pl,hcs,_,hl,hm,hmm,_,hel⟩
 ·simp at hcs
  subst hcs
  exact⟨none,0,[],rfl,fun i hi=>absurd hi (Nat.not_lt_zero i),by simp,fun n hn=>by cases hn⟩
 ·simp at hcs
  subst hcs
  have hle:len<=m:=by rw[hmm];split<;>omega
  rw[CE]at hel
  obtain⟨f,hfam⟩:=choose_lt (α:=Int) (n:=len) (p:=fun i c=> ∃b off,x=⟨b,off,none⟩/\w.cell? ⟨b,off+i,none⟩=some (.int .i64 c)/\i64 c) (fun i hi=>by
   obtain⟨cs',h1,h2⟩:=hel i (by omega)
   obtain⟨b,off,c,e,g0,hw⟩:=J7 h1 h2
   obtain⟨cs0,z1,z2⟩:=hel 0 (by omega)
   obtain⟨b0,off0,c0,e0,_⟩:=J7 z1 z2
   have ex:x=⟨b0,off0,none⟩:=by simpa[Addr.add]using e0
   subst ex
   have ea:(⟨b0,off0,none⟩:Addr).add (i * 1)=⟨b0,off0+i,none⟩:=by unfold Addr.add;split<;>simp_all
   rw[ea]at e
   cases e
   exact⟨c,b,off0,rfl,g0,hw⟩)
  refine⟨some x,cap,(List.range len).map f,by simp,?_,by unfold maxLen at hm;simp;omega,?_⟩
  ·intro i hi
   have hi':i<len:=by simpa using hi
   obtain⟨b,off,rfl,g0,_⟩:=hfam i hi'
   have e:((List.range len).map f).getD i 0=f i:=by simp[gDe,hi']
   rw[e]
   exact⟨b,off,rfl,g0⟩
  ·intro c hc
   obtain⟨i,hi,rfl⟩:=List.mem_map.1 hc
   obtain⟨_,_,_,_,hw⟩:=hfam i (by simpa using hi)
   exact hw
theorem Re{v:Value}{y:DataW H×List MemPlace}{fuel:Nat}(hf:DataW.trod enc Tryz.prog w base spare held fuel 23 [v]=some y):
 ∃a cap l,v= .slice a (List.length (α:=Int×Int) l) cap/\Fa w a l/\l.length<=9223372036854775807/\∀n∈l,i64 n.1/\i64 n.2:=by
 rcases open_slice underlying23 hf with⟨hcs,_⟩|⟨x,len,cap,m,n,D,Pl,hcs,_,hl,hm,hmm,_,hel⟩
 ·simp at hcs
  subst hcs
  exact⟨none,0,[],rfl,fun i hi=>absurd hi (Nat.not_lt_zero i),by simp,fun n hn=>by cases hn⟩
 ·simp at hcs
  subst hcs
  have hle:len<=m:=by rw[hmm];split<;>omega
  rw[Wm]at hel
  obtain⟨f,hfam⟩:=choose_lt (α:=Int×Int) (n:=len) (p:=fun i c=> ∃b off,x=⟨b,off,none⟩/\w.cell? ⟨b,off+i * 2,none⟩=some (.int .i64 c.1)/\w.cell? ⟨b,off+i * 2+1,none⟩=some (.int .i64 c.2)/\i64 c.1/\i64 c.2) (fun i hi=>by
   obtain⟨cs',h1,h2⟩:=hel i (by omega)
   obtain⟨b,off,c,d,e,g0,g1,hw⟩:=J8 h1 h2
   obtain⟨cs0,z1,z2⟩:=hel 0 (by omega)
   obtain⟨b0,off0,c0,d0,e0,_⟩:=J8 z1 z2
   have ex:x=⟨b0,off0,none⟩:=by simpa[Addr.add]using e0
   subst ex
   have ea:(⟨b0,off0,none⟩:Addr).add (i * 2)=⟨b0,off0+i * 2,none⟩:=by unfold Addr.add;split<;>simp_all
   rw[ea]at e
   cases e
   exact⟨(c,d),b,off0,rfl,g0,g1,hw⟩)
  refine⟨some x,cap,(List.range len).map f,by simp,?_,by unfold maxLen at hm;simp;omega,?_⟩
  ·intro i hi
   have hi':i<len:=by simpa using hi
   obtain⟨b,off,rfl,g0,g1,_⟩:=hfam i hi'
   have e:((List.range len).map f).getD i (0,0)=f i:=by simp[gDe,hi']
   rw[e]
   exact⟨b,off,rfl,g0,g1⟩
  ·intro c hc
   obtain⟨i,hi,rfl⟩:=List.mem_map.1 hc
   obtain⟨_,_,_,_,_,hw⟩:=hfam i (by simpa using hi)
   exact hw
theorem UL{cs:Array Value}(h:cs.size=13):∃a b c d e f g h i j k l m,cs=#[a,b,c,d,e,f,g,h,i,j,k,l,m]:=by
 obtain⟨l⟩:=cs
 match l,h with
 |[a,b,c,d,e,f,g,h,i,j,k,l,m],_=>exact⟨a,b,c,d,e,f,g,h,i,j,k,l,m,rfl⟩
theorem Rf{r:Reach}{b0:Nat}{v:Value}{d:DataW H}{pl:List MemPlace}(hv:Value.okWide Tryz.prog w r b0 25 v)(h:DataW.Trod enc Tryz.prog w base spare held 25 v d pl):
 ∃p x,v=As p x/\planAt w p x/\wfPlan p:=by
 obtain⟨cs,rfl,hsz⟩:=okWide_struct underlying25 hv
 obtain⟨c0,c1,c2,c3,c4,c5,c6,c7,c8,c9,c10,c11,c12,rfl⟩:=UL (hsz.trans Wn)
 obtain⟨fuel,hf⟩:=h
 obtain⟨xs,n,_,_,_,hlen,hat⟩:=DataW.trod_struct underlying25 hf
 match xs,hlen with
 |[y0,y1,y2,y3,y4,y5,y6,y7,y8,y9,y10,y11,y12],_=>
  have h0:=hat 0 _ rfl
  have h1:=hat 1 _ rfl
  have h2:=hat 2 _ rfl
  have h3:=hat 3 _ rfl
  have h4:=hat 4 _ rfl
  have h5:=hat 5 _ rfl
  have h6:=hat 6 _ rfl
  have h7:=hat 7 _ rfl
  have h8:=hat 8 _ rfl
  have h9:=hat 9 _ rfl
  have h10:=hat 10 _ rfl
  have h11:=hat 11 _ rfl
  have h12:=hat 12 _ rfl
  simp[Value.cells,CE]at h0 h1 h2 h3 h4 h5
  simp[Value.cells,UJ]at h6 h7 h8 h9 h11
  simp[Value.cells,Wo]at h10
  simp[Value.cells,UK]at h12
  obtain⟨n0,e0,_,w0⟩:=DataW.trod_int underlying3 h0
  obtain⟨n1,e1,_,w1⟩:=DataW.trod_int underlying3 h1
  obtain⟨n2,e2,_,w2⟩:=DataW.trod_int underlying3 h2
  obtain⟨n3,e3,_,w3⟩:=DataW.trod_int underlying3 h3
  obtain⟨n4,e4,_,w4⟩:=DataW.trod_int underlying3 h4
  obtain⟨n5,e5,_,w5⟩:=DataW.trod_int underlying3 h5
  obtain⟨a6,k6,l6,e6,i6,m6,j6⟩:=open_ints h6
  obtain⟨a7,k7,l7,e7,i7,m7,j7⟩:=open_ints h7
  obtain⟨a8,k8,l8,e8,i8,m8,j8⟩:=open_ints h8
  obtain⟨a9,k9,l9,e9,i9,m9,j9⟩:=open_ints h9
  obtain⟨n10,e10,_⟩:=DataW.trod_bool underlying4 h10
  obtain⟨a11,k11,l11,e11,i11,m11,j11⟩:=open_ints h11
  obtain⟨a12,k12,l12,e12,i12,m12,j12⟩:=Re h12
  simp only[List.cons.injEq,and_true]at e0 e1 e2 e3 e4 e5 e10
  subst e0 e1 e2 e3 e4 e5 e6 e7 e8 e9 e10 e11 e12
  exact⟨⟨n0,n1,n2,n3,n4,n5,l6,l7,l8,l9,n10,l11,l12⟩,⟨a6,k6,a7,k7,a8,k8,a9,k9,a11,k11,a12,k12⟩,rfl,⟨i6,i7,i8,i9,i11,i12⟩,⟨bounds_i64 w2,bounds_i64 w3,m6,m7,m8,m9,m11,m12⟩⟩
end
end pl
end Go.Proofs.YtdohnkkbkfhphaaGreat
