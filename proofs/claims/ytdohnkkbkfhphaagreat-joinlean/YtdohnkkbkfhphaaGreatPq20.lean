import Derived.Test.YtdohnkkbkfhphaaGreatPq19
import Derived.Laws.AppendOwnNone
set_option linter.all false
set_option maxHeartbeats 8000000
set_option maxRecDepth 100000
namespace Go.Proofs.YtdohnkkbkfhphaaGreat
open Go.Proofs.Tryz
namespace ch
open Go.ChangeShapes Go.WideShapes Go.ChangeAt Go.RowKit Go.Maps Go.WideMaps
open vl
variable {r : List Cel} {a n : Int} {B b base cap nn : Nat} {w w' : World} {out v : List Cnt} {l : List Chg} {ad : Option Addr} {kv : KV} {k : List UInt8}
theorem VE:(Tryz.prog.info? 9).map (fun i=>(i.zero,i.size,i.bytes))=some (some (.string ⟨#[]⟩),1,16):=by kernel_rfl
def NY(c:Chg):Value:=.string ⟨(encR c.r).toArray⟩
theorem Ug(h:rowOk r):(.string (Eb r):Value)= .string ⟨(encR r).toArray⟩:=by
 rw[<-Hi h]
theorem NZ{ops:Array Oper}{rest:List Oper}{o:Oper}{a:Act}{Q:Exit->Act->World->Prop}(hgd:o.guard=none)(s x:Operand)
 (ho:o.op= .call {callee:=.builtin .append,args:=#[s,x],argTypes:=#[118,118]}) (base:Nat) (v:Value) (n:Nat) (xs:List Value) (hs:a.eval s=v) (w0:World)
 (hown:w0.ownsRow base 9 1 v n xs) (X:ByteArray) (B:Nat) (hB:w0.heap.size=B) (hx:a.eval x= .slice (some ⟨B,0,none⟩) 1 1) (hl:n<=2000000) (hb:base<=w0.heap.size)
 (h:∀v' w',w'.ownsRow base 9 1 v' (n+1) (xs++[.string X])->(w0.alloc (.cells #[.string X] 9)).grownBy w' v.ownBlock->wpList Tryz.prog ops Q rest (a.put o.dst v') w'):
 wpList Tryz.prog ops Q (o::rest) a (w0.alloc (.cells #[.string X] 9)):=by
 subst hB
 obtain⟨i0,hi,hz0,hz1,hz2⟩:=info_parts VE
 refine wpList_append_own _ hgd s x 118 ho base 9 i0 (.string ⟨#[]⟩) 1 16 underlying118 hi hz0 hz1 hz2 rfl (by decide) v n xs hs
  (World.ownsRow.alloc hown _) ⟨w0.heap.size,0,none⟩ 1 1 [.string X] hx rfl (cell_one_new _ _ _) (by intro u hu;simp at hu;subst hu;rfl) (by unfold maxLen;omega) (by omega) (by simp;omega) ?_
 intro v' w' h1 h2 _
 exact h v' w' h1 h2
theorem Qy{w0:World}{e:TypeId}{size n:Nat}{xs:List Value}{v:Value}{o:Obj}(hb:Below base w w0)(h0:base<=w0.heap.size)(hown:w0.ownsRow base e size v n xs)(hg:(w0.alloc o).grownBy w' v.ownBlock):Below base w w':=
 (hb.alloc h0 o).grown hg (by simp;omega) (fun k hk=>(World.ownsRow.lt hown k hk).1)
theorem LE(h:4096<l.length):AL l=2:=by unfold AL;rw[if_pos h]
theorem Oa(h1:¬4096<l.length)(k:Nat)(hk:k<l.length)(h:∀i,i<k->Jk l i)(he:E5 l k≠0):AL l=E5 l k:=by
 unfold AL;rw[if_neg h1,S8 _ (fun i hi=>Lf (h i hi)) he hk]
theorem takeC(l:List Chg)(k:Nat)(h:k<l.length):l.take (k+1)=l.take k++[l.getD k default]:=by
 rw[List.take_succ_eq_append_getElem h];simp[gDe,h]
theorem Ob(h:w.ownsRow base 9 1 (.slice ad l.length cap) l.length (l.map NY)):EU w ad l:=by
 intro i hi
 obtain⟨ad',cap',hv,hg⟩:=GV h
 cases hv
 obtain⟨g,rfl⟩:=hg (by omega)
 refine⟨g,rfl,?_⟩
 have h1:=World.ownsRow.cells h (g:=g) rfl i (.string ⟨(encR (l.getD i default).r).toArray⟩) (by
  simp[List.getElem?_map,gEe hi,gDe,NY])
 have e:(⟨g,0,none⟩:Addr).add i=⟨g,i,none⟩:=by unfold Addr.add;split<;>simp_all
 rw[e]at h1
 exact h1
theorem Uh{b:Int}(h:a=b):Ending.returned (.tuple #[.slice none 0 0,.int .i64 a])= .returned (.tuple #[.slice none 0 0,.int .i64 b]):=by rw[h]
theorem VV{a:Nat}(h:a=b):Ending.returned (.tuple #[.slice ad a cap,.int .i64 0])= .returned (.tuple #[.slice ad b cap,.int .i64 0]):=by rw[h]
def PE(l:List Chg)(e:Ending)(w':World):Prop:=
 (AL l=0/\Cg l/\∃ad cap,e= .returned (.tuple #[.slice ad l.length cap,.int .i64 0])/\EU w' ad l)\/
 (AL l≠0/\e= .returned (.tuple #[.slice none 0 0,.int .i64 (AL l)]))
theorem GJ{x:Int}(h:AL l=x)(hx:x≠0):PE l (.returned (.tuple #[.slice none 0 0,.int .i64 x])) w':=.inr ⟨by rw[h];exact hx,Uh h.symm⟩
theorem Oc(a:Option Addr)(cap:Nat)(l:List Chg)(w:World)(hv:Df w a l)(hw:Gn l)(hl:l.length<=9223372036854775807):
 Calls Tryz.prog 70 #[.slice a l.length cap] w fun e w'=>PE l e w'/\Bwz w w':=by
 have KP:Hid (∀w,Df w a l->l.length<=1000000->∀i,i<l.length->Calls Tryz.prog 131 #[.slice a l.length cap,.int .i64 i] w fun e w'=>e= .returned (.bool (Bi l i))/\Bwz w w'):=fun w h hl i hi=>O6 a cap l i w h hw hl hi
 obtain⟨n,hn⟩:∃n,l.length=n:=⟨_,rfl⟩
 have HN:Hid (l.length=n):=hn
 rw[hn]at hl KP⊢
 clear hn
 by_cases h4:4096<n
 ·have HE:Hid (AL l=2):=LE (by rw[HN.out];exact h4)
  go_enter func70,ntmps70
  go_wp2
  go_ret2
  exact⟨GJ HE.out (by decide),bR⟩
 ·obtain⟨i0,hi,hz0,hz1,hz2⟩:=info_parts VE
  obtain⟨wm,hmk,hown,hgr⟩:=run_make_own (P:=Tryz.prog) w w.heap.size 118 9 i0 (.string ⟨#[]⟩) 1 underlying118 hi hz0 hz1 .i64 .i64 n (by rw[hz2];omega) (by unfold maxLen;omega) nR
  have hbm:Bwz w wm:=bR.grown hgr nR (fun k hk=>by cases hk)
  have HOWN:Hid (wm.ownsRow w.heap.size 9 1 (.slice (some ⟨w.heap.size,0,none⟩) 0 n) 0 []):=hown
  have HV:Hid (Df w a l):=hv
  clear hi hz0 hz1 hz2 hown hgr hv
  go_enter func70,ntmps70
  go_wp2
  go_loopw [4,17] (fun v i wr=> ∃k:Nat,k<=n/\i= .int .i64 k/\wr.ownsRow w.heap.size 9 1 v k ((l.take k).map NY)/\Bwz w wr/\(∀i,i<k->Jk l i)) (fun _ i _=>n - (intOf i).toNat)
  case atStart=>exact⟨0,by omega,rfl,HOWN.out,hbm,fun i hi=>absurd hi (Nat.not_lt_zero i)⟩
  case round=>
   obtain⟨k,hk,rfl,hown,hnx,hall⟩:=hrel
   have HO:Hid (wr.ownsRow w.heap.size 9 1 u4 k ((l.take k).map NY)):=hown
   have HA:Hid (∀i,i<k->Jk l i):=hall
   have hsz:=hnx.size
   clear hown hall
   by_cases hlt:k<n
   ·have hkl:k<l.length:=by rw[HN.out];exact hlt
    obtain⟨b,o,ra,rc,e,x1,x2,x3⟩:=HV.out k hkl
    subst e
    obtain⟨ww1,ww2,ww3,ww4⟩:=S7 hw k hkl
    have q1:=cLz hnx x1
    have q2:=cLz hnx x2
    have HR:Hid (vl.rowAt wr ra (l.getD k default).r):=Ac x3 hnx
    have i1:(0:Int)<=(k:Int):=by omega
    have i2:(k:Int)<(n:Int):=by omega
    have HB:Hid (E5 l k≠0->AL l=E5 l k):=fun he=>Oa (by rw[HN.out];exact h4) k hkl HA.out he
    have HS:Hid ((l.take (k+1)).map NY=(l.take k).map NY++[.string ⟨(encR (l.getD k default).r).toArray⟩]):=by
     show(l.take (k+1)).map NY=_
     rw[takeC l k hkl,List.map_append];rfl
    have HDEF:Hid (E5 l k=if (l.getD k default).k<1\/4<(l.getD k default).k then 4 else if AE (l.getD k default).r=0 then(if Bi l k then 0 else 6)else AE (l.getD k default).r):=rfl
    have HPW:Hid (∀w',Bwz w w'->Calls Tryz.prog 131 #[.slice (some ⟨b,o,none⟩) n cap,.int .i64 k] w' fun e w''=>e= .returned (.bool (Bi l k))/\Bwz w' w''):=fun w' hb=>KP.out w' (ET HV.out hb) (by omega) k hlt
    obtain⟨⟨m,r⟩,hcv⟩:∃c,l.getD k default=c:=⟨_,rfl⟩
    rw[hcv]at q1 q2 HR HS HDEF ww1 ww2 ww3 ww4
    dsimp only at q1 q2 HR HS HDEF ww1 ww2 ww3 ww4
    clear x1 x2 x3 hcv
    obtain⟨rl,hrl⟩:∃l,r.length=l:=⟨_,rfl⟩
    rw[hrl]at q2
    have KK:Hid (∀w,vl.rowAt w ra r->Calls Tryz.prog 109 #[.slice ra rl rc] w fun e w'=>e= .returned (.tuple #[.string (Eb r),.int .i64 (AE r)])/\Bwz w w'):=by
     subst hrl;exact fun w h=>IU ra rc r w h ww1 ww2
    by_cases e1:m<1
    ·have HE:Hid (AL l=4):=by
      have hd:=HDEF.out
      rw[if_pos (.inl e1)]at hd
      show AL l=4
      rw[HB.out (by rw[hd];decide),hd]
     go_wp2
     go_ret2
     exact⟨GJ HE.out (by decide),hnx.alloc hsz _⟩
    ·have e1':decide (m<1)=false:=decide_eq_false e1
     by_cases e2:4<m
     ·have HE:Hid (AL l=4):=by
       have hd:=HDEF.out
       rw[if_pos (.inr e2)]at hd
       show AL l=4
       rw[HB.out (by rw[hd];decide),hd]
      go_wp2
      go_ret2
      exact⟨GJ HE.out (by decide),hnx.alloc hsz _⟩
     ·have e2':decide (4<m)=false:=decide_eq_false e2
      by_cases e3:AE r=0
      ·have hok8:rowOk r:=JZ e3 ww1
       have HKS:Hid ((.string (Eb r):Value)= .string ⟨(encR r).toArray⟩):=Ug hok8
       obtain⟨ks,hks⟩:∃s,Eb r=s:=⟨_,rfl⟩
       obtain⟨pb,hpb⟩:∃x,Bi l k=x:=⟨_,rfl⟩
       rw[hks]at KK HKS
       rw[hpb]at HPW HDEF
       have HPB:Hid (Bi l k=pb):=hpb
       clear hks hok8 hpb
       cases pb
       ·have HE:Hid (AL l=6):=by
         have hd:=HDEF.out
         rw[if_neg (by omega),if_pos e3,if_neg (by decide)]at hd
         show AL l=6
         rw[HB.out (by rw[hd];decide),hd]
        go_wp2_with (first
         |(go_at_call 109;refine(KK.out _ (Ac HR.out (bR.alloc nR _))).mono ?_;rintro e wa ⟨rfl,hba⟩;have hla:=(hnx.alloc hsz _).trans (hba.mono (by simp;omega)))
         |(go_at_call 131;refine(HPW.out _ hla).mono ?_;rintro e wb ⟨rfl,hbb⟩))
        go_ret2
        exact⟨GJ HE.out (by decide),hla.trans (hbb.mono hla.size)⟩
       ·have HE:Hid (Jk l k):=MW (by
         have hd:=HDEF.out
         rw[if_neg (by omega),if_pos e3,if_pos rfl]at hd
         exact hd)
        go_wp2_with (first
         |(go_at_call 109;refine(KK.out _ (Ac HR.out (bR.alloc nR _))).mono ?_;rintro e wa ⟨rfl,hba⟩;have hla:=(hnx.alloc hsz _).trans (hba.mono (by simp;omega));have hbw:Bwz wr wa:=(bR.alloc nR _).trans (hba.mono (by simp)))
         |(go_at_call 131;refine(HPW.out _ hla).mono ?_;rintro e wb ⟨rfl,hbb⟩;have hlb:=hla.trans (hbb.mono hla.size);have HOB:=own_below HO.out (hbw.trans (hbb.mono hbw.size)))
         |(at_builtin;refine NZ rfl (.tmp 43) (.tmp 45) rfl w.heap.size _ k _ rfl _ HOB _ _ rfl rfl (by omega) hlb.size ?_;intro v' w1 hown1 hgrow1))
        go_roundw
        case rel=>exact⟨k+1,by omega,by go_num,by rw[HS.out,<-HKS.out];exact hown1,Qy hlb hlb.size HOB hgrow1,fun i hi=>by
         rcases Nat.lt_or_ge i k with h|h
         ·exact HA.out i h
         ·rw[show i=k by omega];exact HE.out⟩
        case measure=>simp[intOf];omega
      ·have e3':(AE r==0)=false:=by simpa using e3
       have HE:Hid (AL l=AE r):=by
        have hd:=HDEF.out
        rw[if_neg (by omega),if_neg e3]at hd
        show AL l=AE r
        rw[HB.out (by rw[hd];exact e3),hd]
       go_wp2_with (go_at_call 109;refine(KK.out _ (Ac HR.out (bR.alloc nR _))).mono ?_;rintro e wa ⟨rfl,hba⟩;have hla:=(hnx.alloc hsz _).trans (hba.mono (by simp;omega)))
       go_ret2
       exact⟨GJ HE.out e3,hla⟩
   ·have hkn:k=n:=by omega
    have HT:Hid (l.take k=l):=List.take_of_length_le (by rw[HN.out];omega)
    have HO2:Hid (Cg l):=⟨by rw[HN.out];omega,fun i hi=>HA.out i (by rw[HN.out]at hi;omega)⟩
    obtain⟨ad,cap2,hv2,_⟩:=GV HO.out
    subst hv2
    go_wp2
    go_ret2
    exact⟨.inl ⟨U6 HO2.out,HO2.out,ad,cap2,VV (hkn.trans HN.out.symm),Ob (by have h:=HO.out;rw[HT.out,hkn]at h;rw[HN.out];exact h)⟩,hnx⟩
def keyed(kv:KV):Prop:=∀p∈kv,∃r,rowOk r/\encR r=p.1
structure good(kv:KV):Prop where
 up:rising kv
 len:kv.length<=4096
 cnt:∀p∈kv,1<=p.2/\p.2<=1073741824
 key:keyed kv
theorem before_total:∀(a b:List UInt8),bytesBefore a b=false->a≠b->bytesBefore b a=true
 |[],[],_,h=>absurd rfl h
 |[],_::_,h,_=>by simp[bytesBefore]at h
 |_::_,[],_,_=>by simp[bytesBefore]
 |a::x,b::y,h,hne=>by
  rw[bytesBefore]at h⊢
  by_cases e:a=b
  ·subst e
   have hx:x≠y:=fun e=>hne (by rw[e])
   have h1:bytesBefore x y=false:=by simpa using h
   simp[before_total x y h1 hx]
  ·have h1:¬a<b:=by
    intro hl
    simp[hl]at h
   have h2:b<a:=by
    rw[UInt8.lt_iff_toNat_lt]at h1⊢
    have:a.toNat≠b.toNat:=fun h=>e (UInt8.toNat_inj.1 h)
    omega
   simp[h2]
theorem mem_ins(x:List UInt8×Int)(l:KV):∀p,p∈insK x l↔p=x\/p∈l:=by
 induction l with
 |nil=>intro p;simp[insK]
 |cons y r ih=>
  intro p
  rw[insK]
  split
  ·simp
  ·rw[List.mem_cons,ih p,List.mem_cons]
   constructor
   ·rintro (h|h|h)
    ·exact .inr (.inl h)
    ·exact .inl h
    ·exact .inr (.inr h)
   ·rintro (h|h|h)
    ·exact .inr (.inl h)
    ·exact .inl h
    ·exact .inr (.inr h)
theorem Ui(x:List UInt8×Int)(l:KV):(insK x l).length=l.length+1:=by
 induction l with
 |nil=>rfl
 |cons y r ih=>
  rw[insK]
  split
  ·rfl
  ·rw[List.length_cons,ih,List.length_cons]
theorem Od{x:List UInt8×Int}{l:KV}(h:rising l)(hx:∀p∈l,p.1≠x.1):rising (insK x l):=by
 induction l with
 |nil=>exact List.pairwise_singleton _ _
 |cons y r ih=>
  have h1:=List.pairwise_cons.1 h
  rw[insK]
  split
  ·rename_i hb
   refine List.pairwise_cons.2 ⟨?_,h⟩
   intro p hp
   rcases List.mem_cons.1 hp with e|hp
   ·rw[e];exact hb
   ·exact before_trans hb (h1.1 p hp)
  ·rename_i hb
   refine List.pairwise_cons.2 ⟨?_,ih h1.2 (fun p hp=>hx p (List.mem_cons_of_mem _ hp))⟩
   intro p hp
   rcases(mem_ins x r p).1 hp with e|hp
   ·rw[e]
    exact before_total _ _ (by simpa using hb) (fun e=>hx y (List.mem_cons_self ..) e.symm)
   ·exact h1.1 p hp
theorem IM{p:List UInt8×Int}:p∈GB kv k↔p∈kv/\p.1≠k:=by
 unfold GB
 rw[List.mem_filter]
 simp
theorem Ja(h:rising kv)(k:List UInt8):rising (GB kv k):=List.Pairwise.filter _ h
theorem PF(kv:KV)(k:List UInt8):(GB kv k).length<=kv.length:=List.length_filter_le _ _
theorem Oe(h:rising kv)(k:List UInt8)(n:Int):rising (Ht kv k n):=Od (Ja h k) (fun p hp=>(IM.1 hp).2)
theorem mem_put{p:List UInt8×Int}:p∈Ht kv k n↔p=(k,n)\/(p∈kv/\p.1≠k):=by
 unfold Ht
 rw[mem_ins,IM]
theorem M9(h:Dl kv k≠0):(k,Dl kv k)∈kv:=by
 unfold Dl at *
 cases e:kv.find? (fun p=>p.1==k)with
 |none=>rw[e]at h;exact absurd rfl h
 |some p=>
  dsimp only
  have h1:=List.mem_of_find?_eq_some e
  have h2:=List.find?_some e
  have h3:p.1=k:=by simpa using h2
  rw[<-h3]
  exact h1
theorem Of(h:Dl kv k≠0):(GB kv k).length<kv.length:=by
 have hm:=M9 h
 unfold GB
 rw[List.length_filter_lt_length_iff_exists]
 exact⟨_,hm,by simp⟩
theorem Uj:(Ht kv k n).length=(GB kv k).length+1:=by unfold Ht;rw[Ui]
theorem Qz(h:keyed kv)(k:List UInt8):keyed (GB kv k):=fun p hp=>h p (IM.1 hp).1
theorem Q0(h:keyed kv)(hr:rowOk r)(n:Int):keyed (Ht kv (encR r) n):=fun p hp=>by
 rcases mem_put.1 hp with e|e
 ·subst e;exact⟨r,hr,rfl⟩
 ·exact h p e.1
theorem Sj(h:good kv)(k:List UInt8):0<=Dl kv k/\Dl kv k<=1073741824:=by
 by_cases e:Dl kv k=0
 ·omega
 ·have:=h.cnt _ (M9 e)
  exact⟨by omega,this.2⟩
theorem Sk(h:good kv)(hr:rowOk r)(n:Int):good (Pt kv (encR r) n):=by
 unfold Pt
 split
 ·exact h
 ·split
  ·exact h
  ·split
   ·exact⟨Ja h.up _,Nat.le_trans (PF _ _) h.len,fun p hp=>h.cnt p (IM.1 hp).1,Qz h.key _⟩
   ·split
    ·exact h
    ·rename_i h1 h2 h3 h4
     refine⟨Oe h.up _ _,?_,?_,Q0 h.key hr _⟩
     ·rw[Uj]
      have hl:=h.len
      by_cases e:Dl kv (encR r)=0
      ·have:=PF kv (encR r)
       have h5:kv.length≠4096:=fun h=>h4 ⟨e,h⟩
       omega
      ·have:=Of e
       omega
     ·intro p hp
      rcases mem_put.1 hp with e|e
      ·subst e;exact⟨by dsimp only;omega,by dsimp only;omega⟩
      ·exact h.cnt p e.1
theorem Q1(h:keyed kv):∃out:List Cnt,AB out=kv/\∀c∈out,rowOk c.r:=by
 induction kv with
 |nil=>exact⟨[],rfl,fun c hc=>by cases hc⟩
 |cons p r ih=>
  obtain⟨out,h1,h2⟩:=ih (fun q hq=>h q (List.mem_cons_of_mem _ hq))
  obtain⟨ro,h3,h4⟩:=h p (List.mem_cons_self ..)
  refine⟨⟨ro,p.2⟩::out,?_,?_⟩
  ·show(encR ro,p.2)::AB out=p::r
   rw[h1,h4]
  ·intro c hc
   rcases List.mem_cons.1 hc with e|hc
   ·rw[e];exact h3
   ·exact h2 c hc
theorem Kl{a b:List Cel}(ha:rowOk a)(hb:rowOk b)(h:bytesBefore (encR a) (encR b)=true):AW a b<0:=by
 have h1:=Li a b ha.2 hb.2
 have h2:=Hc (encR a) (encR b)
 rw[CY]at h
 rw[Eo,h,if_pos rfl]at h2
 omega
theorem Sl(h:rowOk r):Co r:=fun c hc=>(h.2 c hc).2
theorem Bb{α:Type} [Inhabited α]{l:List α}{i:Nat}(h:i<l.length):l.getD i default∈l:=by simp[gDe,h]
theorem MA{c:Cnt}(h:c∈out):(encR c.r,c.n)∈AB out:=List.mem_map.2 ⟨c,h,rfl⟩
theorem Q2(h:good (AB out))(hr:∀c∈out,rowOk c.r):Dz out/\Dy out:=by
 refine⟨⟨by have:=h.len;rw[GW]at this;exact this,?_⟩,?_⟩
 ·intro i hi
  have hm:=Bb hi
  have hc:=h.cnt _ (MA hm)
  refine⟨Il (hr _ hm),hc.1,hc.2,fun h0=>?_⟩
  have hm1:=Bb (l:=out) (i:=i - 1) (by omega)
  refine Kl (hr _ hm1) (hr _ hm) ?_
  have hu:=h.up
  unfold rising AB at hu
  rw[List.pairwise_map,List.pairwise_iff_getElem]at hu
  have:=hu (i - 1) i (by omega) hi (by omega)
  have e1:out[i - 1]=out.getD (i - 1) default:=by simp[gDe,show i - 1<out.length by omega]
  have e2:out[i]=out.getD i default:=by simp[gDe,hi]
  rw[e1,e2]at this
  exact this
 ·intro c hc
  have h1:=h.cnt _ (MA hc)
  have h2:=(hr c hc).1
  dsimp only at h1
  exact⟨Sl (hr c hc),by omega,by omega,by omega⟩
theorem Q3(hw:Dy v)(h:Dz v):∀c∈v,rowOk c.r:=by
 intro c hc
 obtain⟨i,hi,rfl⟩:=List.getElem_of_mem hc
 have:=Mx hw hi (h.2 i hi)
 simpa[gDe,hi]using this
theorem Q4(hw:Dy v)(h:Dz v):good (AB v):=by
 refine⟨RI hw h,by rw[GW];exact h.1,?_,?_⟩
 ·intro p hp
  obtain⟨c,hc,rfl⟩:=List.mem_map.1 hp
  obtain⟨i,hi,rfl⟩:=List.getElem_of_mem hc
  have:=h.2 i hi
  simp only[Fg,gDe,gEe hi,Option.getD_some]at this
  exact⟨this.2.1,this.2.2.1⟩
 ·intro p hp
  obtain⟨c,hc,rfl⟩:=List.mem_map.1 hp
  exact⟨c.r,Q3 hw h c hc,rfl⟩
def WL(kv:KV)(c:Chg):KV:=Pt kv (encR c.r) (Ds c.k)
def atK(kv:KV)(l:List Chg)(i:Nat):KV:=(l.take i).foldl WL kv
def Gh(kv:KV)(l:List Chg)(i:Nat):Int:=Vp (atK kv l i) (encR (l.getD i default).r) (Ds (l.getD i default).k)
theorem MC(kv:KV)(l:List Chg)(i:Nat)(h:i<l.length):atK kv l (i+1)=Pt (atK kv l i) (encR (l.getD i default).r) (Ds (l.getD i default).k):=by
 unfold atK
 rw[takeC l i h,List.foldl_append]
 rfl
theorem PG(hw:Gn l)(h:Cg l)(i:Nat)(hi:i<l.length):rowOk (l.getD i default).r:=JZ (h.2 i hi).2.2.1 (S7 hw i hi).1
theorem PH(h:good kv)(hw:Gn l)(hf:Cg l)(i:Nat)(hi:i<=l.length):good (atK kv l i):=by
 induction i with
 |zero=>exact h
 |succ i ih=>
  rw[MC kv l i (by omega)]
  exact Sk (ih (by omega)) (PG hw hf i (by omega)) _
def Uk(v:List Cnt)(l:List Chg)(e:Ending)(w':World):Prop:=
 (AZ v≠0/\e= .returned (.tuple #[.slice none 0 0,.int .i64 0,.int .i64 (AZ v)]))\/
 (AZ v=0/\AL l≠0/\e= .returned (.tuple #[.slice none 0 0,.int .i64 0,.int .i64 (AL l)]))\/
 (AZ v=0/\AL l=0/\∃k:Nat,k<l.length/\(∀i,i<k->Gh (AB v) l i=0)/\Gh (AB v) l k≠0/\e= .returned (.tuple #[.slice none 0 0,.int .i64 k,.int .i64 (Gh (AB v) l k)]))\/
 (AZ v=0/\AL l=0/\(∀i,i<l.length->Gh (AB v) l i=0)/\∃out ad cap,AB out=atK (AB v) l l.length/\Dz out/\Dy out/\e= .returned (.tuple #[.slice ad out.length cap,.int .i64 0,.int .i64 0])/\viewAt w' ad out)
theorem Q5{i:Nat}{x:Value}(h:CA w B nn kv):w.cell? ⟨B,i,none⟩≠some x:=by
 obtain⟨es,clock,h1,h2,h3,h4⟩:=h
 intro e
 simp[World.cell?,h1]at e
theorem LF(h:EU w ad l)(hc:CA w B nn kv)(hg:w.grownBy w' (some B)):EU w' ad l:=by
 intro i hi
 obtain⟨g,e,x1⟩:=h i hi
 refine⟨g,e,hg.cell x1 (fun h=>?_)⟩
 have hgB:g=B:=by simpa using h
 subst hgB
 exact Q5 hc x1
theorem Ul(k:Int): -1<=Ds k/\Ds k<=1:=by unfold Ds;split<;>omega
theorem Sm{b c d:Int}(h:a=b)(k:c=d):Ending.returned (.tuple #[.slice none 0 0,.int .i64 a,.int .i64 c])= .returned (.tuple #[.slice none 0 0,.int .i64 b,.int .i64 d]):=by rw[h,k]
theorem Um{a:Nat}(h:a=b):Ending.returned (.tuple #[.slice ad a cap,.int .i64 0,.int .i64 0])= .returned (.tuple #[.slice ad b cap,.int .i64 0,.int .i64 0]):=by rw[h]
theorem Un(h:rowOk r):(encR r).length<=maxLen:=by
 have h1:=Hf r (fun c hc=>(h.2 c hc).1)
 have h2:=h.1
 unfold maxLen;omega
theorem Sn(a c:Option Addr)(ca cc:Nat)(v:List Cnt)(l:List Chg)(w:World)(hv:viewAt w a v)(hwv:Dy v)(hlv:v.length<=9223372036854775807)(hc:Df w c l)(hwl:Gn l)(hll:l.length<=9223372036854775807):
 Calls Tryz.prog 37 #[.slice a v.length ca,.slice c l.length cc] w fun e w'=>Uk v l e w'/\Bwz w w':=by
 have KG:=Px a ca v w hv hwv hlv
 have KK:=hIz (fun(w1:World) (hb:Bwz w w1)=>Oc c cc l w1 (ET hc hb) hwl hll)
 have HC:Hid (Df w c l):=hc
 clear hc hv
 obtain⟨m,hm⟩:∃m,v.length=m:=⟨_,rfl⟩
 have HM:Hid (v.length=m):=hm
 obtain⟨n,hn⟩:∃n,l.length=n:=⟨_,rfl⟩
 have HN:Hid (l.length=n):=hn
 rw[hm]at KG
 rw[hn]at KK
 rw[hm,hn]
 clear hm hn
 go_enter func37,ntmps37
 go_wp2_with fail
 refine KG.mono ?_
 rintro e w1 ⟨hres,hb1⟩
 rcases hres with⟨hve,hvo,B,rfl,hB,hcm⟩|⟨hve,rfl⟩
 ·have HVE:Hid (AZ v=0):=hve
  have HVO:Hid (Dz v):=hvo
  have HCM:Hid (CA w1 B v.length (AB v)):=hcm
  clear hve hvo hcm
  go_wp2_with fail
  refine(KK.out w1 hb1).mono ?_
  rintro e w2 ⟨hres,hb2⟩
  have hw2:Bwz w w2:=hb1.trans (hb2.mono hb1.size)
  rcases hres with⟨hfe,hfo,ad,kc,rfl,hks⟩|⟨hfe,rfl⟩
  ·have HFE:Hid (AL l=0):=hfe
   have HFO:Hid (Cg l):=hfo
   have HKS:Hid (EU w2 ad l):=hks
   have HC2:Hid (CA w2 B v.length (AB v)):=BL HCM.out hb2
   have HG:Hid (good (AB v)):=Q4 hwv HVO.out
   have hm4:m<=4096:=by rw[<-HM.out];exact HVO.out.1
   have hn4:n<=4096:=by rw[<-HN.out];exact HFO.out.1
   rw[HN.out]
   clear hfe hfo hks HCM KG
   go_wp2
   go_loopw [31] (fun i wr=> ∃k:Nat,k<=n/\i= .int .i64 k/\CA wr B (m+k) (atK (AB v) l k)/\Bwz w wr/\EU wr ad l/\(∀i,i<k->Gh (AB v) l i=0)) (fun i _=>n - (intOf i).toNat)
   case atStart=>exact⟨0,by omega,rfl,by rw[<-HM.out];exact HC2.out,hw2,HKS.out,fun i hi=>absurd hi (Nat.not_lt_zero i)⟩
   case round=>
    obtain⟨k,hk,rfl,hcm,hnx,hks,hall⟩:=hrel
    have HCM:Hid (CA wr B (m+k) (atK (AB v) l k)):=hcm
    have HKR:Hid (EU wr ad l):=hks
    have HA:Hid (∀i,i<k->Gh (AB v) l i=0):=hall
    clear hcm hks hall
    by_cases hlt:k<n
    ·have hkl:k<l.length:=by rw[HN.out];exact hlt
     obtain⟨b,o,ra,rc,e,x1,_,_⟩:=HC.out k hkl
     subst e
     have q1:=cLz hnx x1
     obtain⟨g,e,q2⟩:=HKR.out k hkl
     subst e
     have HRK:Hid (rowOk (l.getD k default).r):=PG hwl HFO.out k hkl
     have HGK:Hid (good (atK (AB v) l k)):=PH HG.out hwl HFO.out k (by omega)
     have HS:Hid (atK (AB v) l (k+1)=Pt (atK (AB v) l k) (encR (l.getD k default).r) (Ds (l.getD k default).k)):=MC (AB v) l k hkl
     have HE:Hid (Gh (AB v) l k=Vp (atK (AB v) l k) (encR (l.getD k default).r) (Ds (l.getD k default).k)):=rfl
     obtain⟨⟨kd,r⟩,hcv⟩:∃c,l.getD k default=c:=⟨_,rfl⟩
     rw[hcv]at q1 q2 HRK HS HE
     dsimp only at q1 q2 HRK HS HE
     clear x1 hcv
     obtain⟨key,hkey⟩:∃x,(⟨(encR r).toArray⟩:ByteArray)=x:=⟨_,rfl⟩
     have HKE:Hid (encR r=key.data.toList):=by show encR r=key.data.toList;rw[<-hkey]
     have HKL:Hid (key.size<=maxLen):=by
      show key.size<=maxLen
      rw[<-Bz,<-HKE.out];exact Un HRK.out
     rw[hkey]at q2
     rw[HKE.out]at HS HE
     clear hkey
     have i1:(0:Int)<=(k:Int):=by omega
     have i2:(k:Int)<(n:Int):=by omega
     have hgg:=Sj HGK.out key.data.toList
     have hml:=Ul kd
     have hgl:=HGK.out.len
     have KA:Hid (∀w',CA w' B (m+k) (atK (AB v) l k)->Calls Tryz.prog 71 #[.map (some B),.string key,.int .i64 (Ds kd)] w' fun e w''=>e= .returned (.int .i64 (Gh (AB v) l k))/\CA w'' B (m+k+1) (atK (AB v) l (k+1))/\w'.grownBy w'' (some B)):=fun w' h=>by
      rw[HS.out,HE.out]
      exact Vq B (m+k) _ key (Ds kd) w' h HKL.out (by unfold maxLen;omega) (by omega) (by omega) (by omega) (by omega) (by omega)
     clear HS HE hgg hml hgl
     obtain⟨er,her⟩:∃x,Gh (AB v) l k=x:=⟨_,rfl⟩
     rw[her]at KA
     have HER:Hid (Gh (AB v) l k=er):=her
     clear her
     by_cases e0:er=0
     ·subst e0
      go_wp2_with (first
       |(go_at_call 72;refine(MX kd _).mono ?_;rintro e wa ⟨rfl,rfl⟩)
       |(go_at_call 71;refine(KA.out _ HCM.out).mono ?_;rintro e wb ⟨rfl,hcm2,hgr2⟩))
      go_roundw
      case rel=>exact⟨k+1,by omega,by go_num,hcm2,hnx.grown hgr2 hnx.size (fun x hx=>by cases hx;exact hB),LF HKR.out HCM.out hgr2,fun i hi=>by
       rcases Nat.lt_or_ge i k with h|h
       ·exact HA.out i h
       ·rw[show i=k by omega];exact HER.out⟩
      case measure=>simp[intOf];omega
     ·have e0':(er==0)=false:=by simpa using e0
      go_wp2_with (first
       |(go_at_call 72;refine(MX kd _).mono ?_;rintro e wa ⟨rfl,rfl⟩)
       |(go_at_call 71;refine(KA.out _ HCM.out).mono ?_;rintro e wb ⟨rfl,hcm2,hgr2⟩))
      go_ret3
      exact⟨.inr (.inr (.inl ⟨HVE.out,HFE.out,k,hkl,HA.out,by rw[HER.out];exact e0,Sm rfl HER.out.symm⟩)),hnx.grown hgr2 hnx.size (fun x hx=>by cases hx;exact hB)⟩
    ·have hkn:k=n:=by omega
     have HGK:Hid (good (atK (AB v) l k)):=PH HG.out hwl HFO.out k (by rw[HN.out];exact hk)
     obtain⟨out,ho1,ho2⟩:=Q1 HGK.out.key
     have HO1:Hid (AB out=atK (AB v) l k):=ho1
     have HGO:Hid (good (AB out)):=by show good (AB out);rw[ho1];exact HGK.out
     have hvw:=Q2 HGO.out ho2
     have hol:=hvw.1.1
     have KV:=S6 B (m+k) out wr (by rw[HO1.out];exact HCM.out) HGO.out.up ho2 (by omega)
     have HVW:Hid (Dz out/\Dy out):=hvw
     clear hvw ho1 ho2
     obtain⟨ol,hol2⟩:∃x,out.length=x:=⟨_,rfl⟩
     rw[hol2]at KV
     have HOL:Hid (out.length=ol):=hol2
     go_wp2_with (go_at_call 73;refine KV.mono ?_;rintro e w9 ⟨⟨oa,oc,rfl,hva⟩,hb9⟩)
     go_ret3
     exact⟨.inr (.inr (.inr ⟨HVE.out,HFE.out,fun i hi=>HA.out i (by rw[HN.out]at hi;omega),out,oa,oc,by rw[HO1.out,hkn,HN.out],HVW.out.1,HVW.out.2,Um HOL.out.symm,hva⟩)),hnx.trans (hb9.mono hnx.size)⟩
  ·have hfe':(AL l==0)=false:=by simpa using hfe
   have HFE:Hid (AL l≠0):=hfe
   clear hfe
   obtain⟨x,hx⟩:∃x,AL l=x:=⟨_,rfl⟩
   have HX:Hid (AL l=x):=hx
   rw[hx]at hfe'⊢
   clear hx
   go_wp2
   go_ret3
   exact⟨.inr (.inl ⟨HVE.out,HFE.out,Sm rfl HX.out.symm⟩),hw2⟩
 ·have hve':(AZ v==0)=false:=by simpa using hve
  have HVE:Hid (AZ v≠0):=hve
  clear hve
  obtain⟨x,hx⟩:∃x,AZ v=x:=⟨_,rfl⟩
  have HX:Hid (AZ v=x):=hx
  rw[hx]at hve'⊢
  clear hx
  go_wp2
  go_ret3
  exact⟨.inl ⟨HVE.out,Sm rfl HX.out.symm⟩,hb1⟩
instance:DecidableEq Cnt:=fun a b=>if h:a.r=b.r/\a.n=b.n then isTrue (by cases a;cases b;simp at h;simp[h])else isFalse (fun e=>h (by rw[e];exact⟨rfl,rfl⟩))
instance:DecidableEq Chg:=fun a b=>if h:a.k=b.k/\a.r=b.r then isTrue (by cases a;cases b;simp at h;simp[h])else isFalse (fun e=>h (by rw[e];exact⟨rfl,rfl⟩))
theorem C9(b off j:Nat):(⟨b,off,none⟩:Addr).add j=⟨b,off+j,none⟩:=by unfold Addr.add;split<;>simp_all
theorem Ed{off:Nat}(h:vl.rowAt w (some ⟨b,off,none⟩) r):∀j u,(celCells r)[j]? =some u->w.cell? ((⟨b,off,none⟩:Addr).add j)=some u:=by
 intro j u hu
 have hlen:j<(celCells r).length:=by
  rcases Nat.lt_or_ge j (celCells r).length with h|h
  ·exact h
  ·rw[List.getElem?_eq_none h]at hu;cases hu
 rw[Di]at hlen
 have hi:j/3<r.length:=by omega
 obtain⟨b',o',e,x1,x2,x3⟩:=h (j/3) hi
 cases e
 obtain⟨y1,y2,y3⟩:=Fs r (j/3) hi
 rw[C9]
 have hj:j=j/3 * 3\/j=j/3 * 3+1\/j=j/3 * 3+1+1:=by omega
 rcases hj with e|e|e
 ·rw[e]at hu⊢;rw[y1]at hu;rw[<-hu];exact x1
 ·rw[e]at hu⊢;rw[y2]at hu;rw[<-hu];exact x2
 ·rw[e]at hu⊢;rw[y3]at hu;rw[<-hu];exact x3
theorem DK(r:List Cel):∀u∈celCells r,u.oneCell'=true:=by
 intro u hu
 unfold celCells at hu
 obtain⟨c,_,hc⟩:=List.mem_flatMap.1 hu
 simp at hc
 rcases hc with rfl|rfl|rfl<;>rfl
theorem So:(Tryz.prog.info? 55).map (fun i=>(i.zero,i.size,i.bytes))=some (some (.agg #[.int .i64 0,.slice none 0 0]),2,32):=by kernel_rfl
def Bc(l:List (Int×Value)):List Value:=l.flatMap fun p=>[.int .i64 p.1,p.2]
theorem Q6(l:List (Int×Value)):(Bc l).length=l.length * 2:=by
 induction l with
 |nil=>rfl
 |cons c r ih=>show([_,_]++Bc r).length=_;rw[lAp,ih,List.length_cons];simp;omega
theorem Og(l:List (Int×Value))(n:Int)(x:Value):Bc (l++[(n,x)])=Bc l++[.int .i64 n,x]:=by
 unfold Bc;rw[List.flatMap_append];simp
theorem MD(l:List (Int×Value))(i:Nat)(hli:i<l.length):(Bc l)[i * 2]? =some (.int .i64 (l.getD i (0,.bool false)).1)/\(Bc l)[i * 2+1]? =some (l.getD i (0,.bool false)).2:=by
 induction l generalizing i with
 |nil=>exact absurd hli (Nat.not_lt_zero i)
 |cons p r ih=>
  have e:Bc (p::r)= .int .i64 p.1::p.2::Bc r:=rfl
  rw[e]
  cases i with
  |zero=>exact⟨rfl,rfl⟩
  |succ i=>
   have:=ih i (by simpa using hli)
   rw[show(i+1) * 2=i * 2+1+1 by omega]
   simpa using this
end ch
namespace ch
open Go.ChangeShapes Go.WideShapes Go.ChangeAt Go.RowKit Go.Maps Go.WideMaps Go.Sort
open vl
theorem La(p q:List (Int×Value)):Bc (p++q)=Bc p++Bc q:=by unfold Bc;rw[List.flatMap_append]
theorem Q7{p:List (Int×Value)}(h:∀x∈p,x.2.oneCell'=true):∀u∈Bc p,u.oneCell'=true:=by
 intro u hu
 unfold Bc at hu
 obtain⟨x,hx,hu⟩:=List.mem_flatMap.1 hu
 simp at hu
 rcases hu with rfl|rfl
 ·rfl
 ·exact h x hx
end ch
namespace ch
open Go.ChangeShapes Go.WideShapes Go.ChangeAt Go.RowKit Go.Maps Go.WideMaps
open vl
end ch
namespace bt
open Go.ChangeShapes Go.WideShapes Go.ChangeAt Go.RowKit
open vl
variable {w w' w2 : World} {base : Nat}
structure Own1 where
 v:Value
 e:TypeId
 s:Nat
 n:Nat
 xs:List Value
def Own1.here(x:Own1)(w:World)(base:Nat):Prop:=w.ownsRow base x.e x.s x.v x.n x.xs
def apart(x y:Own1):Prop:=∀g,x.v.ownBlock=some g->y.v.ownBlock≠some g
theorem Oh{x y:Own1}(h:apart x y):apart y x:=fun g h1 h2=>h g h2 h1
structure Est(w:World)(base:Nat)(E:List Own1):Prop where
 low:base<=w.heap.size
 own:∀x∈E,x.here w base
 two:E.Pairwise apart
theorem Fk{E E':List Own1}(h:Est w base E)(hp:E.Perm E'):Est w base E':=
 ⟨h.low,fun x hx=>h.own x (hp.mem_iff.2 hx),hp.pairwise h.two (fun h=>Oh h)⟩
theorem ED{E:List Own1}(h:Est w base E)(hb:Bwz w w'):Est w' base E:=
 ⟨Nat.le_trans h.low hb.size,fun x hx=>ch.own_below (h.own x hx) hb,h.two⟩
theorem Q8{x x':Own1}{E:List Own1}(h:Est w base (x::E))(hs:w.heap.size<=w2.heap.size)(hblk:∀b,b<w.heap.size->x.v.ownBlock≠some b->w2.heap[b]? =w.heap[b]?)(hx:x'.here w2 base)
 (hat:∀g,x'.v.ownBlock=some g->x.v.ownBlock=some g\/w.heap.size<=g):Est w2 base (x'::E):=by
 have h2:=List.pairwise_cons.1 h.two
 refine⟨Nat.le_trans h.low hs,fun y hy=>?_,List.pairwise_cons.2 ⟨fun y hy g hg=>?_,h2.2⟩⟩
 ·rcases List.mem_cons.1 hy with rfl|hy
  ·exact hx
  ·have hy':=h.own y (List.mem_cons_of_mem _ hy)
   exact ch.A2 hy' (fun g hg=>hblk g (ch.AG hy' hg).2 (fun e=>h2.1 y hy g e hg))
 ·rcases hat g hg with h3|h3
  ·exact h2.1 y hy g h3
  ·intro e
   have:=(ch.AG (h.own y (List.mem_cons_of_mem _ hy)) e).2
   omega
theorem ME{x x':Own1}{E:List Own1}(h:Est w base (x::E))(hg:w.grownBy w2 x.v.ownBlock)(hx:x'.here w2 base)(hat:∀g,x'.v.ownBlock=some g->x.v.ownBlock=some g\/w.heap.size<=g):Est w2 base (x'::E):=
 Q8 h hg.size (fun b hb ho=>hg.block b hb (fun e=>ho e.symm)) hx hat
theorem LG{x:Own1}{E:List Own1}(h:Est w base E)(hb:Bwz w w')(hx:x.here w' base)(hn:∀g,x.v.ownBlock=some g->w.heap.size<=g):Est w' base (x::E):=by
 have h':=ED h hb
 refine⟨h'.low,fun y hy=>?_,List.pairwise_cons.2 ⟨fun y hy g hg e=>?_,h.two⟩⟩
 ·rcases List.mem_cons.1 hy with rfl|hy
  ·exact hx
  ·exact h'.own y hy
 ·have:=(ch.AG (h.own y hy) e).2
  have:=hn g hg
  omega
end bt
end Go.Proofs.YtdohnkkbkfhphaaGreat
