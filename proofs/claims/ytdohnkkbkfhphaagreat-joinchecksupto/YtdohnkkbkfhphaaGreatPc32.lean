import Derived.Test.YtdohnkkbkfhphaaGreatPc30
import Derived.Test.YtdohnkkbkfhphaaGreatPc31
set_option linter.all false
set_option maxHeartbeats 8000000
set_option maxRecDepth 100000
namespace Go.Proofs.YtdohnkkbkfhphaaGreat
open Go.Proofs.Tryz
namespace jn
open Go.ChangeShapes Go.WideShapes Go.ChangeAt Go.RowKit
open vl bf
attribute [local go_sem] Oper.semAt_some
variable {p : pl.Pln} {t : Int} {l ml : List Ent} {k m q : Nat} {s : Jn} {v : Value} {X w' w2 w3 wr : World} {T : TypeId} {o : Obj} {r : Option Nat}
theorem Km(h:pl.Al p=0)(hk:p.kind=1):(-1099511627776<=p.low/\p.low<=1099511627776)/\(-1099511627776<=p.high/\p.high<=1099511627776):=by
 have:=(pl.BW h).2.1.1
 rw[if_pos hk]at this
 exact this
theorem Ok(h:tm.Bb t=true): -1099511627776<=t/\t<=1099511627776:=by
 unfold tm.Bb at h
 exact of_decide_eq_true h
theorem SA(b:Nat)(p:pl.Pln)(x:pl.PA)(s:Jn)(y:JX)(v:Ev)(ra:Option Addr)(rc:Nat)(w0 w:World)(h:JSt w0 w b 139 p x s y (.slice none 0 0) [])(hk:p.kind=1)(hg:goodJ p s)(hc:comeJ p s v)(hv:vl.rowAt w0 ra v.row):
 Calls Tryz.prog 258 #[.pointer (some ⟨b,0,none⟩),Bz p v ra rc] w fun e w'=>e= .returned (.bool (!(partners p s v).isEmpty))/\∃y' t' L',JSt w0 w' b 139 p x (Cf p s v) y' t' L'/\L'.map CO.chg=Cq p s v/\Bs 139 w w':=by
 have hT:calmC 139:=⟨⟨by decide,by decide,by decide⟩,by decide⟩
 have KP:Hid (∀w1,Bwz w w1->CTz 262 #[.pointer (some ⟨b,0,none⟩),Bz p v ra rc,.int .i64 (Dw p v),.int .i64 (toJ p v)] w1 fun e w'=>e= .returned (.bool (!(partners p s v).isEmpty))/\∃y' t' L',JSt w0 w' b 139 p x (Cf p s v) y' t' L'/\L'.map CO.chg=Cq p s v/\Bs 139 w1 w'):=fun w1 hb=>NV b _ p x s y v ra rc (Dw p v) (toJ p v) w0 w1 (h.below hb) hT (by decide) hg hc.side hv hc.err
 have hf:=Km (pl.C7 hc.err).1 hk
 have ht:=Ok hc.time
 have p2:=h.box.plan.2.2.1
 have p3:=h.box.plan.2.2.2.1
 have lb:=h.box.lt
 have HF:Hid ((v.side=1->Dw p v=v.time+p.low/\toJ p v=v.time+p.high)/\(v.side≠1->Dw p v=v.time - p.high/\toJ p v=v.time - p.low)):=by
  unfold Dw toJ
  rw[if_pos hk,if_pos hk]
  exact⟨fun e=>by rw[if_pos e,if_pos e];exact⟨rfl,rfl⟩,fun e=>by rw[if_neg e,if_neg e];exact⟨rfl,rfl⟩⟩
 clear h hk hg hc hv
 unfold Bz at KP⊢
 obtain⟨kb,h1⟩:=nM (pl.Aq p v.side v.row)
 obtain⟨kh,h2⟩:=nM (pl.hasB p v.side v.row)
 obtain⟨rl,hrl⟩:=nM v.row.length
 obtain⟨R,hR⟩:=nM (!(partners p s v).isEmpty)
 obtain⟨lo,hlo⟩:=nM p.low
 obtain⟨hi,hhi⟩:=nM p.high
 have HLH:Hid (p.low=lo/\p.high=hi):=⟨hlo,hhi⟩
 rw[hlo]at hf p2 HF
 rw[hhi]at hf p3 HF
 rw[hR]at KP⊢
 rw[h1,h2,hrl]at KP⊢
 obtain⟨sd,hsd⟩:=nM v.side
 obtain⟨tm',htm⟩:=nM v.time
 rw[hsd,htm]at KP HF⊢
 rw[htm]at ht
 obtain⟨fr,hfr⟩:=nM (Dw p v)
 obtain⟨tO,htO⟩:=nM (toJ p v)
 rw[hfr,htO]at KP HF
 clear h1 h2 hrl hR hlo hhi hsd htm hfr htO
 go_enter func258,ntmps258
 by_cases hs:sd=1
 ·have e1:(sd==1)=true:=by simpa using hs
  obtain⟨q1,q2⟩:=HF.out.1 hs
  clear hs HF
  subst q1 q2
  have hw1:IntKind.i64.wrap (tm'+lo)=tm'+lo:=by rw[ch.B7];omega
  have hw2:IntKind.i64.wrap (tm'+hi)=tm'+hi:=by rw[ch.B7];omega
  go_wp2
  generalize hV:(World.alloc w _)=V
  have hb0:Bwz w V:=by rw[<-hV];exact bR.alloc nR _
  have s0:V.cell? ⟨w.heap.size,0,none⟩=some (.int .i64 sd):=by subst hV;go_simp
  have s1:V.cell? ⟨w.heap.size,1,none⟩=some (.int .i64 tm'):=by subst hV;go_simp
  have s2:V.cell? ⟨w.heap.size,2,none⟩=some (.slice ra rl rc):=by subst hV;go_simp
  have s3:V.cell? ⟨w.heap.size,3,none⟩=some (.string kb):=by subst hV;go_simp
  have s4:V.cell? ⟨w.heap.size,4,none⟩=some (.bool kh):=by subst hV;go_simp
  have HTV:Hid (Ar V w.heap.size 92):=by subst hV;exact⟨_,_,World.alloc_heap_new w _⟩
  replace p2:=cLz hb0 p2
  replace p3:=cLz hb0 p3
  clear hV
  go_region_held3 (fun w'=>w'.cell? ⟨w.heap.size,0,none⟩=some (.int .i64 sd)/\w'.cell? ⟨w.heap.size,1,none⟩=some (.int .i64 tm')/\w'.cell? ⟨w.heap.size,2,none⟩=some (.slice ra rl rc)/\w'.cell? ⟨w.heap.size,3,none⟩=some (.string kb)/\w'.cell? ⟨w.heap.size,4,none⟩=some (.bool kh)/\w'.cell? ⟨b,2,none⟩=some (.int .i64 lo)/\w'.cell? ⟨b,3,none⟩=some (.int .i64 hi)) (first|exact hy|go_keep)
   (first
    |(go_at_call 262;refine(KP.out _ hb0.drew).mono ?_;rintro e wn ⟨rfl,y',t',L',hj,hl,hkm⟩;have hy:wn.cell? ⟨w.heap.size,0,none⟩=some (.int .i64 sd)/\wn.cell? ⟨w.heap.size,1,none⟩=some (.int .i64 tm')/\wn.cell? ⟨w.heap.size,2,none⟩=some (.slice ra rl rc)/\wn.cell? ⟨w.heap.size,3,none⟩=some (.string kb)/\wn.cell? ⟨w.heap.size,4,none⟩=some (.bool kh)/\wn.cell? ⟨b,2,none⟩=some (.int .i64 lo)/\wn.cell? ⟨b,3,none⟩=some (.int .i64 hi):=⟨hkm.cell HTV.out (by decide) (by decide) (by decide) s0,hkm.cell HTV.out (by decide) (by decide) (by decide) s1,hkm.cell HTV.out (by decide) (by decide) (by decide) s2,hkm.cell HTV.out (by decide) (by decide) (by decide) s3,hkm.cell HTV.out (by decide) (by decide) (by decide) s4,HLH.out.1▸hj.box.plan.2.2.1,HLH.out.2▸hj.box.plan.2.2.2.1⟩))
  all_goals
   go_wp2
   go_ret
   exact⟨rfl,y',t',L',hj,hl,(Av (hb0.drew)).trans hkm⟩
 ·have e1:(sd==1)=false:=by simpa using hs
  obtain⟨q1,q2⟩:=HF.out.2 hs
  clear hs HF
  subst q1 q2
  have hw1:IntKind.i64.wrap (tm' - hi)=tm' - hi:=by rw[ch.B7];omega
  have hw2:IntKind.i64.wrap (tm' - lo)=tm' - lo:=by rw[ch.B7];omega
  go_wp2
  generalize hV:(World.alloc w _)=V
  have hb0:Bwz w V:=by rw[<-hV];exact bR.alloc nR _
  have s0:V.cell? ⟨w.heap.size,0,none⟩=some (.int .i64 sd):=by subst hV;go_simp
  have s1:V.cell? ⟨w.heap.size,1,none⟩=some (.int .i64 tm'):=by subst hV;go_simp
  have s2:V.cell? ⟨w.heap.size,2,none⟩=some (.slice ra rl rc):=by subst hV;go_simp
  have s3:V.cell? ⟨w.heap.size,3,none⟩=some (.string kb):=by subst hV;go_simp
  have s4:V.cell? ⟨w.heap.size,4,none⟩=some (.bool kh):=by subst hV;go_simp
  have HTV:Hid (Ar V w.heap.size 92):=by subst hV;exact⟨_,_,World.alloc_heap_new w _⟩
  replace p2:=cLz hb0 p2
  replace p3:=cLz hb0 p3
  clear hV
  go_region_held3 (fun w'=>w'.cell? ⟨w.heap.size,0,none⟩=some (.int .i64 sd)/\w'.cell? ⟨w.heap.size,1,none⟩=some (.int .i64 tm')/\w'.cell? ⟨w.heap.size,2,none⟩=some (.slice ra rl rc)/\w'.cell? ⟨w.heap.size,3,none⟩=some (.string kb)/\w'.cell? ⟨w.heap.size,4,none⟩=some (.bool kh)/\w'.cell? ⟨b,2,none⟩=some (.int .i64 lo)/\w'.cell? ⟨b,3,none⟩=some (.int .i64 hi)) (first|exact hy|go_keep)
   (first
    |(go_at_call 262;refine(KP.out _ hb0.drew).mono ?_;rintro e wn ⟨rfl,y',t',L',hj,hl,hkm⟩;have hy:wn.cell? ⟨w.heap.size,0,none⟩=some (.int .i64 sd)/\wn.cell? ⟨w.heap.size,1,none⟩=some (.int .i64 tm')/\wn.cell? ⟨w.heap.size,2,none⟩=some (.slice ra rl rc)/\wn.cell? ⟨w.heap.size,3,none⟩=some (.string kb)/\wn.cell? ⟨w.heap.size,4,none⟩=some (.bool kh)/\wn.cell? ⟨b,2,none⟩=some (.int .i64 lo)/\wn.cell? ⟨b,3,none⟩=some (.int .i64 hi):=⟨hkm.cell HTV.out (by decide) (by decide) (by decide) s0,hkm.cell HTV.out (by decide) (by decide) (by decide) s1,hkm.cell HTV.out (by decide) (by decide) (by decide) s2,hkm.cell HTV.out (by decide) (by decide) (by decide) s3,hkm.cell HTV.out (by decide) (by decide) (by decide) s4,HLH.out.1▸hj.box.plan.2.2.1,HLH.out.2▸hj.box.plan.2.2.2.1⟩))
  all_goals
   go_wp2
   go_ret
   exact⟨rfl,y',t',L',hj,hl,(Av (hb0.drew)).trans hkm⟩
theorem SD(b:Nat)(p:pl.Pln)(x:pl.PA)(s:Jn)(y:JX)(v:Ev)(ra:Option Addr)(rc:Nat)(w0 w:World)(h:JSt w0 w b 141 p x s y (.slice none 0 0) [])(hk:p.kind=2)(hg:goodJ p s)(hc:comeJ p s v)(hv:vl.rowAt w0 ra v.row):
 Calls Tryz.prog 278 #[.pointer (some ⟨b,0,none⟩),Bz p v ra rc] w fun e w'=>e= .returned (.bool (!(partners p s v).isEmpty))/\∃y' t' L',JSt w0 w' b 141 p x (Cf p s v) y' t' L'/\L'.map CO.chg=Cq p s v/\Bs 141 w w':=by
 have hT:calmC 141:=⟨⟨by decide,by decide,by decide⟩,by decide⟩
 have KP:Hid (∀w1,Bwz w w1->CTz 262 #[.pointer (some ⟨b,0,none⟩),Bz p v ra rc,.int .i64 (Dw p v),.int .i64 (toJ p v)] w1 fun e w'=>e= .returned (.bool (!(partners p s v).isEmpty))/\∃y' t' L',JSt w0 w' b 141 p x (Cf p s v) y' t' L'/\L'.map CO.chg=Cq p s v/\Bs 141 w1 w'):=fun w1 hb=>NV b _ p x s y v ra rc (Dw p v) (toJ p v) w0 w1 (h.below hb) hT (by decide) hg hc.side hv hc.err
 have hz:1<=p.size/\p.size<=1099511627776:=by
  have:=(pl.BW (pl.C7 hc.err).1).2.1.2.1
  rw[if_pos hk]at this
  exact this
 have ht:=Ok hc.time
 have KW:Hid (∀w1,CTz 160 #[.int .i64 v.time,.int .i64 p.size] w1 fun e w'=>e= .returned (.tuple #[.int .i64 (Dw p v),.int .i64 (toJ p v+1),.int .i64 0])/\w'=w1):=fun w1=>by
  have:=tm.Lh v.time p.size w1 hc.time hz.1 hz.2
  have e1:Dw p v=tm.start v.time p.size:=by unfold Dw tm.start;rw[if_neg (by omega)]
  have e2:toJ p v+1=tm.start v.time p.size+p.size:=by unfold toJ tm.start;rw[if_neg (by omega)];omega
  rw[e1,e2];exact this
 have hto: -4398046511104<=toJ p v/\toJ p v<=4398046511104:=by
  unfold toJ
  rw[if_neg (by omega)]
  have h1:=Int.emod_nonneg v.time (show p.size≠0 by omega)
  have h2:=Int.emod_lt_of_pos v.time (show 0<p.size by omega)
  omega
 have p4:=h.box.plan.2.2.2.2.1
 have lb:=h.box.lt
 have HPZ:Hid (∀w1 s y t L,JSt w0 w1 b 141 p x s y t L->w1.cell? ⟨b,4,none⟩=some (.int .i64 p.size)):=fun w1 s y t L hj=>hj.box.plan.2.2.2.2.1
 clear h hk hg hc hv hz ht
 unfold Bz at KP⊢
 obtain⟨kb,h1⟩:=nM (pl.Aq p v.side v.row)
 obtain⟨kh,h2⟩:=nM (pl.hasB p v.side v.row)
 obtain⟨rl,hrl⟩:=nM v.row.length
 obtain⟨R,hR⟩:=nM (!(partners p s v).isEmpty)
 obtain⟨sz,hsz⟩:=nM p.size
 rw[hsz]at p4 KW HPZ
 rw[hR]at KP⊢
 rw[h1,h2,hrl]at KP⊢
 obtain⟨sd,hsd⟩:=nM v.side
 obtain⟨tm',htm⟩:=nM v.time
 rw[hsd,htm]at KP⊢
 rw[htm]at KW
 obtain⟨fr,hfr⟩:=nM (Dw p v)
 obtain⟨tO,htO⟩:=nM (toJ p v)
 rw[hfr,htO]at KP KW
 rw[htO]at hto
 clear h1 h2 hrl hR hsz hsd htm hfr htO
 have hw1:IntKind.i64.wrap (tO+1 - 1)=tO:=by rw[ch.B7];omega
 have hw2:IntKind.i64.wrap tO=tO:=by rw[ch.B7];omega
 go_enter func278,ntmps278
 go_wp2
 generalize hV:(World.alloc w _)=V
 have hb0:Bwz w V:=by rw[<-hV];exact bR.alloc nR _
 have s0:V.cell? ⟨w.heap.size,0,none⟩=some (.int .i64 sd):=by subst hV;go_simp
 have s1:V.cell? ⟨w.heap.size,1,none⟩=some (.int .i64 tm'):=by subst hV;go_simp
 have s2:V.cell? ⟨w.heap.size,2,none⟩=some (.slice ra rl rc):=by subst hV;go_simp
 have s3:V.cell? ⟨w.heap.size,3,none⟩=some (.string kb):=by subst hV;go_simp
 have s4:V.cell? ⟨w.heap.size,4,none⟩=some (.bool kh):=by subst hV;go_simp
 have HTV:Hid (Ar V w.heap.size 92):=by subst hV;exact⟨_,_,World.alloc_heap_new w _⟩
 replace p4:=cLz hb0 p4
 clear hV
 go_region_held3 (fun w'=>w'.cell? ⟨w.heap.size,1,none⟩=some (.int .i64 tm')/\w'.cell? ⟨b,4,none⟩=some (.int .i64 sz)) (first|go_keep)
  (first
   |(go_at_call 160;refine(KW.out _).mono ?_;rintro e w2 ⟨rfl,rfl⟩))
 go_wp2
 go_region_held3 (fun w'=>w'.cell? ⟨w.heap.size,0,none⟩=some (.int .i64 sd)/\w'.cell? ⟨w.heap.size,1,none⟩=some (.int .i64 tm')/\w'.cell? ⟨w.heap.size,2,none⟩=some (.slice ra rl rc)/\w'.cell? ⟨w.heap.size,3,none⟩=some (.string kb)/\w'.cell? ⟨w.heap.size,4,none⟩=some (.bool kh)) (first|exact hy|go_keep)
  (first
   |(go_at_call 262;refine(KP.out _ hb0.drew.drew).mono ?_;rintro e wn ⟨rfl,y',t',L',hj,hl,hkm⟩;have hy:wn.cell? ⟨w.heap.size,0,none⟩=some (.int .i64 sd)/\wn.cell? ⟨w.heap.size,1,none⟩=some (.int .i64 tm')/\wn.cell? ⟨w.heap.size,2,none⟩=some (.slice ra rl rc)/\wn.cell? ⟨w.heap.size,3,none⟩=some (.string kb)/\wn.cell? ⟨w.heap.size,4,none⟩=some (.bool kh):=⟨hkm.cell HTV.out (by decide) (by decide) (by decide) s0,hkm.cell HTV.out (by decide) (by decide) (by decide) s1,hkm.cell HTV.out (by decide) (by decide) (by decide) s2,hkm.cell HTV.out (by decide) (by decide) (by decide) s3,hkm.cell HTV.out (by decide) (by decide) (by decide) s4⟩))
 all_goals
  go_wp2
  go_ret
  exact⟨rfl,y',t',L',hj,hl,(Av (hb0.drew.drew)).trans hkm⟩
theorem Qc(fn:FuncId)(eg:∀args w,(callFunc fn args).run Tryz.prog w= .ok (.enter fn args) w)(caps:Array Value)(P:Nat->Bool)(n:Nat)(w:World)(hl:n<4611686018427387904)
 (H:∀i w1,i<n->Bwz w w1->Calls Tryz.prog fn (#[.int .i64 (i:Nat)]++caps) w1 fun e w'=>e= .returned (.bool (P i))/\Bwz w1 w') (hm:∀a b,a<=b->b<n->P a=true->P b=true):
 Calls Tryz.prog 285 #[.int .i64 n,.func (.func fn) #[] caps] w fun e w'=>(∃k:Nat,k<=n/\e= .returned (.int .i64 k)/\(∀t,t<k->P t=false)/\(∀t,k<=t->t<n->P t=true))/\Bwz w w':=by
 have HH:Hid (∀i w1,i<n->Bwz w w1->CTz fn (#[.int .i64 (i:Nat)]++caps) w1 fun e w'=>e= .returned (.bool (P i))/\Bwz w1 w'):=H
 have M:Hid (∀a b,a<=b->b<n->P a=true->P b=true):=hm
 clear H hm
 go_enter func285,ntmps285
 go_wp2
 go_loopw [5,6] (fun s9 s10 wr=> ∃lo hi:Nat,s9= .int .i64 lo/\s10= .int .i64 hi/\lo<=hi/\hi<=n/\Bwz w wr/\Hid ((∀t,t<lo->P t=false)/\(∀t,hi<=t->t<n->P t=true))) (fun s9 s10 _=>(intOf s10).toNat - (intOf s9).toNat)
 case atStart=>exact⟨0,n,rfl,rfl,Nat.zero_le _,Nat.le_refl _,bR,(⟨fun t ht=>absurd ht (Nat.not_lt_zero _),fun t h1 h2=>by omega⟩:(∀t,t<0->P t=false)/\(∀t,n<=t->t<n->P t=true))⟩
 case round=>
  obtain⟨lo,hi,rfl,rfl,hlh,hin,hnx,I⟩:=hrel
  by_cases hlt:lo<hi
  ·have KK:Hid (∀w1,Bwz wr w1->_):=fun w1 hb=>HH.out ((lo+hi)/2) w1 (by omega) (hnx.trans (hb.mono hnx.size))
   obtain⟨B,hB⟩:=nM (P ((lo+hi)/2))
   rw[hB]at KK
   have HB:Hid (P ((lo+hi)/2)=B):=hB
   clear hB
   cases B with
   |false=>
    go_wp2_with (go_at_fn fn;refine(KK.out _ bR).mono ?_;rintro e w' ⟨rfl,hb'⟩)
    go_roundw
    case rel=>
     have I2:Hid ((∀t,t<(lo+hi)/2+1->P t=false)/\(∀t,hi<=t->t<n->P t=true)):=⟨fun t ht=>by
      cases e:P t with
      |false=>rfl
      |true=>
       have:=M.out t ((lo+hi)/2) (by omega) (by omega) e
       rw[HB.out]at this
       exact absurd this (by decide),I.out.2⟩
     exact⟨(lo+hi)/2+1,hi,by rw[show((lo:Int)+(hi:Int))/2+1=(((lo+hi)/2+1:Nat):Int) by omega],rfl,by omega,hin,hnx.trans (hb'.mono hnx.size),I2⟩
    case measure=>simp[intOf];omega
   |true=>
    go_wp2_with (go_at_fn fn;refine(KK.out _ bR).mono ?_;rintro e w' ⟨rfl,hb'⟩)
    go_roundw
    case rel=>
     have I2:Hid ((∀t,t<lo->P t=false)/\(∀t,(lo+hi)/2<=t->t<n->P t=true)):=⟨I.out.1,fun t ht htn=>M.out ((lo+hi)/2) t ht htn HB.out⟩
     exact⟨lo,(lo+hi)/2,rfl,by rw[show((lo:Int)+(hi:Int))/2=(((lo+hi)/2:Nat):Int) by omega],by omega,by omega,hnx.trans (hb'.mono hnx.size),I2⟩
    case measure=>simp[intOf];omega
  ·obtain rfl:hi=lo:=by omega
   go_wp2
   go_ret
   exact⟨⟨hi,by omega,rfl,I.out.1,I.out.2⟩,hnx⟩
def MY(l:List Ent):Prop:=∀i j,i<=j->j<l.length->(l.getD i default).time<=(l.getD j default).time
theorem Ol(hk:k<=l.length)(h1:∀i,i<k->decide ((l.getD i default).time>t)=false)(h2:∀i,k<=i->i<l.length->decide ((l.getD i default).time>t)=true):l.take k=l.filter fun y=>decide (y.time<=t):=by
 have e:l=l.take k++l.drop k:=(List.take_append_drop k l).symm
 conv=>rhs;rw[e]
 rw[List.filter_append]
 have a1:(l.take k).filter (fun y=>decide (y.time<=t))=l.take k:=List.filter_eq_self.2 (fun y hy=>by
  obtain⟨i,hi,rfl⟩:=List.getElem_of_mem hy
  rw[List.length_take]at hi
  have:=of_decide_eq_false (h1 i (by omega))
  rw[getD_at (by omega)]at this
  rw[List.getElem_take]
  exact decide_eq_true (by omega))
 have a2:(l.drop k).filter (fun y=>decide (y.time<=t))=[]:=List.filter_eq_nil_iff.2 (fun y hy=>by
  obtain⟨i,hi,rfl⟩:=List.getElem_of_mem hy
  rw[List.length_drop]at hi
  have:=of_decide_eq_true (h2 (k+i) (by omega) (by omega))
  rw[getD_at (by omega)]at this
  rw[List.getElem_drop]
  simp
  omega)
 rw[a1,a2,List.append_nil]
theorem MQ{w:World}{base:Nat}{e:TypeId}{s n c:Nat}{a:Option Addr}{xs:List Value}(h:w.ownsRow base e s (.slice a n c) n xs):n<=c:=by
 rcases h.2 with⟨hv,h0⟩|⟨g,cap,cur,hv,hr⟩
 ·omega
 ·injection hv with _ _ e3
  subst e3
  exact hr.2.2.1
theorem SF(i:Nat)(a:Option Addr)(n c:Nat)(es:List EM)(l:List Ent)(t:Int)(A C:Nat)(w:World)(hi:i<l.length)(hn:n=l.length)(hl:BD w a es)(her:ERs w es l)(hA:w.cell? ⟨A,0,none⟩=some (.slice a n c))(hC:w.cell? ⟨C,0,none⟩=some (.int .i64 t)):
 Calls Tryz.prog 286 #[.int .i64 (i:Nat),.pointer (some ⟨A,0,none⟩),.pointer (some ⟨C,0,none⟩)] w fun r w'=>r= .returned (.bool (decide ((l.getD i default).time>t)))/\Bwz w w':=by
 obtain⟨gb,off,ea,x1,x2,x3,x4,x5⟩:=hl i (by rw[her.1];exact hi)
 subst ea
 rw[(her.2 i hi).time]at x2
 obtain⟨T,hT⟩:=nM ((l.getD i default).time)
 rw[hT]at x2⊢
 obtain⟨B,hB⟩:=nM (decide (T>t))
 have hg:∀ty,binOp .gtr ty (.int .i64 T) (.int .i64 t)=pure (.bool B):=pl.EZ B hB
 rw[hB]
 have i1:(0:Int)<=(i:Int):=by omega
 have i2:(i:Int)<(n:Int):=by omega
 clear x1 x3 x4 x5 hl her hT hB hn hi
 go_enter func286,ntmps286
 go_wp2
 go_region_held3 (fun w'=>w'.cell? ⟨A,0,none⟩=some (.slice (some ⟨gb,off,none⟩) n c)/\w'.cell? ⟨C,0,none⟩=some (.int .i64 t)/\w'.cell? ⟨gb,off+i * 5+1,none⟩=some (.int .i64 T)) (first|go_keep) (fail)
 all_goals
  go_wp2
  go_ret
  exact⟨rfl,bR.drew⟩
theorem U9(a:Option Addr)(n c:Nat)(es:List EM)(l:List Ent)(t:Int)(base:Nat)(w:World)(ho:OE w base (.slice a n c) es l)(hn:n=l.length)(hs:n<=4096)(hup:MY l):
 Calls Tryz.prog 284 #[.slice a n c,.int .i64 t] w fun e w'=>(∃k:Nat,k<=n/\e= .returned (.slice a k c)/\l.take k=l.filter fun y=>decide (y.time<=t))/\Bwz w w':=by
 have hp:=Cv (p:=((a,n,c),es)) ho
 have hcap:n<=c:=by
  have:=ho.own
  have hel:es.length=n:=hp.1.1.symm
  rw[hel]at this
  exact MQ this
 have KS:Hid (∀(A C:Nat) w1,Bwz w w1->w1.cell? ⟨A,0,none⟩=some (.slice a n c)->w1.cell? ⟨C,0,none⟩=some (.int .i64 t)->CTz 285 #[.int .i64 n,.func (.func 286) #[] #[.pointer (some ⟨A,0,none⟩),.pointer (some ⟨C,0,none⟩)]] w1 fun e w'=>(∃k:Nat,k<=n/\e= .returned (.int .i64 k)/\l.take k=l.filter fun y=>decide (y.time<=t))/\Bwz w1 w'):=fun A C w1 hb hA hC=>by
  refine(Qc 286 (enters_of func286 (by kernel_rfl) rfl) #[.pointer (some ⟨A,0,none⟩),.pointer (some ⟨C,0,none⟩)] (fun i=>decide ((l.getD i default).time>t)) n w1 (by omega) (fun i w2 hi hb2=>SF i a n c es l t A C w2 (by omega) hn (Bk (Bk hp.2 hb) hb2) ((ho.ers.below hb).below hb2) (cLz hb2 hA) (cLz hb2 hC)) (fun i j hij hj h=>?_)).mono ?_
  ·have h:=of_decide_eq_true h
   have:=hup i j hij (by omega)
   exact decide_eq_true (by omega)
  ·rintro e w' ⟨⟨k,hk,rfl,h1,h2⟩,hb'⟩
   exact⟨⟨k,hk,rfl,Ol (by omega) h1 (fun i h3 h4=>h2 i h3 (by omega))⟩,hb'⟩
 clear ho hup hp hn
 go_enter func284,ntmps284
 go_wp2
 generalize hV:(World.alloc (World.alloc w _) _)=V
 have hb0:Bwz w V:=by rw[<-hV];exact(bR.alloc nR _).alloc (by simp) _
 have a0:V.cell? ⟨w.heap.size,0,none⟩=some (.slice a n c):=by subst hV;go_simp
 have a1:V.cell? ⟨w.heap.size+1,0,none⟩=some (.int .i64 t):=by subst hV;go_simp
 clear hV
 go_region_held3 (fun w'=>w'.cell? ⟨w.heap.size,0,none⟩=some (.slice a n c)) (first|exact cLz hy a0|go_keep)
  (first
   |(go_at_call 285;refine(KS.out _ _ _ hb0.drew a0 a1).mono ?_;rintro e wn ⟨⟨k,hk,rfl,hf⟩,hbn⟩;have hy:Bwz V wn:=bR.drew.trans hbn;have i1:(0:Int)<=(k:Int):=(by omega);have i2:(k:Int)<=(c:Int):=(by omega);have HF:Hid (l.take k=l.filter fun y=>decide (y.time<=t)):=hf;clear hf))
 all_goals
  go_wp2
  go_ret
  exact⟨⟨k,hk,rfl,HF.out⟩,hb0.trans (hy.mono hb0.size)⟩
theorem last_at(h:l.length=m+1):l.getLast? =some (l.getD m default):=by
 rw[List.getLast?_eq_getElem?,h,gDe,Nat.add_sub_cancel,gEe (by omega)]
 rfl
theorem WO(b:Nat)(p:pl.Pln)(x:pl.PA)(s:Jn)(y:JX)(v:Ev)(ra:Option Addr)(rc:Nat)(w0 w:World)(h:JSt w0 w b 143 p x s y (.slice none 0 0) [])(hg:goodJ p s)(hc:comeJ p s v)(hs1:v.side=1)(hv:vl.rowAt w0 ra v.row):
 Calls Tryz.prog 282 #[.pointer (some ⟨b,0,none⟩),Bz p v ra rc] w fun e w'=>e= .returned (.bool (!(Cg p s v).isEmpty))/\∃t' L',JSt w0 w' b 143 p x s y t' L'/\L'.map CO.chg=Gd p s v/\Bs 143 w w':=by
 have hT:calmC 143:=⟨⟨by decide,by decide,by decide⟩,by decide⟩
 have HJ:Hid (JSt w0 w b 143 p x s y (.slice none 0 0) []):=h
 have eb:Am s (3 - v.side)=s.R:=by rw[hs1];rfl
 have ex:Bv y (3 - v.side)=y.r:=by rw[hs1];rfl
 have hsm:=DJ hc.err
 have hp:=(pl.C7 hc.err).1
 have hwf:∀z∈Ab s.R,wfE z/\wfP (Ay z):=fun z hz=>hg.wf z (List.mem_append.2 (.inr hz))
 have ev:BC p s v (-1099511627776) v.time=Cg p s v:=by unfold BC Cg;rw[eb]
 have KW:Hid (∀w1,Bwz w w1->CTz 266 #[.pointer (some ⟨b,0,none⟩),Bz p v ra rc,.int .i64 (-1099511627776),.int .i64 v.time] w1 fun e w'=>(∃hh es,e= .returned (hdV hh)/\OE w' w1.heap.size (hdV hh) es (Cg p s v))/\Bwz w1 w'):=fun w1 hb=>by
  have:=FD b p x s y _ v ra rc (-1099511627776) v.time w1 hc.side (HJ.out.below hb).box (by rw[eb,ex];exact(HJ.out.below hb).r.at) (by rw[eb];exact hg.ok.R) (by rw[eb];exact hwf)
  rw[ev]at this
  exact this
 have KJ:=hIz (fun(q:List Cel) (qa:Option Addr) (qc:Nat) (w1:World) (h1:0<q.length) (h2:q.length<=400) (hb:Bwz w0 w1) (hq:vl.rowAt w1 qa q)=>CL v.side ra qa rc qc v.row q w1 hsm.1 h1 hsm.2 h2 (vl.Ac hv hb) hq)
 have KA2:=hIz (fun(w1:World) (hb:Bwz w w1)=>Gc b p x v.side ra rc v.row w1 hp hc.side (HJ.out.below hb).box.plan (vl.Ac hv (HJ.out.bl.trans (hb.mono HJ.out.bl.size))) hsm.1 hsm.2)
 have KP:=hIz (fun(w1:World)=>IG p.mode 1 w1)
 have HES:Hid (∀k,k<(Cg p s v).length->(0<((Cg p s v).getD k default).row.length/\((Cg p s v).getD k default).row.length<=400)):=fun k hk=>by
  rw[<-ev]at hk⊢
  exact DJ (ED hg (GN hc.side).1 (Ho (A1 hk)))
 have hfew:(Cg p s v).length<=4096:=by rw[<-ev];exact Hn (by rw[eb];exact hg.ok.R)
 have HAT:Hid (Gd p s v=match (Cg p s v).getLast? with
  |some e=>[⟨1,AW v.side v.row e.row⟩]
  |none=>if Co p.mode 1=true then [⟨1,AQ p v.side v.row⟩]else []):=rfl
 have pm:=h.box.plan.2.1
 have lb:=h.box.lt
 obtain⟨PS,hPS⟩:=nM (Cg p s v)
 obtain⟨AT,hAT⟩:=nM (Gd p s v)
 rw[hPS]at KW HES HAT hfew⊢
 rw[hAT]at HAT⊢
 unfold Bz at KW⊢
 obtain⟨kb,h1⟩:=nM (pl.Aq p v.side v.row)
 obtain⟨kh,h2⟩:=nM (pl.hasB p v.side v.row)
 obtain⟨rl,hrl⟩:=nM v.row.length
 obtain⟨c2,hc2⟩:=nM (Co p.mode 1)
 obtain⟨md,hmd⟩:=nM p.mode
 rw[hc2]at KP HAT
 rw[hmd]at KP pm
 rw[h1,h2,hrl]at KW⊢
 rw[hrl]at KJ KA2
 obtain⟨sd,hsd⟩:=nM v.side
 obtain⟨tm',htm⟩:=nM v.time
 rw[hsd]at KW KJ KA2 HAT⊢
 rw[htm]at KW⊢
 have HBL:Hid (∀w',Bwz w w'->Bwz w0 w'):=fun w' hb=>h.bl.trans (hb.mono h.bl.size)
 clear h hg hc hv hsm hp hwf ev eb ex hPS hAT h1 h2 hrl hc2 hmd hsd htm hs1
 go_enter func282,ntmps282
 go_wp2
 generalize hV:(World.alloc w _)=V
 have hb0:Bwz w V:=by rw[<-hV];exact bR.alloc nR _
 have s0:V.cell? ⟨w.heap.size,0,none⟩=some (.int .i64 sd):=by subst hV;go_simp
 have s1:V.cell? ⟨w.heap.size,1,none⟩=some (.int .i64 tm'):=by subst hV;go_simp
 have s2:V.cell? ⟨w.heap.size,2,none⟩=some (.slice ra rl rc):=by subst hV;go_simp
 have s3:V.cell? ⟨w.heap.size,3,none⟩=some (.string kb):=by subst hV;go_simp
 have s4:V.cell? ⟨w.heap.size,4,none⟩=some (.bool kh):=by subst hV;go_simp
 have HTV:Hid (Ar V w.heap.size 92):=by subst hV;exact⟨_,_,World.alloc_heap_new w _⟩
 clear hV
 have SK:Hid (∀w',Bwz V w'->w'.cell? ⟨w.heap.size,0,none⟩=some (.int .i64 sd)/\w'.cell? ⟨w.heap.size,1,none⟩=some (.int .i64 tm')/\w'.cell? ⟨w.heap.size,2,none⟩=some (.slice ra rl rc)/\w'.cell? ⟨w.heap.size,3,none⟩=some (.string kb)/\w'.cell? ⟨w.heap.size,4,none⟩=some (.bool kh)):=fun w' hz=>⟨cLz hz s0,cLz hz s1,cLz hz s2,cLz hz s3,cLz hz s4⟩
 go_region_held3 (fun w'=>w'.cell? ⟨w.heap.size,0,none⟩=some (.int .i64 sd)/\w'.cell? ⟨w.heap.size,1,none⟩=some (.int .i64 tm')/\w'.cell? ⟨w.heap.size,2,none⟩=some (.slice ra rl rc)/\w'.cell? ⟨w.heap.size,3,none⟩=some (.string kb)/\w'.cell? ⟨w.heap.size,4,none⟩=some (.bool kh)) (first|exact SK.out _ hy|exact SK.out _ bR.drew|go_keep)
  (first
   |(go_at_call 266;refine(KW.out _ hb0.drew).mono ?_;rintro e X ⟨⟨hh,es,rfl,ho⟩,hbn⟩;have hy:Bwz V X:=bR.drew.trans hbn;have HOE:Hid (OE X V.heap.size (hdV hh) es PS):=ho;clear ho;obtain⟨g1,g2,g3⟩:=hh;unfold hdV;dsimp only))
 have HLE:Hid (g2=PS.length):=by
  show _=_
  rw[<-HOE.out.len];exact(Cv (p:=((g1,g2,g3),es)) HOE.out).1.1
 have hbX:Bwz w X:=hb0.trans (hy.mono hb0.size)
 have HJX:Hid (JSt w0 X b 143 p x s y (.slice none 0 0) []):=HJ.out.below hbX
 have t0:=cLz hy s0
 have t1:=cLz hy s1
 have t2:=cLz hy s2
 have pmX:=cLz hbX pm
 have HTX:Hid (Ar X w.heap.size 92):=Ah HTV.out hy
 clear s0 s1 s2 s3 s4 SK KW
 cases hP:PS with
 |nil=>
  have HEM:Hid (false= !PS.isEmpty):=by show _=_;rw[hP];rfl
  have hz:g2=0:=by rw[HLE.out,hP];rfl
  subst hz
  have HA2:Hid (AT=if c2=true then [⟨1,AQ p sd v.row⟩]else []):=by show _=_;rw[HAT.out,hP];rfl
  cases c2 with
  |true=>
   obtain⟨AR,hAR⟩:=nM (AQ p sd v.row)
   rw[hAR]at KA2 HA2
   obtain⟨an,han⟩:=nM AR.length
   rw[han]at KA2
   clear hAR han
   go_wp2_with (go_at_call 268;refine(KP.out _).mono ?_;rintro e X ⟨rfl,rfl⟩)
   have hk0:=HJX.out.below bR.drew
   go_region_held3 (fun w'=>w'.cell? ⟨w.heap.size,0,none⟩=some (.int .i64 sd)/\w'.cell? ⟨w.heap.size,2,none⟩=some (.slice ra rl rc)) (first|exact hyy|go_keep)
    (first
     |(go_at_call 271;refine(Eh hk0 hT (Nat.zero_le _) hb7 ho7).mono ?_;rintro e w8 ⟨rfl,t8,hj8,hk8⟩;have hyy:w8.cell? ⟨w.heap.size,0,none⟩=some (.int .i64 sd)/\w8.cell? ⟨w.heap.size,2,none⟩=some (.slice ra rl rc):=⟨hk8.cell (Ah HTX.out hyy7) (by decide) (by decide) (cLz hyy7 t0),hk8.cell (Ah HTX.out hyy7) (by decide) (by decide) (cLz hyy7 t2)⟩)
     |(go_at_call 270;refine(KA2.out _ hbX.drew).mono ?_;rintro e w7 ⟨⟨ad2,cap2,rfl,ho7⟩,hb7⟩;have hyy7:Bwz X w7:=bR.drew.trans hb7;have hyy:w7.cell? ⟨w.heap.size,0,none⟩=some (.int .i64 sd)/\w7.cell? ⟨w.heap.size,2,none⟩=some (.slice ra rl rc):=⟨cLz hyy7 t0,cLz hyy7 t2⟩))
   all_goals
    go_wp2
    go_ret
    exact⟨Aa HEM.out,t8,_,hj8,by rw[HA2.out];rfl,((Av hbX).trans (Av hyy7)).trans hk8.m⟩
  |false=>
   go_wp2_with (go_at_call 268;refine(KP.out _).mono ?_;rintro e X ⟨rfl,rfl⟩)
   go_ret
   exact⟨Aa HEM.out,_,[],HJX.out,by rw[HA2.out];rfl,Av hbX⟩
 |cons z0 zl=>
  obtain⟨m,hm⟩:∃m,PS.length=m+1:=⟨zl.length,by rw[hP];rfl⟩
  have HM:Hid (PS.length=m+1):=hm
  have HNE:Hid (true= !PS.isEmpty):=by show _=_;rw[hP];rfl
  have hz:g2=m+1:=by rw[HLE.out,hm]
  subst hz
  have hkl:m<PS.length:=by omega
  obtain⟨gb,off,ea,x1,x2,x3,x4,x5⟩:=(Cv (p:=((g1,m+1,g3),es)) HOE.out).2 m (by rw[HOE.out.len];exact hkl)
  dsimp only at ea
  subst ea
  have her:=HOE.out.ers.2 m hkl
  have hes:=HES.out m hkl
  have HA2:Hid (AT=[⟨1,AW sd v.row (PS.getD m default).row⟩]):=by show _=_;rw[HAT.out,last_at hm]
  obtain⟨E,hE⟩:=nM (PS.getD m default)
  rw[hE]at her hes HA2
  obtain⟨⟨ek,et,es1,⟨r1,r2,r3⟩,em⟩,hz2⟩:∃z,es.getD m default=z:=⟨_,rfl⟩
  rw[hz2]at x4 her
  unfold hdV at x4
  dsimp only at x4
  have hrr:r2=E.row.length:=her.len
  have HRW:Hid (vl.rowAt X r1 E.row):=her.row
  have KJk:Hid (∀w1,Bwz X w1->CTz 267 #[.int .i64 sd,.slice ra rl rc,.slice r1 r2 r3] w1 fun e w'=>(∃ad cap,e= .returned (.slice ad (AW sd v.row E.row).length cap)/\AA w' w1.heap.size (.slice ad (AW sd v.row E.row).length cap) (AW sd v.row E.row))/\Bwz w1 w'):=fun w1 hb=>by rw[hrr];exact KJ.out E.row r1 r3 w1 hes.1 hes.2 (HBL.out _ (hbX.trans (hb.mono hbX.size))) (vl.Ac HRW.out hb)
  obtain⟨JR,hJR⟩:=nM (AW sd v.row E.row)
  rw[hJR]at KJk HA2
  obtain⟨jn,hjn⟩:=nM JR.length
  rw[hjn]at KJk
  have HTE:Hid (Ar X gb 63):=A8 HOE.out.own rfl
  have i0:(0:Int)<(m:Int)+1:=by omega
  have i1:(0:Int)<=(m:Int):=by omega
  have i2:(m:Int)<(m:Int)+1:=by omega
  have hw1:IntKind.i64.wrap ((m:Int)+1 - 1)=(m:Int):=by rw[ch.B7];omega
  have hw2:IntKind.i64.wrap (m:Int)=(m:Int):=by rw[ch.B7];omega
  have hk0:=HJX.out.below bR.drew
  clear hP her hes hE hz2 hrr hJR hjn x1 x2 x3 x5 hm hkl
  go_wp2
  go_region_held3 (fun w'=>w'.cell? ⟨w.heap.size,0,none⟩=some (.int .i64 sd)/\w'.cell? ⟨w.heap.size,2,none⟩=some (.slice ra rl rc)/\w'.cell? ⟨gb,off+m * 5+1+1+1,none⟩=some (.slice r1 r2 r3)) (first|exact hyy|go_keep)
   (first
    |(go_at_call 271;refine(Eh hk0 hT (Nat.zero_le _) hb7 ho7).mono ?_;rintro e w8 ⟨rfl,t8,hj8,hk8⟩;have hyy:w8.cell? ⟨w.heap.size,0,none⟩=some (.int .i64 sd)/\w8.cell? ⟨w.heap.size,2,none⟩=some (.slice ra rl rc)/\w8.cell? ⟨gb,off+m * 5+1+1+1,none⟩=some (.slice r1 r2 r3):=⟨hk8.cell (Ah HTX.out hyy7) (by decide) (by decide) (cLz hyy7 t0),hk8.cell (Ah HTX.out hyy7) (by decide) (by decide) (cLz hyy7 t2),hk8.cell (Ah HTE.out hyy7) (by decide) (by decide) (cLz hyy7 x4)⟩)
    |(go_at_call 267;refine(KJk.out _ bR.drew).mono ?_;rintro e w7 ⟨⟨ad2,cap2,rfl,ho7⟩,hb7⟩;have hyy7:Bwz X w7:=bR.drew.trans hb7;have hyy:w7.cell? ⟨w.heap.size,0,none⟩=some (.int .i64 sd)/\w7.cell? ⟨w.heap.size,2,none⟩=some (.slice ra rl rc)/\w7.cell? ⟨gb,off+m * 5+1+1+1,none⟩=some (.slice r1 r2 r3):=⟨cLz hyy7 t0,cLz hyy7 t2,cLz hyy7 x4⟩))
  all_goals
   go_wp2
   go_ret
   exact⟨Aa HNE.out,t8,_,hj8,by rw[HA2.out];rfl,((Av hbX).trans (Av hyy7)).trans hk8.m⟩
def Hw(vs:List Ent)(e:Ent):Option Ent:=(vs.filter fun y=>decide (y.time<=e.time)).getLast?
def FA(vs:List Ent)(t:Int)(e:Ent):Bool:=match Hw vs e with
 |some o=>decide (o.time<=t)
 |none=>true
def Ji(p:pl.Pln)(v:Ev)(vs:List Ent)(e:Ent):List ch.Chg:=match Hw vs e with
 |some o=>[⟨3,AW 1 e.row o.row⟩,⟨4,AW v.side v.row e.row⟩]
 |none=>if Co p.mode 1=true then [⟨3,AQ p 1 e.row⟩,⟨4,AW v.side v.row e.row⟩]else [⟨1,AW v.side v.row e.row⟩]
def Fd(p:pl.Pln)(s:Jn)(v:Ev):List Ent:=CB s.R (pl.Aq p v.side v.row) (-1099511627776) 1099511627776
theorem SG{v:Ev}(h:v.side=2):Dx p s v=(BC p s v v.time 1099511627776).filter (FA (Fd p s v) v.time):=by
 unfold Dx BC
 have e:Am s (3 - v.side)=s.L:=by rw[h];rfl
 rw[e]
 rfl
theorem Jj(h:k<l.length):l.take (k+1)=l.take k++[l.getD k default]:=by
 rw[List.take_succ_eq_append_getElem h,gDe,gEe h];rfl
theorem SH(f:Ent->Bool)(h:k<l.length):(l.take (k+1)).filter f=(l.take k).filter f++(if f (l.getD k default)=true then [l.getD k default]else []):=by
 rw[Jj h,List.filter_append]
 congr 1
 obtain⟨z,hz⟩:=nM (l.getD k default)
 rw[hz]
 cases e:f z<;>simp[e]
theorem WP(b:Buf)(k:ByteArray)(a z:Int):MY (CB b k a z):=by
 intro i j hij hj
 rcases Nat.eq_or_lt_of_le hij with rfl|hlt
 ·exact Int.le_refl _
 ·have hb:=JY ((Ab b).filter fun y=>decide (y.key=k)&&decide (a<=y.time)&&decide (y.time<=z)) i j hlt hj
  have hkey:∀i,i<(CB b k a z).length->((CB b k a z).getD i default).key=k:=fun i hi=>by
   have hm:(CB b k a z).getD i default∈CB b k a z:=A1 hi
   have:=(List.mem_filter.1 ((Bu _).mem_iff.1 hm)).2
   simp only[Bool.and_eq_true]at this
   exact of_decide_eq_true this.1.1
  have k1:=hkey i (by omega)
  have k2:=hkey j hj
  unfold CB at *
  refine Int.not_lt.1 (fun hlt2=>hb ?_)
  right
  exact⟨by rw[k1,k2],.inl hlt2⟩
theorem Kn{w0:World}{b:Nat}{x:pl.PA}{y:JX}{tX t:Value}{LX L:List CO}(hX:JSt w0 X b T p x s y tX LX)(hT:calmC T)(h2:JSt w0 w2 b T p x s y t L)(hk:BA T X w2)(hg:(w2.alloc o).grownBy w3 r)(hr:∀g,r=some g->X.heap.size<=g/\Ar w2 g 63):JSt w0 w3 b T p x s y t L/\BA T X w3:=by
 have hsz:w2.heap.size<=w3.heap.size:=by have:=hg.size;rw[World.size_alloc]at this;omega
 have hblk:∀g,g<w2.heap.size->r≠some g->w3.heap[g]? =w2.heap[g]? :=fun g h1 h3=>(hg.block g (by rw[World.size_alloc];omega) (fun e=>h3 e.symm)).trans (Below.heap_alloc _ _ _ h1)
 have hty:∀g e,Ar w2 g e->e≠63->w3.heap[g]? =w2.heap[g]? :=fun g e h1 h3=>hblk g (AY h1) (fun e2=>tyAt_apart h1 (hr g e2).2 h3 rfl)
 have hlow:∀g,g<X.heap.size->w3.heap[g]? =w2.heap[g]? :=fun g h1=>hblk g (Nat.lt_of_lt_of_le h1 hk.1.size) (fun e=>by have:=(hr g e).1;omega)
 have hk3:BA T X w3:=⟨⟨hg.os.trans hk.1.os,hg.tape.trans hk.1.tape,hg.output.trans hk.1.output,Nat.le_trans hk.1.size hsz,fun k h=>absurd h (Nat.not_lt_zero k)⟩,fun g e h1 h3 h4=>(hlow g (AY h1)).trans (hk.2 g e h1 h3 h4)⟩
 have hb3:w3.heap[b]? =w2.heap[b]? :=hty b T h2.ty hT.t.e
 have hob:∀{Z:BX} {B:Buf},OB X w0.heap.size Z B->OB w3 w0.heap.size Z B:=fun ho=>OB.other ho hk3.1.size (fun g hg'=>hg'.elim (fun q=>hk3.2 g _ q hT.t.e.symm (by decide)) (fun q=>hk3.2 g _ q hT.t.v.symm (by decide))) (fun g q=>hk3.2 g _ q hT.t.h.symm (by decide))
 refine⟨⟨Gs h2.box hb3,AH h2.ty hb3,h2.up,hob hX.l,hob hX.r,hX.ap,CG.other h2.cg hsz (fun g hg'=>hg'.elim (fun q=>hty g _ q (by decide)) (fun q=>hty g _ q (by decide))),?_⟩,hk3⟩
 exact⟨hk3.1.os.trans hX.bl.os,hk3.1.tape.trans hX.bl.tape,hk3.1.output.trans hX.bl.output,Nat.le_trans hX.bl.size hk3.1.size,fun k hk'=>((hlow k (Nat.lt_of_lt_of_le hk' hX.bl.size)).trans ((h2.bl.block k hk'))).trans rfl⟩
structure MetL(X wr:World)(v:Value)(ems:List EM)(ml:List Ent):Prop where
 own:wr.ownsRow X.heap.size 63 5 v ems.length (An ems)
 len:ems.length=ml.length
 seq:∀k,k<ml.length->(ems.getD k default).seq=(ml.getD k default).seq
theorem MetL.keep{ems:List EM}(h:MetL X wr v ems ml)(hT:calmC T)(hk:BA T wr w'):MetL X w' v ems ml:=⟨A0 h.own (fun g hg=>hk.2 g _ (A8 h.own hg) hT.t.e.symm (by decide)),h.len,h.seq⟩
theorem MetL.below{ems:List EM}(h:MetL X wr v ems ml)(hb:Bwz wr w'):MetL X w' v ems ml:=⟨own_below h.own hb,h.len,h.seq⟩
theorem MetL.snoc{v':Value}{ems:List EM}{e:EM}{z:Ent}(h:MetL X w2 v ems ml)(hs:e.seq=z.seq)(ho:w3.ownsRow X.heap.size 63 5 v' (ems.length+1) (An ems++[.string e.key,.int .i64 e.time,.int .i64 e.seq,hdV e.row,.bool e.met])):MetL X w3 v' (ems++[e]) (ml++[z]):=by
 refine⟨by rw[lAp,GM];exact ho,by rw[lAp,lAp,h.len];rfl,fun k hk=>?_⟩
 rw[lAp]at hk
 by_cases e1:k<ml.length
 ·rw[AE e1,AE (by rw[h.len];exact e1)]
  exact h.seq k e1
 ·have:k=ml.length:=by simp at hk;omega
  subst this
  rw[AL nR,AL (by rw[h.len];exact Nat.le_refl _),h.len,Nat.sub_self]
  exact hs
theorem MetL.at{ems:List EM}(h:MetL X wr v ems ml):∃a c,v= .slice a ml.length c/\BD wr a ems:=by
 have ho:=h.own
 have e:=Lq ho
 rw[h.len]at e
 refine⟨Ny v,Q7 v,e,?_⟩
 intro i hi
 rcases ho.2 with⟨hv,h0⟩|⟨g,cap,cur,hv,hr⟩
 ·omega
 ·have hc:=World.ownsRow.cells ho (g:=g) (by rw[hv];rfl)
  obtain⟨f1,f2,f3,f4,f5⟩:=FZ ems i hi
  have c1:=hc _ _ f1
  have c2:=hc _ _ f2
  have c3:=hc _ _ f3
  have c4:=hc _ _ f4
  have c5:=hc _ _ f5
  rw[bf.Cl]at c1 c2 c3 c4 c5
  exact⟨g,0,by rw[hv];rfl,c1,c2,c3,c4,c5⟩
theorem FK{ops:Array Oper}{rest:List Oper}{o:Oper}{a:Act}{Q:Exit->Act->World->Prop}(hgd:o.guard=none)(s x:Operand)
 (hop:o.op= .call {callee:=.builtin .append,args:=#[s,x],argTypes:=#[26,26]})
 (base:Nat) (v:Value) (L:List EM) (ek:ByteArray) (et es1:Int) (ad:Option Addr) (rl cap:Nat) (em:Bool) (w1:World) (ln:Nat) (hln:L.length=ln) (ho:w1.ownsRow base 63 5 v ln (An L)) (hl:ln<=1000000) (hb:base<=w1.heap.size)
 (hs:a.eval s=v) (hx:a.eval x= .slice (some ⟨w1.heap.size,0,none⟩) 1 1)
 (h:∀g cap2 w2,w2.ownsRow base 63 5 (.slice (some ⟨g,0,none⟩) (ln+1) cap2) (ln+1) (An L++[.string ek,.int .i64 et,.int .i64 es1,.slice ad rl cap,.bool em])->(w1.alloc (.cells #[.string ek,.int .i64 et,.int .i64 es1,.slice ad rl cap,.bool em] 63)).grownBy w2 v.ownBlock->wpList Tryz.prog ops Q rest (a.put o.dst (.slice (some ⟨g,0,none⟩) (ln+1) cap2)) w2):
 wpList Tryz.prog ops Q (o::rest) a (w1.alloc (.cells #[.string ek,.int .i64 et,.int .i64 es1,.slice ad rl cap,.bool em] 63)):=by
 obtain⟨i0,hi,hz0,hz1,hz2⟩:=info_parts P7
 refine wpList_append_lies _ hgd s x 26 hop base 63 i0 (.agg #[.string ⟨#[]⟩,.int .i64 0,.int .i64 0,.slice none 0 0,.bool false]) 5 64 underlying26 hi hz0 hz1 hz2 rfl (by decide) v ln (An L) hs
  (ho.alloc _) ⟨w1.heap.size,0,none⟩ 1 1 [.string ek,.int .i64 et,.int .i64 es1,.slice ad rl cap,.bool em] hx rfl (Db _ _ _ _ _ _ _) (by intro u hu;simp at hu;rcases hu with rfl|rfl|rfl|rfl|rfl<;>rfl) (by decide) (by unfold maxLen;omega) (by omega) (by simp;omega) (w1.heap.size+1) (by simp) ?_
 intro g cap2 w2 h2 h3 h4 h5
 exact h g cap2 w2 h2 h3
theorem Ko{α β:Type}(f:α->List β)(a:α):[a].flatMap f=f a:=by simp
theorem SI(h:m<l.length):(l.take (m+1)).getLast? =some (l.getD m default):=by
 rw[Jj h,List.getLast?_append];rfl
theorem GP{i:Nat}(hg:(w2.alloc o).grownBy w3 r)(hr:∀g,r=some g->g≠q)(hc:w2.cell? ⟨q,i,none⟩=some v):w3.cell? ⟨q,i,none⟩=some v:=by
 have hq:q<w2.heap.size:=bLt _ _ hc
 exact(cOb (w:=w2) (a:=⟨q,i,none⟩) ((hg.block q (by rw[World.size_alloc];omega) (fun e=>hr q e.symm rfl)).trans (Below.heap_alloc _ _ _ hq))).trans hc
theorem Kq{t:TypeId}(hg:(w2.alloc o).grownBy w3 r)(hr:∀g,r=some g->g≠q)(hc:Ar w2 q t):Ar w3 q t:=by
 have hq:=AY hc
 exact AH hc ((hg.block q (by rw[World.size_alloc];omega) (fun e=>hr q e.symm rfl)).trans (Below.heap_alloc _ _ _ hq))
end jn
end Go.Proofs.YtdohnkkbkfhphaaGreat
