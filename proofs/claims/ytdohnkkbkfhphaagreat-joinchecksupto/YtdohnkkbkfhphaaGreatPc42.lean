import Derived.Test.YtdohnkkbkfhphaaGreatPc41
import Derived.Test.YtdohnkkbkfhphaaGreatPc40
set_option linter.all false
set_option maxHeartbeats 8000000
set_option maxRecDepth 100000
namespace Go.Proofs.YtdohnkkbkfhphaaGreat
open Go.Proofs.Tryz
namespace bf
open Go.ChangeShapes Go.WideShapes Go.ChangeAt Go.RowKit
open vl
attribute [local go_sem] Oper.semAt_some
variable {es : List EM} {l : List Ent} {e : EM} {y : Ent} {w w' : World} {B b base g n p : Nat} {ek : ByteArray} {es1 et : Int} {em1 : Bool}
theorem B7(x:Int):IntKind.i64.wrap x=(x+9223372036854775808) % 18446744073709551616 - 9223372036854775808:=by
 simp only[IntKind.wrap,IntKind.signed,IntKind.bits]
 simp
 split<;>omega
theorem VR{R:EM->Ent->Prop}{k:Nat}(hk:k<=l.length)(hl:es.length=l.length)(h:∀i,i<l.length->R (es.getD i default) (l.getD i default))(he:R e y):
 ∀i,i<(l.take k++y::l.drop k).length->R ((es.take k++e::es.drop k).getD i default) ((l.take k++y::l.drop k).getD i default):=fun i hi=>by
 have h1:(l.take k).length=k:=by rw[List.length_take];omega
 have h2:(es.take k).length=k:=by rw[List.length_take];omega
 rw[lAp,List.length_cons,List.length_drop,h1]at hi
 by_cases c1:i<k
 ·rw[AE (by omega),AE (by omega)]
  have e1:(es.take k).getD i default=es.getD i default:=by simp[gDe,List.getElem?_take,c1]
  have e2:(l.take k).getD i default=l.getD i default:=by simp[gDe,List.getElem?_take,c1]
  rw[e1,e2]
  exact h i (by omega)
 ·rw[AL (by omega),AL (by omega),h1,h2]
  by_cases c2:i=k
  ·subst c2
   rw[Nat.sub_self]
   exact he
  ·obtain⟨j,hj⟩:∃j,i - k=j+1:=⟨i - k - 1,by omega⟩
   rw[hj,List.getD_cons_succ,List.getD_cons_succ]
   have e1:(es.drop k).getD j default=es.getD (i - 1) default:=by
    rw[gDe,List.getElem?_drop,gDe,show k+j=i - 1 by omega]
   have e2:(l.drop k).getD j default=l.getD (i - 1) default:=by
    rw[gDe,List.getElem?_drop,gDe,show k+j=i - 1 by omega]
   rw[e1,e2]
   exact h (i - 1) (by omega)
theorem OR.other{x:Ent}(h:OR w base e x)(hb:∀b,Ar w b 103->w'.heap[b]? =w.heap[b]?):OR w' base e x:=
 ⟨h.key,h.time,h.seq,h.met,h.len,A0 h.row (fun g hg=>hb g (A8 h.row hg))⟩
def RW:Ent:=⟨⟨#[]⟩,0,0,[],false⟩
def F8:EM:=⟨⟨#[]⟩,0,0,(none,0,0),false⟩
theorem XF(w:World)(base:Nat):OR w base F8 RW:=⟨rfl,rfl,rfl,rfl,rfl,World.ownsRow_nil _ _ _ _⟩
theorem YK{w4 w5 w6:World}{cap4 rl c6:Nat}{ad6:Option Addr}{y5:List Value}
 (h4:OE w4 base (.slice (some ⟨g,0,none⟩) (n+1) cap4) (es++[F8]) (l++[RW])) (hn:es.length=n) (hl:es.length=l.length) (hp:p<=n)
 (hy5:y5.length=5) (hown5:w5.ownsRow base 63 5 (.slice (some ⟨g,0,none⟩) (n+1) cap4) (n+1) (An (es.take p)++y5++An (es.drop p)))
 (hsz5:w4.heap.size<=w5.heap.size) (hblk5:∀b,b≠g->w5.heap[b]? =w4.heap[b]?) (hb6:Bwz w5 w6) (hov:AA w6 w5.heap.size (.slice ad6 rl c6) y.row) (hrl:y.row.length=rl)
 (hBg:g≠B) (hB:Ar w4 B 63) (hg:Ar w4 g 63) (k1:ek=y.key) (k2:et=y.time) (k3:es1=y.seq) (k4:em1=y.met) (u:Value):
 OE ((((((w6.setCell ⟨B,3,none⟩ u).setCell ⟨g,p * 5,none⟩ (.string ek)).setCell ⟨g,p * 5+1,none⟩ (.int .i64 et)).setCell ⟨g,p * 5+2,none⟩ (.int .i64 es1)).setCell ⟨g,p * 5+3,none⟩ (.slice ad6 rl c6)).setCell ⟨g,p * 5+4,none⟩ (.bool em1)) base (.slice (some ⟨g,0,none⟩) (n+1) cap4)
  (es.take p++⟨ek,et,es1,(ad6,rl,c6),em1⟩::es.drop p) (l.take p++y::l.drop p):=by
 have hlen:(es.take p++(⟨ek,et,es1,(ad6,rl,c6),em1⟩:EM)::es.drop p).length=n+1:=by
  rw[lAp,List.length_cons,List.length_take,List.length_drop];omega
 have o6:=own_below hown5 hb6
 have o7:(w6.setCell ⟨B,3,none⟩ u).ownsRow base 63 5 (.slice (some ⟨g,0,none⟩) (n+1) cap4) (n+1) (An (es.take p)++y5++An (es.drop p)):=
  A0 o6 (fun b hb=>heap_setCell_other _ _ _ _ (fun e=>by cases hb;exact hBg e))
 have o8:=Gf (Gf (Gf (Gf (Gf o7 (p * 5) (by omega) (.string ek)) (p * 5+1) (by omega) (.int .i64 et)) (p * 5+2) (by omega) (.int .i64 es1)) (p * 5+3) (by omega) (.slice ad6 rl c6)) (p * 5+4) (by omega) (.bool em1)
 have hA:(An (es.take p)).length=p * 5:=by rw[DD,List.length_take];congr 1;omega
 rw[Sk hA hy5]at o8
 have hs:∀b,b≠g->b≠B->((((((w6.setCell ⟨B,3,none⟩ u).setCell ⟨g,p * 5,none⟩ (.string ek)).setCell ⟨g,p * 5+1,none⟩ (.int .i64 et)).setCell ⟨g,p * 5+2,none⟩ (.int .i64 es1)).setCell ⟨g,p * 5+3,none⟩ (.slice ad6 rl c6)).setCell ⟨g,p * 5+4,none⟩ (.bool em1)).heap[b]? =w6.heap[b]? :=fun b h1 h2=>by
  rw[heap_setCell_other _ _ _ _ h1,heap_setCell_other _ _ _ _ h1,heap_setCell_other _ _ _ _ h1,heap_setCell_other _ _ _ _ h1,heap_setCell_other _ _ _ _ h1,heap_setCell_other _ _ _ _ h2]
 have hsz:((((((w6.setCell ⟨B,3,none⟩ u).setCell ⟨g,p * 5,none⟩ (.string ek)).setCell ⟨g,p * 5+1,none⟩ (.int .i64 et)).setCell ⟨g,p * 5+2,none⟩ (.int .i64 es1)).setCell ⟨g,p * 5+3,none⟩ (.slice ad6 rl c6)).setCell ⟨g,p * 5+4,none⟩ (.bool em1)).heap.size=w6.heap.size:=by simp[World.setCell]
 have lB:B<w4.heap.size:=AY hB
 have lg:g<w4.heap.size:=AY hg
 refine⟨?_,?_,?_,?_⟩
 ·rw[hsz];exact Nat.le_trans h4.low (Nat.le_trans hsz5 hb6.size)
 ·rw[hlen,Hl];exact o8
 ·rw[hlen,lAp,List.length_cons,List.length_take,List.length_drop];omega
 ·refine VR (R:=OR _ base) (by omega) hl (fun i hi=>?_) ?_
  ·have k:=h4.rows i (by rw[lAp];omega)
   rw[AE (by omega),AE (by omega)]at k
   refine k.other (fun b hb=>?_)
   have n1:b≠g:=tyAt_apart hb hg (by decide)
   have n2:b≠B:=tyAt_apart hb hB (by decide)
   have lb:b<w4.heap.size:=AY hb
   rw[hs b n1 n2,hb6.block b (by omega),hblk5 b n1]
  ·refine⟨k1,k2,k3,k4,hrl.symm,C5 (A0 hov (fun b hb=>?_)) (Nat.le_trans h4.low hsz5)⟩
   have:=(AD hov hb).1
   exact hs b (by omega) (by omega)
theorem FT(h:w'.heap[b]? =w.heap[b]?)(o:Nat):w'.cell? ⟨b,o,none⟩=w.cell? ⟨b,o,none⟩:=by simp[World.cell?,h]
theorem QP(h:w'.heap[b]? =w.heap[b]?)(o:Nat):w'.frozen? ⟨b,o,none⟩=w.frozen? ⟨b,o,none⟩:=by simp[World.frozen?,h]
theorem TC(hb:Bwz w w')(h:w.cell? ⟨B,0,none⟩=some (.string ek)/\w.cell? ⟨B,1,none⟩=some (.int .i64 et)/\w.cell? ⟨B,2,none⟩=some (.int .i64 es1)/\w.cell? ⟨B,4,none⟩=some (.bool em1)/\w.frozen? ⟨B,3,none⟩=false)(hl:B<w.heap.size):
 w'.cell? ⟨B,0,none⟩=some (.string ek)/\w'.cell? ⟨B,1,none⟩=some (.int .i64 et)/\w'.cell? ⟨B,2,none⟩=some (.int .i64 es1)/\w'.cell? ⟨B,4,none⟩=some (.bool em1)/\w'.frozen? ⟨B,3,none⟩=false:=
 ⟨cLz hb h.1,cLz hb h.2.1,cLz hb h.2.2.1,cLz hb h.2.2.2.1,(hb.frozen (p:=⟨B,3,none⟩) hl).trans h.2.2.2.2⟩
theorem QQ{cap:Nat}{A B y:List Value}(h:w.ownsRow base 63 5 (.slice (some ⟨g,0,none⟩) n cap) n (A++y++B))(hA:A.length=p * 5)(hy:y.length=5):
 (∃u,w.cell? ⟨g,p * 5,none⟩=some u)/\(∃u,w.cell? ⟨g,p * 5+1,none⟩=some u)/\(∃u,w.cell? ⟨g,p * 5+1+1,none⟩=some u)/\(∃u,w.cell? ⟨g,p * 5+1+1+1,none⟩=some u)/\(∃u,w.cell? ⟨g,p * 5+1+1+1+1,none⟩=some u)/\(∀j,w.frozen? ⟨g,j,none⟩=false):=by
 have hc:=World.ownsRow.cells h (g:=g) rfl
 have one:∀j,j<5->∃u,w.cell? ⟨g,p * 5+j,none⟩=some u:=fun j hj=>by
  have hj2:j<y.length:=by omega
  have:=hc (p * 5+j) y[j] (Uo hA (gEe hj2))
  rw[Cl,Nat.zero_add]at this
  exact⟨_,this⟩
 exact⟨one 0 (by omega),one 1 (by omega),one 2 (by omega),one 3 (by omega),one 4 (by omega),PE h⟩
structure Left(w w':World)(base:Nat)(v:Value):Prop where
 size:w.heap.size<=w'.heap.size
 blk:∀k,k<w.heap.size->v.ownBlock≠some k->w'.heap[k]? =w.heap[k]?
theorem It(base:Nat)(ad:Option Addr)(cap:Nat)(es:List EM)(l:List Ent)(e:EM)(y:Ent)(w:World)(h:OE w base (.slice ad es.length cap) es l)(hr:∀w1,Below base w w1->ER w1 e y)(hrise:C9 l)(hl:l.length<=100000)(hrow:y.row.length<=2000000):
 Calls Tryz.prog 46 #[.slice ad es.length cap,e.val] w fun r w'=>(∃(hh:Hdr) (es':List EM) (l':List Ent),r= .returned (.tuple #[hdV hh,.bool (!hasB l (Ay y))])/\OE w' base (hdV hh) es' l'/\(hasB l (Ay y)=true->l'=l)/\(hasB l (Ay y)=false->l'.Perm (y::l)/\C9 l')/\(∀g,(hdV hh).ownBlock=some g->(Value.slice ad es.length cap).ownBlock=some g\/w.heap.size<=g))/\Below base w w'/\Left w w' base (.slice ad es.length cap):=by
 have HO:Hid (OE w base (.slice ad es.length cap) es l):=h
 have HR:Hid (C9 l):=hrise
 have HAT:Hid (BD w ad es):=OE.at h
 have HER:Hid (ER w e y):=hr w bR
 have KCP:Hid (∀w1,Below base w w1->CTz 86 #[hdV e.row] w1 fun r w'=>(∃ad' c',r= .returned (.slice ad' y.row.length c')/\AA w' w1.heap.size (.slice ad' y.row.length c') y.row)/\Bwz w1 w'):=fun w1 hb=>by
  have k:=Sl e.row.1 e.row.2.2 y.row w1 (hr w1 hb).row hrow
  unfold hdV
  rw[(hr w1 hb).len]
  exact k
 have KC0:=hIz (fun(f:EM) (w1:World)=>Ja f e w1)
 have HLN:Hid (es.length=l.length):=h.len
 have hlow:=h.low
 obtain⟨n,hn⟩:∃n,es.length=n:=⟨_,rfl⟩
 have HN:Hid (es.length=n):=hn
 have HNL:Hid (l.length=n):=by show _=_;rw[<-h.len];exact hn
 have hn1:n<=100000:=by rw[<-hn,h.len];exact hl
 rw[hn]
 have HCE:Hid (∀(f:EM) (x:Ent),ER w f x->DG f.ent e.ent=DG x y):=fun f x h1=>Hx h1 (hr w bR)
 obtain⟨HB,hHB⟩:=nM (hasB l (Ay y))
 have HHB:Hid (hasB l (Ay y)=HB):=hHB
 rw[hHB]
 obtain⟨rl,hrl⟩:=nM y.row.length
 have HRL:Hid (y.row.length=rl):=hrl
 rw[hrl]at KCP
 clear hn h hr hrise hl hrow hHB hrl
 obtain⟨ek,et,es1,⟨r1,r2,r3⟩,em1⟩:=e
 unfold EM.val hdV at KC0
 unfold hdV at KCP
 rw[show EM.val ⟨ek,et,es1,(r1,r2,r3),em1⟩= .agg #[.string ek,.int .i64 et,.int .i64 es1,.slice r1 r2 r3,.bool em1]from rfl]
 dsimp only at KC0 KCP
 have hb0:Bwz w (w.alloc (.cells #[.string ek,.int .i64 et,.int .i64 es1,.slice r1 r2 r3,.bool em1] 63)):=bR.alloc nR _
 have k0:(w.alloc (.cells #[.string ek,.int .i64 et,.int .i64 es1,.slice r1 r2 r3,.bool em1] 63)).cell? ⟨w.heap.size,0,none⟩=some (.string ek):=by go_simp
 have k1:(w.alloc (.cells #[.string ek,.int .i64 et,.int .i64 es1,.slice r1 r2 r3,.bool em1] 63)).cell? ⟨w.heap.size,1,none⟩=some (.int .i64 et):=by go_simp
 have k2:(w.alloc (.cells #[.string ek,.int .i64 et,.int .i64 es1,.slice r1 r2 r3,.bool em1] 63)).cell? ⟨w.heap.size,2,none⟩=some (.int .i64 es1):=by go_simp
 have k3:(w.alloc (.cells #[.string ek,.int .i64 et,.int .i64 es1,.slice r1 r2 r3,.bool em1] 63)).cell? ⟨w.heap.size,3,none⟩=some (.slice r1 r2 r3):=by go_simp
 have k4:(w.alloc (.cells #[.string ek,.int .i64 et,.int .i64 es1,.slice r1 r2 r3,.bool em1] 63)).cell? ⟨w.heap.size,4,none⟩=some (.bool em1):=by go_simp
 have kf:∀j,(w.alloc (.cells #[.string ek,.int .i64 et,.int .i64 es1,.slice r1 r2 r3,.bool em1] 63)).frozen? ⟨w.heap.size,j,none⟩=false:=by intro j;go_simp
 have hW0s:(w.alloc (.cells #[.string ek,.int .i64 et,.int .i64 es1,.slice r1 r2 r3,.bool em1] 63)).heap.size=w.heap.size+1:=by simp
 have HTY:Hid (Ar (w.alloc (.cells #[.string ek,.int .i64 et,.int .i64 es1,.slice r1 r2 r3,.bool em1] 63)) w.heap.size 63):=⟨_,_,World.alloc_heap_new _ _⟩
 go_enter func46,ntmps46
 go_wp2
 generalize w.alloc (.cells #[.string ek,.int .i64 et,.int .i64 es1,.slice r1 r2 r3,.bool em1] 63)=W0 at *
 go_loopw [6,7,8,9] (fun lo hi _ _ wr=> ∃p q:Nat,lo= .int .i64 p/\hi= .int .i64 q/\Cut l y p q/\Bwz W0 wr) (fun lo hi _ _ _=>(intOf hi).toNat - (intOf lo).toNat)
 case atStart=>exact⟨0,n,rfl,rfl,by rw[<-HNL.out];exact Cut.start l y,bR⟩
 case round=>
  obtain⟨p,q,rfl,rfl,hcut,hnx⟩:=hrel
  have HCUT:Hid (Cut l y p q):=hcut
  have hpq:=hcut.le
  have hqn:q<=n:=by rw[<-HNL.out];exact hcut.top
  have hbr:Bwz w wr:=hb0.trans (hnx.mono (by omega))
  have c0:=cLz hnx k0
  have c1:=cLz hnx k1
  have c2:=cLz hnx k2
  have c3:=cLz hnx k3
  have c4:=cLz hnx k4
  have lw:w.heap.size<wr.heap.size:=bLt _ _ c0
  clear hcut
  by_cases hlt:p<q
  ·obtain⟨m,hm⟩:∃m,(p+q)/2=m:=⟨_,rfl⟩
   have hm1:p<=m:=by omega
   have hm2:m<q:=by omega
   have hws:IntKind.i64.wrap ((p:Int)+(q:Int))=(p:Int)+(q:Int):=by rw[B7];omega
   have hdv:((p:Int)+(q:Int)).tdiv 2=(m:Int):=by rw[Int.tdiv_eq_ediv_of_nonneg (by omega)];omega
   have hdv2:((p:Int)+(q:Int))/2=(m:Int):=by omega
   have hwm:IntKind.i64.wrap (m:Int)=(m:Int):=by rw[B7];omega
   have hml:m<l.length:=by rw[HNL.out];omega
   obtain⟨b1,o1,e1,x1,x2,x3,x4,x5⟩:=HAT.out m (by rw[HN.out];omega)
   subst e1
   have z1:=cLz hbr x1
   have z2:=cLz hbr x2
   have z3:=cLz hbr x3
   have z4:=cLz hbr x4
   have z5:=cLz hbr x5
   have her:=(HO.out.rows m hml).er
   have hcmp:=HCE.out _ _ her
   have KC:Hid (∀w1,CTz 55 #[(es.getD m default).val,.agg #[.string ek,.int .i64 et,.int .i64 es1,.slice r1 r2 r3,.bool em1]] w1 fun r w'=>r= .returned (.int .i64 (DG (l.getD m default) y))/\Bwz w1 w'):=fun w1=>by rw[<-hcmp];exact KC0.out _ w1
   have HG:Hid (l.getD m default=l[m]):=getD_at hml
   obtain⟨cv,hcv⟩:=nM (DG (l.getD m default) y)
   have HCV:Hid (DG (l.getD m default) y=cv):=hcv
   rw[hcv]at KC
   obtain⟨⟨fk,ft,fs,⟨f1,f2,f3⟩,fm⟩,hz⟩:∃z,es.getD m default=z:=⟨_,rfl⟩
   rw[hz]at z1 z2 z3 z4 z5 KC
   unfold EM.val hdV at KC
   unfold hdV at z4
   dsimp only at z1 z2 z3 z4 z5 KC
   have i1:(0:Int)<=(m:Int):=by omega
   have i2:(m:Int)<(n:Int):=by omega
   have lb1:b1<wr.heap.size:=bLt _ _ z1
   clear hz hcv hcmp her x1 x2 x3 x4 x5 hm KC0
   by_cases v0:cv=0
   ·subst v0
    have HH:Hid (HB=true):=by
     show HB=true
     rw[<-HHB.out]
     refine Yo hml ?_
     rw[<-HG.out];exact Jf.1 HCV.out
    go_wp2
    go_region_held3
     (fun w'=>w'.cell? ⟨b1,o1+m * 5,none⟩=some (.string fk)/\w'.cell? ⟨b1,o1+m * 5+1,none⟩=some (.int .i64 ft)/\w'.cell? ⟨b1,o1+m * 5+1+1,none⟩=some (.int .i64 fs)/\w'.cell? ⟨b1,o1+m * 5+1+1+1,none⟩=some (.slice f1 f2 f3)/\w'.cell? ⟨b1,o1+m * 5+1+1+1+1,none⟩=some (.bool fm)/\w'.cell? ⟨w.heap.size,0,none⟩=some (.string ek)/\w'.cell? ⟨w.heap.size,1,none⟩=some (.int .i64 et)/\w'.cell? ⟨w.heap.size,2,none⟩=some (.int .i64 es1)/\w'.cell? ⟨w.heap.size,3,none⟩=some (.slice r1 r2 r3)/\w'.cell? ⟨w.heap.size,4,none⟩=some (.bool em1))
     (first|go_keep|exact⟨cLz hbq z1,cLz hbq z2,cLz hbq z3,cLz hbq z4,cLz hbq z5,cLz hbq c0,cLz hbq c1,cLz hbq c2,cLz hbq c3,cLz hbq c4⟩)
     (first|(go_at_call 55;refine(KC.out _).mono ?_;rintro e2 wq ⟨rfl,hbq0⟩;have hbq:Bwz wr wq:=bR.drew.trans hbq0))
    all_goals
     have hlq:Bwz w wq:=hbr.trans (hbq.mono hbr.size)
     have hlb:Below base w wq:=hlq.mono hlow
     go_wp2
     go_ret2
     refine⟨⟨(some ⟨b1,o1,none⟩,n,cap),es,l,?_,?_,fun _=>rfl,fun h=>?_,fun g hg=>.inl hg⟩,hlb,hlq.size,fun k hk _=>hlq.block k hk⟩
     ·rw[HH.out];rfl
     ·rw[<-HN.out];exact HO.out.below hlq
     ·rw[HH.out]at h;cases h
   ·have v0':(cv==0)=false:=by simpa using v0
    by_cases v1:cv<0
    ·have HLT:Hid (ltP l[m] y):=by
      show ltP l[m] y
      rw[<-HG.out];exact Fm.1 (by rw[HCV.out];exact v1)
     go_wp2
     go_region_held3
      (fun w'=>w'.cell? ⟨b1,o1+m * 5,none⟩=some (.string fk)/\w'.cell? ⟨b1,o1+m * 5+1,none⟩=some (.int .i64 ft)/\w'.cell? ⟨b1,o1+m * 5+1+1,none⟩=some (.int .i64 fs)/\w'.cell? ⟨b1,o1+m * 5+1+1+1,none⟩=some (.slice f1 f2 f3)/\w'.cell? ⟨b1,o1+m * 5+1+1+1+1,none⟩=some (.bool fm)/\w'.cell? ⟨w.heap.size,0,none⟩=some (.string ek)/\w'.cell? ⟨w.heap.size,1,none⟩=some (.int .i64 et)/\w'.cell? ⟨w.heap.size,2,none⟩=some (.int .i64 es1)/\w'.cell? ⟨w.heap.size,3,none⟩=some (.slice r1 r2 r3)/\w'.cell? ⟨w.heap.size,4,none⟩=some (.bool em1))
      (first|go_keep|exact⟨cLz hbq z1,cLz hbq z2,cLz hbq z3,cLz hbq z4,cLz hbq z5,cLz hbq c0,cLz hbq c1,cLz hbq c2,cLz hbq c3,cLz hbq c4⟩)
      (first|(go_at_call 55;refine(KC.out _).mono ?_;rintro e2 wq ⟨rfl,hbq0⟩;have hbq:Bwz wr wq:=bR.drew.trans hbq0))
     all_goals
      go_wp2
      go_roundw
      case rel=>exact⟨m+1,q,by go_num,rfl,HCUT.out.up HR.out hm2 hml hm1 HLT.out,hnx.trans (hbq.mono hnx.size)⟩
      case measure=>simp[intOf];omega
    ·have HGT:Hid (ltP y l[m]):=by
      show ltP y l[m]
      rcases ltP_tri l[m] y with h3|h3|h3
      ·have k:ltP (l.getD m default) y:=by rw[HG.out];exact h3
       exact absurd (Fm.2 k) (by rw[HCV.out];exact v1)
      ·have k:CZ (l.getD m default) y:=by rw[HG.out];exact h3
       exact absurd (Jf.2 k) (by rw[HCV.out];exact v0)
      ·exact h3
     go_wp2
     go_region_held3
      (fun w'=>w'.cell? ⟨b1,o1+m * 5,none⟩=some (.string fk)/\w'.cell? ⟨b1,o1+m * 5+1,none⟩=some (.int .i64 ft)/\w'.cell? ⟨b1,o1+m * 5+1+1,none⟩=some (.int .i64 fs)/\w'.cell? ⟨b1,o1+m * 5+1+1+1,none⟩=some (.slice f1 f2 f3)/\w'.cell? ⟨b1,o1+m * 5+1+1+1+1,none⟩=some (.bool fm)/\w'.cell? ⟨w.heap.size,0,none⟩=some (.string ek)/\w'.cell? ⟨w.heap.size,1,none⟩=some (.int .i64 et)/\w'.cell? ⟨w.heap.size,2,none⟩=some (.int .i64 es1)/\w'.cell? ⟨w.heap.size,3,none⟩=some (.slice r1 r2 r3)/\w'.cell? ⟨w.heap.size,4,none⟩=some (.bool em1))
      (first|go_keep|exact⟨cLz hbq z1,cLz hbq z2,cLz hbq z3,cLz hbq z4,cLz hbq z5,cLz hbq c0,cLz hbq c1,cLz hbq c2,cLz hbq c3,cLz hbq c4⟩)
      (first|(go_at_call 55;refine(KC.out _).mono ?_;rintro e2 wq ⟨rfl,hbq0⟩;have hbq:Bwz wr wq:=bR.drew.trans hbq0))
     all_goals
      go_wp2
      go_roundw
      case rel=>exact⟨p,m,rfl,rfl,HCUT.out.down HR.out hm2 hml hm1 HGT.out,hnx.trans (hbq.mono hnx.size)⟩
      case measure=>simp[intOf];omega
  ·have hpe:p=q:=by omega
   subst hpe
   have HH:Hid (HB=false):=by show HB=false;rw[<-HHB.out];exact HCUT.out.none
   have hOr:OE wr base (.slice ad n cap) es l:=by rw[<-HN.out];exact HO.out.below hbr
   have HOR:Hid (OE wr base (.slice ad n cap) es l):=hOr
   have HOW:Hid (wr.ownsRow base 63 5 (.slice ad n cap) n (An es)):=by
    have k:=hOr.own
    rw[HN.out]at k
    exact k
   have hvlt:∀b,(Value.slice ad n cap).ownBlock=some b->b<w.heap.size:=fun b hb=>by
    have k:=HO.out.own
    rw[HN.out]at k
    exact(AD k hb).2
   have HVL:Hid (∀b,(Value.slice ad n cap).ownBlock=some b->b<w.heap.size):=hvlt
   have hfr:∀j,wr.frozen? ⟨w.heap.size,j,none⟩=false:=fun j=>(hnx.frozen (p:=⟨w.heap.size,j,none⟩) (by show w.heap.size<_;omega)).trans (kf j)
   have HTB:Hid (Ar wr w.heap.size 63):=Ah HTY.out hnx
   obtain⟨i0,hi0,hz0,hz1,hz2⟩:=info_parts P7
   have HI:Hid (Tryz.prog.info? 63=some i0/\i0.zero=some (.agg #[.string ⟨#[]⟩,.int .i64 0,.int .i64 0,.slice none 0 0,.bool false])/\i0.size=5/\i0.bytes=64):=⟨hi0,hz0,hz1,hz2⟩
   have hbl:base<=wr.heap.size:=Nat.le_trans hlow hbr.size
   have hwp:IntKind.i64.wrap ((p:Int)+1)=(p:Int)+1:=by rw[B7];omega
   clear hi0 hz0 hz1 hz2 hOr hvlt
   go_wp2_with (at_builtin;refine wpList_append_lies _ rfl (.tmp 33) (.tmp 35) 26 rfl base 63 i0 (.agg #[.string ⟨#[]⟩,.int .i64 0,.int .i64 0,.slice none 0 0,.bool false]) 5 64 underlying26 HI.out.1 HI.out.2.1 HI.out.2.2.1 HI.out.2.2.2 rfl (by decide) (.slice ad n cap) n (An es) rfl (World.ownsRow.alloc HOW.out _) ⟨wr.heap.size,0,none⟩ 1 1 [.string ⟨#[]⟩,.int .i64 0,.int .i64 0,.slice none 0 0,.bool false] rfl rfl (Db _ _ _ _ _ _ _) (by intro u hu;simp at hu;rcases hu with rfl|rfl|rfl|rfl|rfl<;>rfl) (by decide) (by unfold maxLen;omega) (by omega) (by simp;omega) (wr.heap.size+1) (by simp) ?_;intro g cap4 w4 hown4 hgrow4 hat4 hlt4)
   have hcap4:n+1<=cap4:=MQ hown4
   have hg4:=AD hown4 (g:=g) rfl
   have HSN:Hid (OE w4 base (.slice (some ⟨g,0,none⟩) (n+1) cap4) (es++[F8]) (l++[RW])/\Below base wr w4):=by
    have k:=JM (e:=F8) (x:=RW) (g:=g) (cap2:=cap4) HOR.out bR (XF _ _) (by rw[HN.out];exact hown4) hgrow4
    rw[HN.out]at k
    exact k
   have hbox4:w4.heap[w.heap.size]? =wr.heap[w.heap.size]? :=by
    rw[hgrow4.block w.heap.size (by simp;omega) (fun e=>by have:=HVL.out _ e.symm;omega)]
    exact Below.heap_alloc _ _ _ lw
   have hgb:g≠w.heap.size:=by
    rcases hat4 with h1|h1
    ·have:=HVL.out g h1;omega
    ·omega
   have hgat:∀g',(Value.slice (some ⟨g,0,none⟩) (n+1) cap4).ownBlock=some g'->(Value.slice ad n cap).ownBlock=some g'\/w.heap.size<=g':=fun g' hg'=>by
    have e:g=g':=by cases hg';rfl
    subst e
    rcases hat4 with h1|h1
    ·exact .inl h1
    ·exact .inr (by omega)
   have HGAT:Hid (∀g',(Value.slice (some ⟨g,0,none⟩) (n+1) cap4).ownBlock=some g'->(Value.slice ad n cap).ownBlock=some g'\/w.heap.size<=g'):=hgat
   have hleft4:∀k,k<w.heap.size->(Value.slice ad n cap).ownBlock≠some k->w4.heap[k]? =w.heap[k]? :=fun k hk hne=>by
    rw[hgrow4.block k (by simp;omega) (fun e=>hne e.symm),Below.heap_alloc _ _ _ (by omega)]
    exact hbr.block k hk
   have HL4:Hid (∀k,k<w.heap.size->(Value.slice ad n cap).ownBlock≠some k->w4.heap[k]? =w.heap[k]?):=hleft4
   have hsz4:wr.heap.size<=w4.heap.size:=by have:=hgrow4.size;simp at this;omega
   obtain⟨bl,hbl2⟩:=nM (n - p)
   have hsum:p+bl=n:=by omega
   obtain⟨d2,hf2n,hd2⟩:=Rs g (n+1) cap4 (p+1) (by omega) hcap4
   obtain⟨s2,hf3n,hs2⟩:=Rs g (n+1) cap4 p (by omega) hcap4
   rw[show n+1 - (p+1)=bl by omega]at hf2n
   rw[show n+1 - p=bl+1 by omega]at hf3n
   have hf2:∀w,(Instr.sliceAt 26 (.slice (some ⟨g,0,none⟩) (n+1) cap4) (some (.int .i64 ((p:Int)+1))) none none).run Tryz.prog w= .ok (.slice (some d2) bl (cap4 - (p+1))) w:=hf2n
   have hf3:∀w,(Instr.sliceAt 26 (.slice (some ⟨g,0,none⟩) (n+1) cap4) (some (.int .i64 (p:Int))) none none).run Tryz.prog w= .ok (.slice (some s2) (bl+1) (cap4 - p)) w:=hf3n
   have hsplit:An es=An (es.take p)++An (es.drop p):=by rw[<-Hl,List.take_append_drop]
   have HLA:Hid ((An (es.take p)).length=p * 5):=by show _=_;rw[DD,List.length_take,HN.out,Nat.min_eq_left (by omega)]
   have HLB:Hid ((An (es.drop p)).length=bl * 5):=by show _=_;rw[DD,List.length_drop,HN.out,hbl2]
   have HROOM:Hid (∀ty,∃w3,(Builtin.copy_ #[26,26] ty #[.slice (some d2) bl (cap4 - (p+1)),.slice (some s2) (bl+1) (cap4 - p)]).run Tryz.prog w4.drew= .ok (goInt bl) w3/\
    (∃y,y.length=5/\w3.ownsRow base 63 5 (.slice (some ⟨g,0,none⟩) (n+1) cap4) (n+1) (An (es.take p)++y++An (es.drop p)))/\w3.heap.size=w4.drew.heap.size/\(∀b,b≠g->w3.heap[b]? =w4.drew.heap[b]?)/\Below g w4.drew w3):=fun ty=>
    Ul (w2:=w4.drew) (na:=p) (nb:=bl) (s:=5) (z:=[.string ⟨#[]⟩,.int .i64 0,.int .i64 0,.slice none 0 0,.bool false]) 26 63 i0 underlying26 HI.out.1 HI.out.2.2.1 (World.ownsRow.drew (by rw[<-hsplit];exact hown4)) HLA.out HLB.out rfl hsum (MR _) (some d2) (some s2) (cap4 - (p+1)) (cap4 - p) (fun h=>congrArg some (hd2 (by omega))) (fun h=>congrArg some (hs2 (by omega))) ty
   have HT4:Hid (Ar w4 g 63):=A8 hown4 rfl
   clear hf2n hf3n hd2 hs2 hown4 hgrow4 hsplit hat4 hgat hleft4
   go_wp2
   go_region_law (first
    |(obtain⟨w5,hrun5,⟨y5,hy5,hown5⟩,hsz5,hblk5,hbl5⟩:=HROOM.out 3;refine Um (by rfl) (.tmp 40) (.tmp 43) (by rfl) (.slice (some d2) bl (cap4 - (p+1))) (.slice (some s2) (bl+1) (cap4 - p)) _ (by simp[Act.eval,Act.put]) (by simp[Act.eval,Act.put]) hrun5 ?_))
   all_goals
    have HB5:Below base w w5:=by
     have h1:Below base w wr:=hbr.mono hlow
     have h2:Below base w w4:=h1.trans HSN.out.2
     exact h2.trans (bR.drew.trans (hbl5.mono hg4.1))
    have hsz5':w5.heap.size=w4.heap.size:=hsz5
    have hblk5':∀b,b≠g->w5.heap[b]? =w4.heap[b]? :=hblk5
    have hbx5:w5.heap[w.heap.size]? =wr.heap[w.heap.size]? :=(hblk5' _ hgb.symm).trans hbox4
    have HX5:Hid (w5.cell? ⟨w.heap.size,0,none⟩=some (.string ek)/\w5.cell? ⟨w.heap.size,1,none⟩=some (.int .i64 et)/\w5.cell? ⟨w.heap.size,2,none⟩=some (.int .i64 es1)/\w5.cell? ⟨w.heap.size,4,none⟩=some (.bool em1)/\w5.frozen? ⟨w.heap.size,3,none⟩=false):=
     ⟨(FT hbx5 0).trans c0,(FT hbx5 1).trans c1,(FT hbx5 2).trans c2,(FT hbx5 4).trans c4,(QP hbx5 3).trans (hfr 3)⟩
    have d3:w5.cell? ⟨w.heap.size,3,none⟩=some (.slice r1 r2 r3):=(FT hbx5 3).trans c3
    have lw5:w.heap.size<w5.heap.size:=by omega
    have lg5:g<w5.heap.size:=by omega
    have HO5:Hid (w5.ownsRow base 63 5 (.slice (some ⟨g,0,none⟩) (n+1) cap4) (n+1) (An (es.take p)++y5++An (es.drop p))):=hown5
    have HY5:Hid (y5.length=5):=hy5
    have HK5:Hid ((∀b,b≠g->w5.heap[b]? =w4.heap[b]?)/\w5.heap.size=w4.heap.size/\Below base w w5):=⟨hblk5',hsz5',HB5⟩
    clear hown5 hy5 hblk5 hblk5' hbl5 hsz5 hrun5 HROOM hbx5 c0 c1 c2 c3 c4 HB5
    have i1:(0:Int)<=(p:Int):=by omega
    have i2:(p:Int)<((n+1:Nat):Int):=by omega
    have i3:(p:Int)<(n:Int)+1:=by omega
    go_wp2_with (go_at_call 86;refine(KCP.out _ HK5.out.2.2).mono ?_;rintro e2 w6 ⟨⟨ad6,c6,rfl,hov6⟩,hb6⟩;have HOV:Hid (AA w6 w5.heap.size (.slice ad6 rl c6) y.row/\Bwz w5 w6):=⟨hov6,hb6⟩;have b3:=cLz hb6 d3;obtain⟨b0,b1,b2,b4,b5⟩:=TC hb6 HX5.out lw5;have lw6:w.heap.size<w6.heap.size:=bLt _ _ b3;obtain⟨⟨u0,g0⟩,⟨u1,g1⟩,⟨u2,g2⟩,⟨u3,g3⟩,⟨u4,g4⟩,gz⟩:=QQ (own_below HO5.out hb6) HLA.out HY5.out;have gz0:=gz (p * 5);have gz1:=gz (p * 5+1);have gz2:=gz (p * 5+1+1);have gz3:=gz (p * 5+1+1+1);have gz4:=gz (p * 5+1+1+1+1);clear gz hov6 hb6)
    have hoe:=YK (u:=.slice ad6 rl c6) HSN.out.1 HN.out HLN.out hqn HY5.out HO5.out (Nat.le_of_eq HK5.out.2.1.symm) HK5.out.1 HOV.out.2 HOV.out.1 HRL.out hgb (AH HTB.out hbox4) HT4.out HER.out.key HER.out.time HER.out.seq HER.out.met
    have hgl:base<=g:=hg4.1
    have h6:Below base w w6:=HK5.out.2.2.trans (HOV.out.2.mono (by omega))
    have h7:Below base w (w6.setCell ⟨w.heap.size,3,none⟩ (.slice ad6 rl c6)):=h6.setCell hlow _
    have hbb:=((((h7.setCell (p:=⟨g,p * 5,none⟩) hgl (.string ek)).setCell (p:=⟨g,p * 5+1,none⟩) hgl (.int .i64 et)).setCell (p:=⟨g,p * 5+2,none⟩) hgl (.int .i64 es1)).setCell (p:=⟨g,p * 5+3,none⟩) hgl (.slice ad6 rl c6)).setCell (p:=⟨g,p * 5+4,none⟩) hgl (.bool em1)
    have hng:∀k,k<w.heap.size->(Value.slice ad n cap).ownBlock≠some k->k≠g:=fun k hk hne e=>by
     subst e
     rcases HGAT.out k rfl with h1|h1
     ·exact hne h1
     ·omega
    have hlf:∀k,k<w.heap.size->(Value.slice ad n cap).ownBlock≠some k->((((((w6.setCell ⟨w.heap.size,3,none⟩ (.slice ad6 rl c6)).setCell ⟨g,p * 5,none⟩ (.string ek)).setCell ⟨g,p * 5+1,none⟩ (.int .i64 et)).setCell ⟨g,p * 5+2,none⟩ (.int .i64 es1)).setCell ⟨g,p * 5+3,none⟩ (.slice ad6 rl c6)).setCell ⟨g,p * 5+4,none⟩ (.bool em1)).heap[k]? =w.heap[k]? :=fun k hk hne=>by
     have h1:=hng k hk hne
     rw[heap_setCell_other _ _ _ _ h1,heap_setCell_other _ _ _ _ h1,heap_setCell_other _ _ _ _ h1,heap_setCell_other _ _ _ _ h1,heap_setCell_other _ _ _ _ h1,heap_setCell_other _ _ _ _ (by dsimp only;omega),HOV.out.2.block k (by omega),HK5.out.1 k h1,HL4.out k hk hne]
    go_ret2
    refine⟨⟨(some ⟨g,0,none⟩,n+1,cap4),_,l.take p++y::l.drop p,?_,hoe,fun h=>?_,fun _=>⟨Cut.perm p,HCUT.out.rise HR.out⟩,HGAT.out⟩,hbb,hbb.size,hlf⟩
    ·rw[HH.out];rfl
    ·rw[HH.out]at h;cases h
end bf
end Go.Proofs.YtdohnkkbkfhphaaGreat
