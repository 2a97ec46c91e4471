import Derived.Test.YtdohnkkbkfhphaaGreatPc33
set_option linter.all false
set_option maxHeartbeats 8000000
set_option maxRecDepth 100000
namespace Go.Proofs.YtdohnkkbkfhphaaGreat
open Go.Proofs.Tryz
namespace jn
open Go.ChangeShapes Go.WideShapes Go.ChangeAt Go.RowKit
open vl bf
attribute [local go_sem] Oper.semAt_some
variable {w w0 : World} {b base i k : Nat} {p : pl.Pln} {x : pl.PA} {s : Jn} {y : JX} {t v : Value} {T : TypeId} {L : List CO}
def FV(p:pl.Pln)(s:Jn)(v:Ev):Jn:=if p.kind=3 then(if v.side=1 then s else A3 s 1 (Cp ((Dx p s v).map (·.seq)) s.L))else Cf p s v
def Jc(p:pl.Pln)(s:Jn)(v:Ev):Bool:=if p.kind=3 then(if v.side=1 then !(Cg p s v).isEmpty else false)else !(partners p s v).isEmpty
def Iv(p:pl.Pln)(s:Jn)(v:Ev):List ch.Chg:=if p.kind=3 then(if v.side=1 then Gd p s v else Ge p s v)else Cq p s v
theorem RZ(p:pl.Pln)(s:Jn)(v:Ev):GA p s v=(Dy p (FV p s v) v (Jc p s v),Iv p s v):=by
 unfold GA FV Jc Iv
 by_cases h1:p.kind=3
 ·rw[if_pos h1,if_pos h1,if_pos h1,if_pos h1]
  by_cases h2:v.side=1
  ·rw[if_pos h2,if_pos h2,if_pos h2,if_pos h2]
  ·rw[if_neg h2,if_neg h2,if_neg h2,if_neg h2]
 ·rw[if_neg h1,if_neg h1,if_neg h1,if_neg h1]
theorem TI(b:Nat)(p:pl.Pln)(x:pl.PA)(s:Jn)(y:JX)(v:Ev)(ra:Option Addr)(rc:Nat)(w0 w:World)(h:JSt w0 w b 143 p x s y (.slice none 0 0) [])(hk:p.kind=3)(hg:goodJ p s)(hc:comeJ p s v)(hv:vl.rowAt w0 ra v.row):
 Calls Tryz.prog 280 #[.pointer (some ⟨b,0,none⟩),Bz p v ra rc] w fun e w'=>e= .returned (.bool (Jc p s v))/\∃y' t' L',JSt w0 w' b 143 p x (FV p s v) y' t' L'/\L'.map CO.chg=Iv p s v/\Bs 143 w w':=by
 unfold Jc FV Iv
 rw[if_pos hk,if_pos hk,if_pos hk]
 by_cases hs:v.side=1
 ·rw[if_pos hs,if_pos hs,if_pos hs]
  have KA:=hIz (fun(w1:World) (hb:Bwz w w1)=>WO b p x s y v ra rc w0 w1 (h.below hb) hg hc hs hv)
  unfold Bz at KA⊢
  obtain⟨kb,h1⟩:=nM (pl.Aq p v.side v.row)
  obtain⟨kh,h2⟩:=nM (pl.hasB p v.side v.row)
  obtain⟨rl,hrl⟩:=nM v.row.length
  obtain⟨R,hR⟩:=nM (!(Cg p s v).isEmpty)
  obtain⟨tm',htm⟩:=nM v.time
  rw[h1,h2,hrl,htm]at KA⊢
  rw[hR]at KA⊢
  rw[hs]at KA⊢
  clear h1 h2 hrl hR htm h hg hc hv hk hs
  go_enter func280,ntmps280
  go_wp2_with (go_at_call 282;refine(KA.out _ (bR.alloc nR _)).mono ?_;rintro e w2 ⟨rfl,t',L',hj,hl,hkm⟩)
  go_ret
  exact⟨rfl,y,t',L',hj,hl,(Av (bR.alloc nR _)).trans hkm⟩
 ·rw[if_neg hs,if_neg hs,if_neg hs]
  have hs2:v.side=2:=by have:=side_is hc.side;omega
  have KN:=hIz (fun(w1:World) (hb:Bwz w w1)=>WZ b p x s y v ra rc w0 w1 (h.below hb) hg hc hs2 hv)
  unfold Bz at KN⊢
  obtain⟨kb,h1⟩:=nM (pl.Aq p v.side v.row)
  obtain⟨kh,h2⟩:=nM (pl.hasB p v.side v.row)
  obtain⟨rl,hrl⟩:=nM v.row.length
  obtain⟨tm',htm⟩:=nM v.time
  rw[h1,h2,hrl,htm]at KN⊢
  rw[hs2]at KN⊢
  clear h1 h2 hrl htm h hg hc hv hk hs hs2
  go_enter func280,ntmps280
  go_wp2_with (go_at_call 283;refine(KN.out _ (bR.alloc nR _)).mono ?_;rintro e w2 ⟨rfl,y',t',L',hj,hl,hkm⟩)
  go_ret
  exact⟨rfl,y',t',L',hj,hl,(Av (bR.alloc nR _)).trans hkm⟩
theorem Iw(h:Br w b p x)(hk:13<=k)(u:Value):Br (w.setCell ⟨b,k,none⟩ u) b p x:=by
 obtain⟨v0,v1,v2,v3,v4,v5,v6,v7,v8,v9,v10,v11,v12⟩:=h
 exact⟨cell_far v0 (by omega),cell_far v1 (by omega),cell_far v2 (by omega),cell_far v3 (by omega),cell_far v4 (by omega),cell_far v5 (by omega),cell_far v6 (by omega),cell_far v7 (by omega),cell_far v8 (by omega),cell_far v9 (by omega),cell_far v10 (by omega),cell_far v11 (by omega),cell_far v12 (by omega)⟩
theorem Iy{n:Nat}(h:w.there b 0 n)(q:Nat)(u:Value):(w.setCell ⟨q,k,none⟩ u).there b 0 n:=fun j hj=>⟨by
 obtain⟨v,hu⟩:=Option.isSome_iff_exists.1 (h j hj).1
 obtain⟨u',hu'⟩:=cell?_setCell_some (p:=⟨q,k,none⟩) (x:=u) hu
 rw[hu'];rfl,by rw[World.frozen?_setCell];exact(h j hj).2⟩
theorem VY(h:boxC w b p x s y t)(n:Int):boxC (w.setCell ⟨b,21,none⟩ (.int .i64 n)) b p x ⟨s.L,s.R,s.lm,s.rm,n⟩ y t:=by
 refine⟨Iw h.plan (by omega) _,?_,cell_far h.told (by omega),Iy h.room _ _⟩
 obtain⟨u0,u1,u2,u3,u4,u5,u6,u7,u8⟩:=h.join
 exact⟨cell_far u0 (by omega),cell_far u1 (by omega),cell_far u2 (by omega),cell_far u3 (by omega),cell_far u4 (by omega),cell_far u5 (by omega),cell_far u6 (by omega),cell_far u7 (by omega),World.cell?_setCell_same _ _ _ u8⟩
def Jv(y:JX)(side:Int)(z:BX):JX:=if side=2 then⟨y.l,z⟩else⟨z,y.r⟩
theorem BF(h:w.cell? ⟨b,i,none⟩=some v)(h0:k≠i)(h1:k+1≠i)(h2:k+1+1≠i)(u0 u1 u2:Value):(((w.setCell ⟨b,k,none⟩ u0).setCell ⟨b,k+1,none⟩ u1).setCell ⟨b,k+1+1,none⟩ u2).cell? ⟨b,i,none⟩=some v:=cell_far (cell_far (cell_far h h0) h1) h2
theorem Sa(h:w.cell? ⟨b,k,none⟩=some v)(u0 u1 u2:Value):(((w.setCell ⟨b,k,none⟩ u0).setCell ⟨b,k+1,none⟩ u1).setCell ⟨b,k+1+1,none⟩ u2).cell? ⟨b,k,none⟩=some u0:=cell_far (cell_far (World.cell?_setCell_same _ _ _ h) (by omega)) (by omega)
theorem Sb(h:w.cell? ⟨b,k+1,none⟩=some v)(u0 u1 u2:Value):(((w.setCell ⟨b,k,none⟩ u0).setCell ⟨b,k+1,none⟩ u1).setCell ⟨b,k+1+1,none⟩ u2).cell? ⟨b,k+1,none⟩=some u1:=cell_far (World.cell?_setCell_same _ _ _ (cell_far h (by omega))) (by omega)
theorem Sc(h:w.cell? ⟨b,k+1+1,none⟩=some v)(u0 u1 u2:Value):(((w.setCell ⟨b,k,none⟩ u0).setCell ⟨b,k+1,none⟩ u1).setCell ⟨b,k+1+1,none⟩ u2).cell? ⟨b,k+1+1,none⟩=some u2:=World.cell?_setCell_same _ _ _ (cell_far (cell_far h (by omega)) (by omega))
theorem VZ(h:boxC w b p x s y t)(side:Int)(B:Buf)(X:BX)(k:Nat)(hk:13+At side=k):boxC (((w.setCell ⟨b,k,none⟩ (.int .i64 B.lim)).setCell ⟨b,k+1,none⟩ (hdV X.m.1)).setCell ⟨b,k+1+1,none⟩ (.slice X.ra X.rs.length X.rc)) b p x (A3 s side B) (Jv y side X) t:=by
 have hb:At side=0\/At side=3:=by unfold At;split<;>simp
 refine⟨Iw (Iw (Iw h.plan (by omega) _) (by omega) _) (by omega) _,?_,BF h.told (by omega) (by omega) (by omega) _ _ _,Iy (Iy (Iy h.room _ _) _ _) _ _⟩
 obtain⟨u0,u1,u2,u3,u4,u5,u6,u7,u8⟩:=h.join
 unfold At at hk
 unfold A3 Jv
 by_cases e:side=2
 ·rw[if_pos e]at hk
  subst hk
  rw[if_pos e,if_pos e]
  refine⟨BF u0 (by omega) (by omega) (by omega) _ _ _,BF u1 (by omega) (by omega) (by omega) _ _ _,BF u2 (by omega) (by omega) (by omega) _ _ _,Sa u3 _ _ _,Sb u4 _ _ _,Sc u5 _ _ _,BF u6 (by omega) (by omega) (by omega) _ _ _,BF u7 (by omega) (by omega) (by omega) _ _ _,BF u8 (by omega) (by omega) (by omega) _ _ _⟩
 ·rw[if_neg e]at hk
  subst hk
  rw[if_neg e,if_neg e]
  refine⟨Sa u0 _ _ _,Sb u1 _ _ _,Sc u2 _ _ _,BF u3 (by omega) (by omega) (by omega) _ _ _,BF u4 (by omega) (by omega) (by omega) _ _ _,BF u5 (by omega) (by omega) (by omega) _ _ _,BF u6 (by omega) (by omega) (by omega) _ _ _,BF u7 (by omega) (by omega) (by omega) _ _ _,BF u8 (by omega) (by omega) (by omega) _ _ _⟩
theorem DZ{q:Nat}(h:w.cell? ⟨q,i,none⟩=some v)(hq:b≠q)(u0 u1 u2:Value):(((w.setCell ⟨b,k,none⟩ u0).setCell ⟨b,k+1,none⟩ u1).setCell ⟨b,k+1+1,none⟩ u2).cell? ⟨q,i,none⟩=some v:=
 have ne:∀j,(⟨b,j,none⟩:Addr)≠⟨q,i,none⟩:=fun j e=>hq (by injection e)
 ((World.cell?_setCell_other _ _ _ _ (ne _)).trans ((World.cell?_setCell_other _ _ _ _ (ne _)).trans (World.cell?_setCell_other _ _ _ _ (ne _)))).trans h
theorem QS{q:Addr}(h:w.frozen? q=false)(u0 u1 u2:Value):(((w.setCell ⟨b,k,none⟩ u0).setCell ⟨b,k+1,none⟩ u1).setCell ⟨b,k+1+1,none⟩ u2).frozen? q=false:=by
 rw[World.frozen?_setCell,World.frozen?_setCell,World.frozen?_setCell];exact h
theorem MH(s:Jn)(side:Int)(B:Buf):(A3 s side B).lm=s.lm/\(A3 s side B).rm=s.rm/\(A3 s side B).seq=s.seq:=by unfold A3;split<;>exact⟨rfl,rfl,rfl⟩
theorem DS(h:Ar w b T)(k:Nat)(u:Value):Bs T w (w.setCell ⟨b,k,none⟩ u):=⟨(Below.refl 0 w).setCell (Nat.zero_le _) u,fun g e hg h1 _ _=>heap_setCell_other _ _ _ _ (fun e2=>tyAt_apart hg h h1 e2)⟩
theorem EO(h:Ar w b T)(k:Nat)(u0 u1 u2:Value):Bs T w (((w.setCell ⟨b,k,none⟩ u0).setCell ⟨b,k+1,none⟩ u1).setCell ⟨b,k+1+1,none⟩ u2):=
 ((DS h _ _).trans (DS (AM h _ _) _ _)).trans (DS (AM (AM h _ _) _ _) _ _)
theorem Iz(h:CG w base v L)(hT:Ar w b T)(hc:calmC T)(k:Nat)(u:Value):CG (w.setCell ⟨b,k,none⟩ u) base v L:=N0 h hT hc.c hc.t.v k u
theorem QT(h:JSt w0 w b T p x s y t L)(hT:calmC T)(n:Int):JSt w0 (w.setCell ⟨b,21,none⟩ (.int .i64 n)) b T p x ⟨s.L,s.R,s.lm,s.rm,n⟩ y t L:=
 ⟨VY h.box n,AM h.ty _ _,h.up,EJ h.l h.ty hT.t _ _,EJ h.r h.ty hT.t _ _,h.ap,Iz h.cg h.ty hT _ _,h.bl.setCell h.up _⟩
theorem XG(h:JSt w0 w b T p x s y t L)(hT:calmC T)(side time:Int):JSt w0 (w.setCell ⟨b,13+B4 side,none⟩ (.int .i64 time)) b T p x (DI s side time) y t L:=by
 have e:(DI s side time).L=s.L/\(DI s side time).R=s.R:=by unfold DI;split<;>exact⟨rfl,rfl⟩
 exact⟨Tg h.box side time,AM h.ty _ _,h.up,by rw[e.1];exact EJ h.l h.ty hT.t _ _,by rw[e.2];exact EJ h.r h.ty hT.t _ _,h.ap,Iz h.cg h.ty hT _ _,h.bl.setCell h.up _⟩
theorem NH{wn:World}(h:JSt w0 w b T p x s y t L)(hT:calmC T)(hb:Bwz w wn)(side:Int){B:Buf}{X:BX}(ho:OB wn base X B)(hbase:w.heap.size<=base)(k:Nat)(hk:13+At side=k):
 JSt w0 (((wn.setCell ⟨b,k,none⟩ (.int .i64 B.lim)).setCell ⟨b,k+1,none⟩ (hdV X.m.1)).setCell ⟨b,k+1+1,none⟩ (.slice X.ra X.rs.length X.rc)) b T p x (A3 s side B) (Jv y side X) t L:=by
 have h1:=h.below hb
 have t1:=h1.ty
 have t2:=AM t1 ⟨b,k,none⟩ (.int .i64 B.lim)
 have t3:=AM t2 ⟨b,k+1,none⟩ (hdV X.m.1)
 have keep:∀{bs:Nat} {Z:BX} {C:Buf},OB wn bs Z C->OB (((wn.setCell ⟨b,k,none⟩ (.int .i64 B.lim)).setCell ⟨b,k+1,none⟩ (hdV X.m.1)).setCell ⟨b,k+1+1,none⟩ (.slice X.ra X.rs.length X.rc)) bs Z C:=fun hz=>EJ (EJ (EJ hz t1 hT.t _ _) t2 hT.t _ _) t3 hT.t _ _
 have hlow:w0.heap.size<=base:=Nat.le_trans h.bl.size hbase
 have hnew:=keep (Cw ho hlow)
 have hcg:=Iz (Iz (Iz h1.cg t1 hT k (.int .i64 B.lim)) t2 hT (k+1) (hdV X.m.1)) t3 hT (k+1+1) (.slice X.ra X.rs.length X.rc)
 have hbl:=((h1.bl.setCell (p:=⟨b,k,none⟩) h.up (.int .i64 B.lim)).setCell (p:=⟨b,k+1,none⟩) h.up (hdV X.m.1)).setCell (p:=⟨b,k+1+1,none⟩) h.up (.slice X.ra X.rs.length X.rc)
 have hbox:=VZ h1.box side B X k hk
 unfold A3 Jv at *
 by_cases e:side=2
 ·rw[if_pos e,if_pos e]at hbox
  rw[if_pos e,if_pos e]
  exact⟨hbox,AM t3 _ _,h.up,keep h1.l,hnew,K7 h.l ho hbase,hcg,hbl⟩
 ·rw[if_neg e,if_neg e]at hbox
  rw[if_neg e,if_neg e]
  exact⟨hbox,AM t3 _ _,h.up,hnew,keep h1.r,fun p hp q hq=>JZ (K7 h.r ho hbase q hq p hp),hcg,hbl⟩
def GK(p:pl.Pln)(s:Jn):Nat->Jn
 |0=>s
 |1=>⟨C1 (D4 (Cm p s 1)) s.L,s.R,s.lm,s.rm,s.seq⟩
 |_=>EF p s
theorem Wa(h:k<2):pl.Be ((k:Int)+1)=true/\Am (GK p s k) ((k:Int)+1)=Am s ((k:Int)+1)/\Cm p (GK p s k) ((k:Int)+1)=Cm p s ((k:Int)+1)/\A3 (GK p s k) ((k:Int)+1) (C1 (D4 (Cm p s ((k:Int)+1))) (Am s ((k:Int)+1)))=GK p s (k+1):=by
 match k,h with
 |0,_=>exact⟨by decide,rfl,rfl,rfl⟩
 |1,_=>exact⟨by decide,rfl,rfl,rfl⟩
theorem Hb(b:Nat)(T:TypeId)(p:pl.Pln)(x:pl.PA)(s:Jn)(y:JX)(t:Value)(L:List CO)(w0 w:World)(h:JSt w0 w b T p x s y t L)(hT:calmC T)(hTi:T≠3)(hw:pl.wfPlan p)(hp:pl.planAt w0 p x)(hg:goodJ p s):
 Calls Tryz.prog 254 #[.pointer (some ⟨b,0,none⟩)] w fun e w'=>e= .returned (.tuple #[])/\∃y',JSt w0 w' b T p x (EF p s) y' t L/\Bs T w w':=by
 have HJ:Hid (JSt w0 w b T p x s y t L):=h
 have HG:Hid (goodJ p s):=hg
 have HWP:Hid (pl.wfPlan p/\pl.planAt w0 p x):=⟨hw,hp⟩
 clear h hg hw hp
 go_enter func254,ntmps254
 go_wp2
 generalize hV:(World.alloc w _)=V
 have hb0:Bwz w V:=by rw[<-hV];exact bR.alloc nR _
 have a0:V.cell? ⟨w.heap.size,0,none⟩=some (.int .i64 1):=by subst hV;go_simp
 have a1:V.cell? ⟨w.heap.size,1,none⟩=some (.int .i64 2):=by subst hV;go_simp
 have HTA:Hid (Ar V w.heap.size 3):=by subst hV;exact⟨_,_,World.alloc_heap_new w _⟩
 clear hV
 go_loopw [7] (fun i wr=> ∃(k:Nat) (y':JX),k<=2/\i= .int .i64 k/\Hid (JSt w0 wr b T p x (GK p s k) y' t L)/\Hid (Bs T V wr)) (fun i _=>2 - (intOf i).toNat)
 case atStart=>exact⟨0,y,by omega,rfl,HJ.out.below hb0,Av bR⟩
 case round=>
  obtain⟨k,y',hk,rfl,HJR,HKV⟩:=hrel
  have a0:=HKV.out.cell HTA.out hTi.symm (by decide) (by decide) a0
  have a1:=HKV.out.cell HTA.out hTi.symm (by decide) (by decide) a1
  by_cases hlt:k<2
  ·have i1:(0:Int)<=(k:Int):=by omega
   have i2:(k:Int)<2:=by omega
   have ac:wr.cell? ⟨w.heap.size,k,none⟩=some (.int .i64 ((k:Int)+1)):=by
    match k,hlt with
    |0,_=>exact a0
    |1,_=>exact a1
   clear a0 a1
   obtain⟨d1,d2,d3,d4⟩:=Wa (p:=p) (s:=s) hlt
   obtain⟨NB,hNB⟩:=nM (C1 (D4 (Cm p s ((k:Int)+1))) (Am s ((k:Int)+1)))
   rw[hNB]at d4
   have hok:=HG.out.of ((k:Int)+1)
   have hob:bufAt wr (Am s ((k:Int)+1)) (Bv y' ((k:Int)+1)):=by
    rw[<-d2]
    unfold Am Bv
    split
    ·exact HJR.out.r.at
    ·exact HJR.out.l.at
   have hcb:=Ek HJR.out.box.join ((k:Int)+1)
   rw[d2]at hcb
   have KG:Hid (∀w1,Bwz wr w1->CTz 260 #[.pointer (some ⟨b,0,none⟩),.int .i64 ((k:Int)+1)] w1 fun e w'=>e= .returned (.int .i64 (Cm p s ((k:Int)+1)))/\Bwz w1 w'):=fun w1 hb=>by
    have:=Ia b p x (GK p s k) y' t ((k:Int)+1) w1 HWP.out.1 (pl.Af HWP.out.2 (HJR.out.bl.trans (hb.mono HJR.out.bl.size))) (HJR.out.below hb).box d1
    rw[d3]at this
    exact this
   have KB:Hid (∀w1,CTz 144 #[.pointer (some ⟨b,13,none⟩),.int .i64 ((k:Int)+1)] w1 fun e w'=>e= .returned (.pointer (some ⟨b,13+At ((k:Int)+1),none⟩))/\w'=w1):=fun w1=>EI b 13 _ w1
   have KD:Hid (∀w1,Bwz wr w1->CTz 259 #[AN (Am s ((k:Int)+1)) (Bv y' ((k:Int)+1)),.int .i64 (Cm p s ((k:Int)+1))] w1 fun e w'=>(∃X,e= .returned (.tuple #[AN NB X,.int .i64 0])/\OB w' w1.heap.size X NB)/\Bwz w1 w'):=fun w1 hb=>by
    have:=WM (Am s ((k:Int)+1)) (Bv y' ((k:Int)+1)) (Cm p s ((k:Int)+1)) w1 (Ai hob hb) hok.2 (by have:=hok.1.all;omega) (Ds hok.1)
    rw[hNB]at this
    exact this
   have HFR:Hid (∀w1,Bwz wr w1->∀i,i<23->w1.frozen? ⟨b,i,none⟩=false):=fun w1 hb i hi=>by
    have:=((HJR.out.below hb).box.room i hi).2
    simpa using this
   have hb3:At ((k:Int)+1)=0\/At ((k:Int)+1)=3:=by unfold At;split<;>simp
   obtain⟨q,hq⟩:=nM (13+At ((k:Int)+1))
   have HQQ:Hid (13+At ((k:Int)+1)=q):=hq
   have hql:13<=q/\q<=16:=by omega
   obtain⟨G,hG⟩:=nM (Cm p s ((k:Int)+1))
   obtain⟨bo,hbo⟩:=nM (Am s ((k:Int)+1))
   obtain⟨bx,hbx⟩:=nM (Bv y' ((k:Int)+1))
   obtain⟨sd,hsd⟩:=nM ((k:Int)+1)
   have HDN:Hid (A3 (GK p s k) sd NB=GK p s (k+1)):=by show _=_;rw[<-hsd];exact d4
   have HSD:Hid ((k:Int)+1=sd):=hsd
   rw[hG]at KG KD
   rw[hbo,hbx]at KD hcb
   rw[hq]at KB hcb
   rw[hsd]at KG KB HQQ ac
   obtain⟨ra',rc',⟨⟨m1,m2,m3⟩,ml⟩,rs⟩:=bx
   obtain⟨lim,mem,runs⟩:=bo
   unfold AN hdV at KD
   dsimp only at KD hcb
   obtain⟨n,hn⟩:=nM rs.length
   rw[hn]at KD hcb
   obtain⟨HC0,HC1,HC2⟩:=hcb
   have lb:b<wr.heap.size:=HJR.out.box.lt
   clear d1 d2 d3 d4 hNB hok hob hb3 hq hG hbo hbx hn hsd
   go_wp2_with (go_at_call 144;refine(KB.out _).mono ?_;rintro e wr ⟨rfl,rfl⟩)
   refine gr.BI 13 rfl (by kernel_rfl) (S:=fun _=>True) trivial (fun hHz=>?_)
   refine tkz 0 17 hHz ?_;refine tkz 1 18 hHz ?_;refine tkz 2 19 hHz ?_;refine tkz 4 21 hHz ?_;refine tkz 5 22 hHz ?_
   refine wpAnyH_ready (rs:=[3,6]) (by kernel_rfl) (by simp) ?_
   refine AllReadyH.cons rfl (fun K hK=>?_) (AllReadyH.cons rfl (fun K hK=>?_) AllReadyH.nil)
   ·go_simp
    refine hK.out _ _ trivial (fun hHz=>?_)
    clear hK K
    try simp only[Act.put,sI,sZ,sSz]
    refine wpAnyH_ready (rs:=[6]) (by kernel_rfl) (by simp) ?_
    refine AllReadyH.cons rfl (fun K hK=>?_) AllReadyH.nil
    go_simp
    go_at_call 260
    refine(KG.out _ bR.drew).mono ?_
    rintro e wg ⟨rfl,hbg⟩
    have hyg:Bwz wr wg:=bR.drew.trans hbg
    go_wp2_with fail
    refine hK.out _ _ trivial (fun hHz=>?_)
    clear hK K
    try simp only[Act.put,sI,sZ,sSz]
    refine wpAnyH_ready (rs:=[7]) (by kernel_rfl) (by simp) ?_
    refine AllReadyH.cons rfl (fun K hK=>?_) AllReadyH.nil
    go_simp
    go_at_call 259
    refine(KD.out _ hyg).mono ?_
    rintro e wp ⟨⟨X,rfl,hob⟩,hbp⟩
    have hyp:Bwz wr wp:=hyg.trans (hbp.mono hyg.size)
    go_wp2_with fail
    refine hK.out _ _ trivial (fun hHz=>?_)
    clear hK K
    try simp only[Act.put,sI,sZ,sSz]
    refine tkz 8 16 hHz ?_;refine tkz 9 25 hHz ?_;refine tkz 10 26 hHz ?_;refine tkz 11 27 hHz ?_
    have HOB:Hid (OB wp wr.heap.size X NB):=Cw hob hyg.size
    have f0:=HFR.out _ hyp q (by omega)
    have f1:=HFR.out _ hyp (q+1) (by omega)
    have f2:=HFR.out _ hyp (q+1+1) (by omega)
    have e0:=cLz hyp HC0
    have e1:=cLz hyp HC1
    have e2:=cLz hyp HC2
    clear hob
    refine wpAnyH_ready (rs:=[12]) (by kernel_rfl) (by simp) ?_
    refine AllReadyH.cons rfl (fun K hK=>?_) AllReadyH.nil
    go_simp
    refine hK.out _ _ trivial (fun hHz=>?_)
    clear hK K
    refine wpAnyH_done (by kernel_rfl) ?_ _
    have HKM:Hid (Bs T wr (((wp.setCell ⟨b,q,none⟩ (.int .i64 NB.lim)).setCell ⟨b,q+1,none⟩ (.slice X.m.1.1 X.m.1.2.1 X.m.1.2.2)).setCell ⟨b,q+1+1,none⟩ (.slice X.ra X.rs.length X.rc))):=(Av hyp).trans (EO (HJR.out.below hyp).ty q _ _ _)
    have HST:=NH HJR.out hT hyp sd HOB.out nR q HQQ.out
    unfold hdV at HST
    generalize (((wp.setCell ⟨b,q,none⟩ (.int .i64 NB.lim)).setCell ⟨b,q+1,none⟩ (.slice X.m.1.1 X.m.1.2.1 X.m.1.2.2)).setCell ⟨b,q+1+1,none⟩ (.slice X.ra X.rs.length X.rc))=W4 at *
    have HS4:Hid (JSt w0 W4 b T p x (GK p s (k+1)) (Jv y' sd X) t L):=by
     show JSt _ _ _ _ _ _ _ _ _ _
     rw[<-HDN.out];exact HST
    clear HST
    go_wp2
    go_roundw
    (case rel=>exact⟨k+1,_,by omega,by go_num,HS4,HKV.out.trans HKM.out⟩)
    (case measure=>simp[intOf];omega)
   ·go_simp
    go_at_call 260
    refine(KG.out _ bR.drew).mono ?_
    rintro e wg ⟨rfl,hbg⟩
    have hyg:Bwz wr wg:=bR.drew.trans hbg
    go_wp2_with fail
    refine hK.out _ _ trivial (fun hHz=>?_)
    clear hK K
    try simp only[Act.put,sI,sZ,sSz]
    have d0:=cLz hyg HC0
    have d1:=cLz hyg HC1
    have d2:=cLz hyg HC2
    refine wpAnyH_ready (rs:=[3]) (by kernel_rfl) (by simp) ?_
    refine AllReadyH.cons rfl (fun K hK=>?_) AllReadyH.nil
    go_simp
    refine hK.out _ _ trivial (fun hHz=>?_)
    clear hK K
    try simp only[Act.put,sI,sZ,sSz]
    refine wpAnyH_ready (rs:=[7]) (by kernel_rfl) (by simp) ?_
    refine AllReadyH.cons rfl (fun K hK=>?_) AllReadyH.nil
    go_simp
    go_at_call 259
    refine(KD.out _ hyg).mono ?_
    rintro e wp ⟨⟨X,rfl,hob⟩,hbp⟩
    have hyp:Bwz wr wp:=hyg.trans (hbp.mono hyg.size)
    go_wp2_with fail
    refine hK.out _ _ trivial (fun hHz=>?_)
    clear hK K
    try simp only[Act.put,sI,sZ,sSz]
    refine tkz 8 16 hHz ?_;refine tkz 9 25 hHz ?_;refine tkz 10 26 hHz ?_;refine tkz 11 27 hHz ?_
    have HOB:Hid (OB wp wr.heap.size X NB):=Cw hob hyg.size
    have f0:=HFR.out _ hyp q (by omega)
    have f1:=HFR.out _ hyp (q+1) (by omega)
    have f2:=HFR.out _ hyp (q+1+1) (by omega)
    have e0:=cLz hyp HC0
    have e1:=cLz hyp HC1
    have e2:=cLz hyp HC2
    clear hob
    refine wpAnyH_ready (rs:=[12]) (by kernel_rfl) (by simp) ?_
    refine AllReadyH.cons rfl (fun K hK=>?_) AllReadyH.nil
    go_simp
    refine hK.out _ _ trivial (fun hHz=>?_)
    clear hK K
    refine wpAnyH_done (by kernel_rfl) ?_ _
    have HKM:Hid (Bs T wr (((wp.setCell ⟨b,q,none⟩ (.int .i64 NB.lim)).setCell ⟨b,q+1,none⟩ (.slice X.m.1.1 X.m.1.2.1 X.m.1.2.2)).setCell ⟨b,q+1+1,none⟩ (.slice X.ra X.rs.length X.rc))):=(Av hyp).trans (EO (HJR.out.below hyp).ty q _ _ _)
    have HST:=NH HJR.out hT hyp sd HOB.out nR q HQQ.out
    unfold hdV at HST
    generalize (((wp.setCell ⟨b,q,none⟩ (.int .i64 NB.lim)).setCell ⟨b,q+1,none⟩ (.slice X.m.1.1 X.m.1.2.1 X.m.1.2.2)).setCell ⟨b,q+1+1,none⟩ (.slice X.ra X.rs.length X.rc))=W4 at *
    have HS4:Hid (JSt w0 W4 b T p x (GK p s (k+1)) (Jv y' sd X) t L):=by
     show JSt _ _ _ _ _ _ _ _ _ _
     rw[<-HDN.out];exact HST
    clear HST
    go_wp2
    go_roundw
    (case rel=>exact⟨k+1,_,by omega,by go_num,HS4,HKV.out.trans HKM.out⟩)
    (case measure=>simp[intOf];omega)
  ·have hkn:k=2:=by omega
   subst hkn
   have hkf:¬(((2:Nat):Int)<2):=by omega
   go_wp2
   exact bodyPost_end (v:=.tuple #[]) (by simp[results,results254,go_sem]) rfl ⟨rfl,⟨y',HJR.out⟩,(Av hb0).trans HKV.out⟩
end jn
namespace jn
open Go.ChangeShapes Go.WideShapes Go.ChangeAt Go.RowKit Go.Maps Go.WideMaps
open vl bf
variable {w w' : World} {M nn : Nat} {k : ByteArray}
def I0(w:World)(M nn:Nat)(f:ByteArray->Int):Prop:=∃D:DataW Unit,w.ownsMap Tryz.prog 9 (plainElem (H:=Unit) Tryz.prog 3) M nn D/\∀k:ByteArray,k.size<=maxLen->D.atKey (.string k.data.toList) (.lit (.int .i64 0))= .lit (.int .i64 (f k))
theorem Wb(w:World):I0 (w.alloc (.map #[] 0)) w.heap.size 0 (fun _=>0):=⟨_,World.ownsMap_made _ _ _ _,fun s hs=>rfl⟩
theorem XH{f:ByteArray->Int}(h:I0 w M nn f):M<w.heap.size:=by
 obtain⟨D,h1,_⟩:=h
 exact h1.lt
theorem TJ{f:ByteArray->Int}(h:I0 w M nn f)(hs:w'.heap[M]? =w.heap[M]?):I0 w' M nn f:=by
 obtain⟨D,⟨es,clock,hb,F,h3,e⟩,h2⟩:=h
 exact⟨D,⟨es,clock,hs.trans hb,F,h3,e⟩,h2⟩
theorem E6{f:ByteArray->Int}(h:I0 w M nn f)(hb:Bwz w w'):I0 w' M nn f:=TJ h (hb.block M (XH h))
theorem TK{f:ByteArray->Int}(h:I0 w M nn f)(hk:k.size<=maxLen):(Instr.lookup 114 (.map (some M)) (.string k) false).run Tryz.prog w= .ok (.int .i64 (f k)) w:=by
 obtain⟨D,h1,h2⟩:=h
 obtain⟨c,hrun,hat,_⟩:=h1.lookup_int ch.law underlying114 underlying3 (Tryz.zeroValue3 w) (keyOf_string_mk underlying9 hk)
 have hat2:=(h2 k hk).symm.trans hat
 have e:∀a b:Int,(DataW.lit (Lit.int .i64 a):DataW Unit)= .lit (.int .i64 b)->a=b:=fun a b h=>(Lit.int.inj (DataW.lit.inj h)).2
 rw[hrun,e _ _ hat2]
theorem Wc{f:ByteArray->Int}(h:I0 w M nn f)(hk:k.size<=maxLen){v:Int}(hv:pl.i64 v)(hn:nn<maxLen):
 ∃w',(Instr.mapUpdate 114 (.map (some M)) (.string k) (.int .i64 v)).run Tryz.prog w= .ok () w'/\I0 w' M (nn+1) (fun k'=>if k'=k then v else f k')/\w.grownBy w' (some M):=by
 obtain⟨D,h1,h2⟩:=h
 obtain⟨w',hrun,hown,hg⟩:=h1.update ch.law underlying114 hn (keyOf_string_mk underlying9 hk) (plainElem_int (H:=Unit) (a:=v) underlying3 (Lr hv))
 refine⟨w',hrun,⟨_,hown,fun t ht=>?_⟩,hg⟩
 by_cases e:t=k
 ·subst e
  rw[atKey_put_same h1.isMap (ch.law.key (keyOf_string_mk underlying9 hk))]
  simp
 ·rw[atKey_put_other (fun q:Lit.string t.data.toList=Lit.string k.data.toList=>e (NM (Lit.string.inj q))),h2 t ht]
  simp[e]
end jn
namespace jn
open Go.ChangeShapes Go.WideShapes Go.ChangeAt Go.RowKit Go.Maps
open vl bf
attribute [local go_sem] Oper.semAt_some
variable {l : List Ent} {low : Int} {y : Ent}
def CT(l:List Ent)(low:Int)(key:ByteArray):Int:=match (l.filter fun y=>decide (y.key=key)&&decide (y.time<=low)).getLast? with
 |some y=>y.seq
 |none=>0
theorem TL(s:Jn)(key:ByteArray)(low:Int):lastOf s key low=CT (Ce (Ab s.R)) low key:=rfl
theorem TN(h:¬y.time<=low):CT (l++[y]) low=CT l low:=by
 funext k
 unfold CT
 rw[List.filter_append]
 have:([y].filter fun z=>decide (z.key=k)&&decide (z.time<=low))=[]:=by simp[h]
 rw[this,List.append_nil]
theorem QU(h:y.time<=low):CT (l++[y]) low=fun k=>if k=y.key then y.seq else CT l low k:=by
 funext k
 unfold CT
 rw[List.filter_append]
 by_cases e:k=y.key
 ·have:([y].filter fun z=>decide (z.key=k)&&decide (z.time<=low))=[y]:=by simp[h,e]
  rw[this,if_pos e,List.getLast?_append]
  rfl
 ·have:([y].filter fun z=>decide (z.key=k)&&decide (z.time<=low))=[]:=by simp;intro e2;exact absurd e2.symm e
  rw[this,List.append_nil,if_neg e]
theorem QV{k:Nat}(h:k<l.length):l.take (k+1)=l.take k++[l.getD k default]:=by
 rw[List.take_succ_eq_append_getElem h,gDe,gEe h];rfl
theorem TO(e:EM)(z:Ent)(low:Int)(f:ByteArray->Int)(A C M nn:Nat)(w:World)(her:ER w e z)(hk:z.key.size<=maxLen)(hA:w.cell? ⟨A,0,none⟩=some (.int .i64 low))(hC:w.cell? ⟨C,0,none⟩=some (.map (some M)))(hM:I0 w M nn f):
 Calls Tryz.prog 281 #[e.val,.pointer (some ⟨A,0,none⟩),.pointer (some ⟨C,0,none⟩)] w fun r w'=>r= .returned (.bool (decide (low<z.time)||decide (f z.key=z.seq)))/\Bwz w w':=by
 have hla:=bLt _ _ hA
 have hlc:=bLt _ _ hC
 have h1:=her.key
 have h2:=her.time
 have h3:=her.seq
 obtain⟨ek,et,es,⟨r1,r2,r3⟩,em⟩:=e
 dsimp only at h1 h2 h3
 rw[<-h1]at hk
 rw[<-h1,<-h2,<-h3]
 have hM2:=E6 hM ((Below.refl w.heap.size w).alloc nR (.cells #[.string ek,.int .i64 et,.int .i64 es,.slice r1 r2 r3,.bool em] 63))
 have hlk:=TK hM2 hk
 obtain⟨F,hF⟩:=nM (f ek)
 rw[hF]at hlk⊢
 clear her h1 h2 h3 hM hM2 hF
 unfold EM.val hdV
 dsimp only
 by_cases hgt:low<et
 ·have e1:decide (low<et)=true:=by simpa using hgt
  have hg:∀t,binOp .gtr t (.int .i64 et) (.int .i64 low)=pure (.bool true):=pl.EZ true (by simpa using hgt)
  rw[e1,Bool.true_or]
  clear e1 hgt
  go_enter func281,ntmps281
  go_wp2
  go_ret
  exact⟨rfl,bR.alloc nR _⟩
 ·have e1:decide (low<et)=false:=by simpa using hgt
  have hg:∀t,binOp .gtr t (.int .i64 et) (.int .i64 low)=pure (.bool false):=pl.EZ false (by simpa using hgt)
  rw[e1,Bool.false_or]
  clear e1 hgt
  obtain⟨B,hB⟩:=nM (decide (F=es))
  have he:∀t,binOp .eql t (.int .i64 F) (.int .i64 es)=pure (.bool B):=pl.YX B (by rw[<-hB];by_cases e:F=es<;>simp[e])
  rw[hB]
  clear hB
  go_enter func281,ntmps281
  go_wp2
  go_ret
  exact⟨rfl,bR.alloc nR _⟩
def MI(s:Jn)(z:Ent):Bool:=decide (PG s<z.time)||decide (lastOf s z.key (PG s)=z.seq)
theorem YO(s:Jn):St s=A3 s 2 (C1 (MI s) s.R):=rfl
theorem Pt(b:Nat)(p:pl.Pln)(x:pl.PA)(s:Jn)(y:JX)(t:Value)(L:List CO)(w0 w:World)(h:JSt w0 w b 143 p x s y t L)(hw:pl.wfPlan p)(hp:pl.planAt w0 p x)(hg:goodJ p s):
 Calls Tryz.prog 279 #[.pointer (some ⟨b,0,none⟩)] w fun e w'=>e= .returned (.tuple #[])/\∃y',JSt w0 w' b 143 p x (St (EF p s)) y' t L/\Bs 143 w w':=by
 have hT:calmC 143:=⟨⟨by decide,by decide,by decide⟩,by decide⟩
 have KF:Hid (CTz 254 #[.pointer (some ⟨b,0,none⟩)] w fun e w'=>e= .returned (.tuple #[])/\∃y',JSt w0 w' b 143 p x (EF p s) y' t L/\Bs 143 w w'):=Hb b _ p x s y t L w0 w h hT (by decide) hw hp hg
 have hgd:goodJ p (EF p s):=I9 hg
 obtain⟨s1,hs1⟩:=nM (EF p s)
 rw[hs1]at KF hgd⊢
 have HG:Hid (goodJ p s1):=hgd
 clear h hw hp hg hs1 hgd
 rw[YO]
 obtain⟨NB,hNB⟩:=nM (C1 (MI s1) s1.R)
 have HNB:Hid (C1 (MI s1) s1.R=NB):=hNB
 rw[hNB]
 clear hNB
 go_enter func279,ntmps279
 go_wp2_with (go_at_call 254;refine KF.out.mono ?_;rintro e wa ⟨rfl,ya,hja,hka⟩;have HJA:Hid (JSt w0 wa b 143 p x s1 ya t L):=hja;have HKA:Hid (Bs 143 w wa):=hka;clear hja hka)
 have l1:=HJA.out.box.join.2.2.2.2.2.2.1
 have l2:=HJA.out.box.join.2.2.2.2.2.2.2.1
 obtain⟨low,hlow⟩:=nM (PG s1)
 have HLOW:Hid (PG s1=low):=hlow
 unfold PG at hlow
 obtain⟨lm,hlm⟩:=nM s1.lm
 obtain⟨rm,hrm⟩:=nM s1.rm
 rw[hlm]at l1 hlow
 rw[hrm]at l2 hlow
 clear hlm hrm
 have lb:b<wa.heap.size:=HJA.out.box.lt
 have SK1:Hid (∀w',Bwz wa w'->w'.cell? ⟨b,19,none⟩=some (.int .i64 lm)/\w'.cell? ⟨b,20,none⟩=some (.int .i64 rm)):=fun w' hz=>⟨cLz hz l1,cLz hz l2⟩
 go_cut [2] (fun pt wc=> ∃A:Nat,pt= .pointer (some ⟨A,0,none⟩)/\wa.heap.size<=A/\wc.cell? ⟨A,0,none⟩=some (.int .i64 low)/\Bwz wa wc)
 case first=>
  refine gr.BI 15 rfl (by kernel_rfl) (S:=fun w'=>w'.cell? ⟨b,19,none⟩=some (.int .i64 lm)/\w'.cell? ⟨b,20,none⟩=some (.int .i64 rm)) (SK1.out _ bR.drew) (fun hHz=>?_)
  refine tkz 0 12 hHz ?_;refine tkz 1 13 hHz ?_;refine tkz 2 14 hHz ?_;refine tkz 3 15 hHz ?_;refine tkz 4 16 hHz ?_;refine tkz 5 17 hHz ?_;refine tkz 6 18 hHz ?_;refine tkz 7 19 hHz ?_;refine tkz 8 20 hHz ?_;refine tkz 9 21 hHz ?_;refine tkz 10 22 hHz ?_;refine tkz 11 23 hHz ?_
  refine gr.Pv (v:=.int .i64 low) 12 (some 24) hHz ?_ (hy:=by intro w' hSw;go_simp)
  refine wpAnyH_ready (rs:=[13]) (by kernel_rfl) (by simp) ?_
  refine AllReadyH.cons rfl (fun K hK=>?_) AllReadyH.nil
  go_simp
  refine hK.out _ _ (SK1.out _ ((Below.refl wa.heap.size wa).drew.alloc nR _)) (fun hHz=>?_)
  clear hK K
  try simp only[Act.put,sI,sZ,sSz]
  refine wpAnyH_ready (rs:=[14]) (by kernel_rfl) (by simp) ?_
  refine AllReadyH.cons rfl (fun K hK=>?_) AllReadyH.nil
  go_simp
  refine hK.out _ _ (SK1.out _ ((Below.refl wa.heap.size wa).alloc nR _).drew) (fun hHz=>?_)
  clear hK K
  refine wpAnyH_done (by kernel_rfl) ?_ _
  go_wp2
  go_meet
  exact⟨wa.heap.size,rfl,Nat.le_refl _,by go_simp,((Below.refl wa.heap.size wa).alloc nR _).drew⟩
 case rest=>
  obtain⟨A,rfl,hA,ca,hbW⟩:=hcut
  rename World=>W
  have HJW:Hid (JSt w0 W b 143 p x s1 ya t L):=HJA.out.below hbW
  have ok:=HG.out.ok.R
  have hwf:∀z∈Ab s1.R,wfE z/\wfP (Ay z):=fun z hz=>HG.out.wf z (List.mem_append.2 (.inr hz))
  have KA:Hid (∀w1,Bwz W w1->CTz 26 #[AN s1.R ya.r] w1 fun e w'=>(∃(hh:Hdr) (es':List EM),e= .returned (.tuple #[hdV hh,.int .i64 0])/\OE w' w1.heap.size (hdV hh) es' (Ce (Ab s1.R)))/\Bwz w1 w'):=fun w1 hb=>(IM s1.R ya.r w1 (Ai HJW.out.r.at hb) hwf (by have:=ok.all;omega) (Ds ok)).mono (by
   rintro e w' ⟨⟨hh,es',l',rfl,hp,hby,ho⟩,hb'⟩
   rw[FE hp hby ok.once]at ho
   exact⟨⟨hh,es',rfl,ho⟩,hb'⟩)
  obtain⟨LS,hLS⟩:=nM (Ce (Ab s1.R))
  have HLS:Hid (Ce (Ab s1.R)=LS):=hLS
  have HWL:Hid (LS.length<=4096/\∀k,k<LS.length->(LS.getD k default).key.size<=maxLen/\pl.i64 (LS.getD k default).seq):=by
   rw[<-hLS]
   refine⟨by rw[(Bu _).length_eq];exact ok.all,fun k hk=>?_⟩
   have hm:=(Bu (Ab s1.R)).mem_iff.1 (A1 (d:=default) hk)
   exact⟨(hwf _ hm).1.key,(hwf _ hm).2.seq⟩
  rw[hLS]at KA
  have KK:Hid (∀(f:ByteArray->Int) (A C M nn:Nat) (w1:World),f=CT LS low->Bwz W w1->w1.cell? ⟨A,0,none⟩=some (.int .i64 low)->w1.cell? ⟨C,0,none⟩=some (.map (some M))->I0 w1 M nn f->CTz 145 #[AN s1.R ya.r,.func (.func 281) #[] #[.pointer (some ⟨A,0,none⟩),.pointer (some ⟨C,0,none⟩)]] w1 fun e w'=>(∃X,e= .returned (AN NB X)/\OB w' w1.heap.size X NB)/\Bwz w1 w'):=fun f A C M nn w1 hf hb h1 h2 h3=>by
   have hsm:=ok.small
   have hk:=FI 281 (enters_of func281 (by kernel_rfl) rfl) #[.pointer (some ⟨A,0,none⟩),.pointer (some ⟨C,0,none⟩)] (MI s1) s1.R ya.r w1 (Ai HJW.out.r.at hb) hsm.1 hsm.2.1 hsm.2.2 (fun e z w2 her hz hb2=>by
    have:=TO e z low f A C M nn w2 her (hwf z hz).1.key (cLz hb2 h1) (cLz hb2 h2) (E6 h3 hb2)
    have e1:MI s1 z=(decide (low<z.time)||decide (f z.key=z.seq)):=by unfold MI;rw[HLOW.out,TL,HLS.out,hf]
    rw[e1]
    exact this)
   rw[HNB.out]at hk
   exact hk
  obtain⟨HC0,HC1,HC2⟩:=Ek HJW.out.box.join 2
  have HFR:Hid (∀w1,Bwz W w1->∀i,i<23->w1.frozen? ⟨b,i,none⟩=false):=fun w1 hb i hi=>by
   have:=((HJW.out.below hb).box.room i hi).2
   simpa using this
  have eb:At 2=3:=rfl
  have e2:Am s1 2=s1.R:=rfl
  have e3:Bv ya 2=ya.r:=rfl
  rw[eb,e2]at HC0
  rw[eb,e3]at HC1 HC2
  obtain⟨yr,hyr⟩:=nM ya.r
  rw[hyr]at KA KK HC1 HC2
  obtain⟨ra',rc',⟨⟨m1,m2,m3⟩,ml⟩,rs⟩:=yr
  obtain⟨lim,hlim⟩:=nM s1.R.lim
  unfold AN hdV at KA KK
  dsimp only at KA KK HC1 HC2
  rw[hlim]at KA KK HC0
  obtain⟨n,hn⟩:=nM rs.length
  rw[hn]at KA KK HC2
  obtain⟨ln,hln⟩:=nM LS.length
  have HLN:Hid (LS.length=ln):=hln
  have hnl:ln<=4096:=by rw[<-hln];exact HWL.out.1
  have lW:b<W.heap.size:=HJW.out.box.lt
  have lA:A<W.heap.size:=bLt _ _ ca
  clear ok hwf hLS eb e2 e3 hyr hlim hn hln l1 l2 SK1 hlow lb
  have hmk:=@run_makeMap Tryz.prog
  go_wp2_with (go_at_call 26;refine(KA.out _ bR).mono ?_;rintro e X ⟨⟨hh,es,rfl,ho⟩,hbX⟩;have HOE:Hid (OE X W.heap.size (.slice hh.1 hh.2.1 hh.2.2) es LS):=ho;clear ho;have HLE:Hid (hh.2.1=ln):=(by show _=_;rw[<-HLN.out,<-HOE.out.len];exact(Cv (p:=(hh,es)) HOE.out).1.1);obtain⟨g1,g2,g3⟩:=hh;have hle:g2=ln:=HLE.out;subst hle;dsimp only at HOE⊢;have lX:b<X.heap.size:=Nat.lt_of_lt_of_le lW hbX.size)
  have HX1:Hid (∀w',Bwz X w'->Bwz W w'):=fun w' hz=>hbX.trans (hz.mono hbX.size)
  go_loopw [38] (fun i wr=> ∃(k nn:Nat),k<=g2/\i= .int .i64 k/\nn<=k/\Hid (I0 wr X.heap.size nn (CT (LS.take k) low))/\wr.cell? ⟨X.heap.size+1,0,none⟩=some (.map (some X.heap.size))/\Bwz X wr) (fun i _=>g2 - (intOf i).toNat)
  case atStart=>exact⟨0,0,Nat.zero_le _,rfl,Nat.le_refl _,E6 (Wb X) (bR.alloc nR _),by go_simp,(bR.alloc nR _).alloc (by simp) _⟩
  case round=>
   obtain⟨k,nn,hk,rfl,hnn,HSM,hmc,hnx⟩:=hrel
   have lw:X.heap.size+1<wr.heap.size:=bLt _ _ hmc
   have hbr:Bwz W wr:=HX1.out _ hnx
   have ca2:=cLz hbr ca
   by_cases hlt:k<g2
   ·have hkl:k<LS.length:=by rw[HLN.out];exact hlt
    obtain⟨gb,off,ea,x1,x2,x3,x4,x5⟩:=(Cv (p:=((g1,g2,g3),es)) HOE.out).2 k (by rw[HOE.out.len];exact hkl)
    dsimp only at ea
    subst ea
    have q1:=cLz hnx x1
    have q2:=cLz hnx x2
    have q3:=cLz hnx x3
    have q4:=cLz hnx x4
    have q5:=cLz hnx x5
    clear x1 x2 x3 x4 x5
    have her:=HOE.out.ers.2 k hkl
    have hwl:=HWL.out.2 k hkl
    have HTK:=QV hkl
    have hkey:=her.key
    have htime:=her.time
    have hseq:=her.seq
    obtain⟨⟨ek,et,es1,⟨r1,r2,r3⟩,em⟩,hz⟩:∃z,es.getD k default=z:=⟨_,rfl⟩
    rw[hz]at q1 q2 q3 q4 q5 hkey htime hseq
    unfold hdV at q4
    dsimp only at q1 q2 q3 q4 q5 hkey htime hseq
    rw[<-hkey,<-hseq]at hwl
    have i1:(0:Int)<=(k:Int):=by omega
    have i2:(k:Int)<(g2:Int):=by omega
    have la:A<wr.heap.size:=bLt _ _ ca2
    by_cases hle:et<=low
    ·have hleq:∀t,binOp .leq t (.int .i64 et) (.int .i64 low)=pure (.bool true):=pl.NO true (by simpa using hle)
     have HF:Hid (CT (LS.take (k+1)) low=fun q=>if q=ek then es1 else CT (LS.take k) low q):=by
      show _=_
      rw[HTK,QU (by rw[<-htime];exact hle),<-hkey,<-hseq]
     have hsm2:=E6 HSM.out ((Below.refl wr.heap.size wr).alloc nR (.cells #[.string ek,.int .i64 et,.int .i64 es1,.slice r1 r2 r3,.bool em] 63))
     obtain⟨X1,hup,q0,hg1⟩:=Wc hsm2 hwl.1 hwl.2 (by unfold maxLen;omega)
     have HQ0:Hid (I0 X1 X.heap.size (nn+1) (CT (LS.take (k+1)) low)):=by
      show I0 _ _ _ _
      rw[HF.out];exact q0
     have hmx:X1.cell? ⟨X.heap.size+1,0,none⟩=some (.map (some X.heap.size)):=(cOb (w:=wr) (a:=⟨X.heap.size+1,0,none⟩) ((hg1.block (X.heap.size+1) (by rw[World.size_alloc];omega) (fun e=>by injection e with e;omega)).trans (Below.heap_alloc _ _ _ lw))).trans hmc
     have HBX:Hid (Bwz X X1):=⟨hg1.os.trans hnx.os,hg1.tape.trans hnx.tape,hg1.output.trans hnx.output,Nat.le_trans hnx.size (Nat.le_trans (Nat.le_of_lt (by rw[World.size_alloc];exact Nat.lt_succ_self _)) hg1.size),fun g hgl=>((hg1.block g (by rw[World.size_alloc];have:=hnx.size;omega) (fun e=>by injection e with e;omega)).trans (Below.heap_alloc _ _ _ (by have:=hnx.size;omega))).trans (hnx.block g hgl)⟩
     clear hz hsm2 q0 hg1 her hkey htime hseq HTK hle hwl
     go_wp2
     go_roundw
     case rel=>exact⟨k+1,nn+1,by omega,by go_num,by omega,HQ0,hmx,HBX.out⟩
     case measure=>simp[intOf];omega
    ·have hleq:∀t,binOp .leq t (.int .i64 et) (.int .i64 low)=pure (.bool false):=pl.NO false (by simpa using hle)
     have HF:Hid (CT (LS.take (k+1)) low=CT (LS.take k) low):=by
      show _=_
      rw[HTK,TN (by rw[<-htime];exact hle)]
     clear hz her hkey htime hseq HTK hle hwl
     go_wp2
     go_roundw
     case rel=>exact⟨k+1,nn,by omega,by go_num,by omega,by rw[HF.out];exact E6 HSM.out (bR.alloc nR _),cLz (bR.alloc nR _) hmc,hnx.alloc hnx.size _⟩
     case measure=>simp[intOf];omega
   ·have hkn:k=g2:=by omega
    subst hkn
    have hkf:¬((k:Int)<(k:Int)):=by omega
    have HFE:Hid (CT (LS.take k) low=CT LS low):=by show _=_;rw[<-HLN.out,List.take_length]
    have KKr:Hid (CTz 145 #[.agg #[.int .i64 lim,.slice m1 m2 m3,.slice ra' n rc'],.func (.func 281) #[] #[.pointer (some ⟨A,0,none⟩),.pointer (some ⟨X.heap.size+1,0,none⟩)]] wr fun e w'=>(∃Z,e= .returned (.agg #[.int .i64 NB.lim,.slice Z.m.1.1 Z.m.1.2.1 Z.m.1.2.2,.slice Z.ra Z.rs.length Z.rc])/\OB w' wr.heap.size Z NB)/\Bwz wr w'):=KK.out _ A (X.heap.size+1) X.heap.size nn wr HFE.out hbr ca2 hmc HSM.out
    have c0:=cLz hbr HC0
    have c1:=cLz hbr HC1
    have c2:=cLz hbr HC2
    clear HC0 HC1 HC2
    go_wp2_with (go_at_call 145;refine KKr.out.mono ?_;rintro e wp ⟨⟨Z,rfl,hob⟩,hbp⟩;have HOB:Hid (OB wp wr.heap.size Z NB):=hob;have hyp:Bwz W wp:=hbr.trans (hbp.mono hbr.size);have d0:=cLz hbp c0;have d1:=cLz hbp c1;have d2:=cLz hbp c2;have f0:=HFR.out _ hyp 16 (by omega);have f1:=HFR.out _ hyp (16+1) (by omega);have f2:=HFR.out _ hyp (16+1+1) (by omega);clear hob c0 c1 c2)
    have HST:=NH HJW.out hT hyp 2 HOB.out hbr.size 16 rfl
    have HKM:=(HKA.out.trans (Av (hbW.trans (hyp.mono hbW.size)))).trans (EO (HJW.out.below hyp).ty 16 (.int .i64 NB.lim) (hdV Z.m.1) (.slice Z.ra Z.rs.length Z.rc))
    exact bodyPost_end (v:=.tuple #[]) (by simp[results,results279,go_sem]) rfl ⟨rfl,_,HST,HKM⟩
end jn
end Go.Proofs.YtdohnkkbkfhphaaGreat
