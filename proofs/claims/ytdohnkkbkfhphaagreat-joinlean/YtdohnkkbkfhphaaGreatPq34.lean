import Derived.Test.YtdohnkkbkfhphaaGreatPq33
set_option linter.all false
set_option maxHeartbeats 8000000
set_option maxRecDepth 100000
namespace Go.Proofs.YtdohnkkbkfhphaaGreat
open Go.Proofs.Tryz
namespace jn
open Go.ChangeShapes Go.WideShapes Go.ChangeAt Go.RowKit
open vl bf
attribute [local go_sem] Oper.semAt_some
variable {p : pl.Pln}
noncomputable def D9(p:pl.Pln)(s:Jn)(l:List Ev):Int×Jn×List ch.Chg×List Int:=if 120<l.length then(2,j0,[],[])else(0,playJ p s l 0)
theorem Rm(p:pl.Pln)(x:pl.PA)(s0:Jn)(y0:JX)(l:List Ev)(xs:List RX)(la:Option Addr)(lc PB:Nat)(w:World)(hw:pl.wfPlan p)(hp:pl.planAt w p x)(hbx:BB w PB p x)(h:joinAt w s0 y0)(hwf:wfJ s0)(hv:DH w la l xs)(hn:l.length<=9223372036854775807):
 Calls Tryz.prog 53 #[joinV s0 y0,.slice la l.length lc,.func (.func 54) #[] #[.pointer (some ⟨PB,0,none⟩)]] w fun e w'=>(∃y' t L nv,e= .returned (.tuple #[joinV (D9 p s0 l).2.1 y',t,nv,.int .i64 (D9 p s0 l).1])/\L.map CO.chg=(D9 p s0 l).2.2.1/\jAt s0 y0 w w' (D9 p s0 l).2.1 y'/\TG w' w.heap.size t L/\pl.Dn w' w.heap.size nv (D9 p s0 l).2.2.2)/\Bwz w w':=by
 have HPL:Hid (pl.wfPlan p/\(∀w1,Bwz w w1->pl.planAt w1 p x/\BB w1 PB p x)):=⟨hw,fun w1 hb=>⟨pl.Ah hp hb,Al hbx hb⟩⟩
 have HJ0:Hid (joinAt w s0 y0):=h
 have HEV:Hid (DH w la l xs):=hv
 have HWF:Hid (∀k,wfJ (playJ p s0 (l.take k) 0).1):=fun k=>LH _ _ _ hwf (fun v hv2=>Fm hv v (List.mem_of_mem_take hv2))
 obtain⟨n,hnn⟩:=nM l.length
 have HN:Hid (l.length=n):=hnn
 have lPB:=Mf hbx
 unfold D9
 rw[hnn]at hn⊢
 clear hw hp hbx h hwf hv hnn
 rw[AK s0 y0]
 go_enter func53,ntmps53
 by_cases hm:120<n
 ·rw[if_pos hm]
  have hg:∀t,binOp .gtr t (.int .i64 (n:Int)) (.int .i64 120)=pure (.bool true):=pl.EA true (by simp;omega)
  go_upto_region 3 with fail
  generalize hV:(World.alloc (World.alloc (World.alloc w _) _) _)=V2
  have hb0:Bwz w V2:=by rw[<-hV];exact((bR.alloc nR _).alloc (by simp) _).alloc (by simp<;>omega) _
  have HZ:Hid (noJ V2 (w.heap.size+1)):=by
   show noJ V2 _
   rw[<-hV]
   exact AX (by have k:=Fc (w.alloc (.cells #[.int .i64 s0.L.lim,.slice y0.l.m.1.1 y0.l.m.1.2.1 y0.l.m.1.2.2,.slice y0.l.ra y0.l.rs.length y0.l.rc,.int .i64 s0.R.lim,.slice y0.r.m.1.1 y0.r.m.1.2.1 y0.r.m.1.2.2,.slice y0.r.ra y0.r.rs.length y0.r.rc,.int .i64 s0.lm,.int .i64 s0.rm,.int .i64 s0.seq] 31));simpa using k) (bR.alloc nR _)
  have v0:V2.cell? ⟨(w.heap.size+1+1),0,none⟩=some (.int .i64 0):=by subst hV;go_simp
  have v1:V2.cell? ⟨(w.heap.size+1+1),1,none⟩=some (.slice none 0 0):=by subst hV;go_simp
  have v2:V2.cell? ⟨(w.heap.size+1+1),2,none⟩=some (.slice none 0 0):=by subst hV;go_simp
  have v3:V2.cell? ⟨(w.heap.size+1+1),3,none⟩=some (.int .i64 0):=by subst hV;go_simp
  have v4:V2.cell? ⟨(w.heap.size+1+1),4,none⟩=some (.slice none 0 0):=by subst hV;go_simp
  have v5:V2.cell? ⟨(w.heap.size+1+1),5,none⟩=some (.slice none 0 0):=by subst hV;go_simp
  have v6:V2.cell? ⟨(w.heap.size+1+1),6,none⟩=some (.int .i64 0):=by subst hV;go_simp
  have v7:V2.cell? ⟨(w.heap.size+1+1),7,none⟩=some (.int .i64 0):=by subst hV;go_simp
  have v8:V2.cell? ⟨(w.heap.size+1+1),8,none⟩=some (.int .i64 0):=by subst hV;go_simp
  clear hV
  have HR:Hid ((World.setCells V2 (w.heap.size+1) 0 [.int .i64 0,.slice none 0 0,.slice none 0 0,.int .i64 0,.slice none 0 0,.slice none 0 0,.int .i64 0,.int .i64 0,.int .i64 0]).rangeAt (w.heap.size+1) 0 [.int .i64 0,.slice none 0 0,.slice none 0 0,.int .i64 0,.slice none 0 0,.slice none 0 0,.int .i64 0,.int .i64 0,.int .i64 0]):=C3 HZ.out rfl
  have HB9:Hid (Bwz w (World.setCells V2 (w.heap.size+1) 0 [.int .i64 0,.slice none 0 0,.slice none 0 0,.int .i64 0,.slice none 0 0,.slice none 0 0,.int .i64 0,.int .i64 0,.int .i64 0])):=below_setCells (by omega) _ 0 _ hb0
  go_wp2_with ((with_reducible refine wpList_store_mid ?_ 31 (.tmp 6) (.tmp 22) ?_ (w.heap.size+1) 0 #[.int .i64 0,.slice none 0 0,.slice none 0 0,.int .i64 0,.slice none 0 0,.slice none 0 0,.int .i64 0,.int .i64 0,.int .i64 0] ?_ ?_ ?_ ?_ ?_ ?_);exact rfl;exact rfl;exact rfl;exact rfl;exact HZ.out;exact EN;exact(by simp[Value.oneCell']))
  generalize (World.setCells V2 (w.heap.size+1) 0 [.int .i64 0,.slice none 0 0,.slice none 0 0,.int .i64 0,.slice none 0 0,.slice none 0 0,.int .i64 0,.int .i64 0,.int .i64 0])=W' at HR HB9⊢
  have z0:=HR.out 0 _ rfl
  have z1:=HR.out 1 _ rfl
  have z2:=HR.out 2 _ rfl
  have z3:=HR.out 3 _ rfl
  have z4:=HR.out 4 _ rfl
  have z5:=HR.out 5 _ rfl
  have z6:=HR.out 6 _ rfl
  have z7:=HR.out 7 _ rfl
  have z8:=HR.out 8 _ rfl
  simp only[Nat.zero_add]at z0 z1 z2 z3 z4 z5 z6 z7 z8
  exact bodyPost_ret (v:=.tuple #[.agg #[.int .i64 0,.slice none 0 0,.slice none 0 0,.int .i64 0,.slice none 0 0,.slice none 0 0,.int .i64 0,.int .i64 0,.int .i64 0],.slice none 0 0,.slice none 0 0,.int .i64 2]) (by simp[results,results53,go_sem,z0,z1,z2,z3,z4,z5,z6,z7,z8]) rfl ⟨⟨jx0,.slice none 0 0,[],.slice none 0 0,rfl,rfl,⟨HB9.out,.inr ⟨Cp (De HB9.out.size),Cp (De HB9.out.size)⟩⟩,Om _ _,World.ownsRow_nil _ _ _ _⟩,HB9.out⟩
 ·rw[if_neg hm]
  have hg:∀t,binOp .gtr t (.int .i64 (n:Int)) (.int .i64 120)=pure (.bool false):=pl.EA false (by simp;omega)
  go_upto_region 7 with fail
  generalize hV:(World.alloc (World.alloc (World.alloc w _) _) _)=V
  have hb0:Bwz w V:=by rw[<-hV];exact((bR.alloc nR _).alloc (by simp) _).alloc (by simp<;>omega) _
  have HC0:Hid (PCo s0 y0 w V (w.heap.size+1) (w.heap.size+1+1) s0 y0):=by
   subst hV
   have e1:=World.size_alloc w (.cells #[.int .i64 s0.L.lim,.slice y0.l.m.1.1 y0.l.m.1.2.1 y0.l.m.1.2.2,.slice y0.l.ra y0.l.rs.length y0.l.rc,.int .i64 s0.R.lim,.slice y0.r.m.1.1 y0.r.m.1.2.1 y0.r.m.1.2.2,.slice y0.r.ra y0.r.rs.length y0.r.rc,.int .i64 s0.lm,.int .i64 s0.rm,.int .i64 s0.seq] 31)
   have e2:=World.size_alloc (w.alloc (.cells #[.int .i64 s0.L.lim,.slice y0.l.m.1.1 y0.l.m.1.2.1 y0.l.m.1.2.2,.slice y0.l.ra y0.l.rs.length y0.l.rc,.int .i64 s0.R.lim,.slice y0.r.m.1.1 y0.r.m.1.2.1 y0.r.m.1.2.2,.slice y0.r.ra y0.r.rs.length y0.r.rc,.int .i64 s0.lm,.int .i64 s0.rm,.int .i64 s0.seq] 31)) (.cells #[.int .i64 0,.slice none 0 0,.slice none 0 0,.int .i64 0,.slice none 0 0,.slice none 0 0,.int .i64 0,.int .i64 0,.int .i64 0] 31)
   rw[e1]at e2
   have h1:=Fc (w.alloc (.cells #[.int .i64 s0.L.lim,.slice y0.l.m.1.1 y0.l.m.1.2.1 y0.l.m.1.2.2,.slice y0.l.ra y0.l.rs.length y0.l.rc,.int .i64 s0.R.lim,.slice y0.r.m.1.1 y0.r.m.1.2.1 y0.r.m.1.2.2,.slice y0.r.ra y0.r.rs.length y0.r.rc,.int .i64 s0.lm,.int .i64 s0.rm,.int .i64 s0.seq] 31))
   have h2:=World.alloc_heap_new (w.alloc (.cells #[.int .i64 s0.L.lim,.slice y0.l.m.1.1 y0.l.m.1.2.1 y0.l.m.1.2.2,.slice y0.l.ra y0.l.rs.length y0.l.rc,.int .i64 s0.R.lim,.slice y0.r.m.1.1 y0.r.m.1.2.1 y0.r.m.1.2.2,.slice y0.r.ra y0.r.rs.length y0.r.rc,.int .i64 s0.lm,.int .i64 s0.rm,.int .i64 s0.seq] 31)) (.cells #[.int .i64 0,.slice none 0 0,.slice none 0 0,.int .i64 0,.slice none 0 0,.slice none 0 0,.int .i64 0,.int .i64 0,.int .i64 0] 31)
   have h3:=Sv ((w.alloc (.cells #[.int .i64 s0.L.lim,.slice y0.l.m.1.1 y0.l.m.1.2.1 y0.l.m.1.2.2,.slice y0.l.ra y0.l.rs.length y0.l.rc,.int .i64 s0.R.lim,.slice y0.r.m.1.1 y0.r.m.1.2.1 y0.r.m.1.2.2,.slice y0.r.ra y0.r.rs.length y0.r.rc,.int .i64 s0.lm,.int .i64 s0.rm,.int .i64 s0.seq] 31)).alloc (.cells #[.int .i64 0,.slice none 0 0,.slice none 0 0,.int .i64 0,.slice none 0 0,.slice none 0 0,.int .i64 0,.int .i64 0,.int .i64 0] 31)) s0 y0
   have h4:=World.alloc_heap_new ((w.alloc (.cells #[.int .i64 s0.L.lim,.slice y0.l.m.1.1 y0.l.m.1.2.1 y0.l.m.1.2.2,.slice y0.l.ra y0.l.rs.length y0.l.rc,.int .i64 s0.R.lim,.slice y0.r.m.1.1 y0.r.m.1.2.1 y0.r.m.1.2.2,.slice y0.r.ra y0.r.rs.length y0.r.rc,.int .i64 s0.lm,.int .i64 s0.rm,.int .i64 s0.seq] 31)).alloc (.cells #[.int .i64 0,.slice none 0 0,.slice none 0 0,.int .i64 0,.slice none 0 0,.slice none 0 0,.int .i64 0,.int .i64 0,.int .i64 0] 31)) (.cells #[.int .i64 s0.L.lim,.slice y0.l.m.1.1 y0.l.m.1.2.1 y0.l.m.1.2.2,.slice y0.l.ra y0.l.rs.length y0.l.rc,.int .i64 s0.R.lim,.slice y0.r.m.1.1 y0.r.m.1.2.1 y0.r.m.1.2.2,.slice y0.r.ra y0.r.rs.length y0.r.rc,.int .i64 s0.lm,.int .i64 s0.rm,.int .i64 s0.seq] 31)
   have h5:=BI ((w.alloc (.cells #[.int .i64 s0.L.lim,.slice y0.l.m.1.1 y0.l.m.1.2.1 y0.l.m.1.2.2,.slice y0.l.ra y0.l.rs.length y0.l.rc,.int .i64 s0.R.lim,.slice y0.r.m.1.1 y0.r.m.1.2.1 y0.r.m.1.2.2,.slice y0.r.ra y0.r.rs.length y0.r.rc,.int .i64 s0.lm,.int .i64 s0.rm,.int .i64 s0.seq] 31)).alloc (.cells #[.int .i64 0,.slice none 0 0,.slice none 0 0,.int .i64 0,.slice none 0 0,.slice none 0 0,.int .i64 0,.int .i64 0,.int .i64 0] 31)) s0 y0 31
   rw[e1]at h1 h2
   rw[e2]at h3 h4 h5
   exact⟨h5,h3,⟨_,_,h4⟩,AX h1 (bR.alloc nR _),Af ⟨_,_,h2⟩ (bR.alloc nR _),hb0,.inl ⟨⟨rfl,rfl⟩,HJ0.out⟩⟩
  clear hV
  go_wp2_with fail
  go_loopw [12,13,26] (fun tv nv i wr=> ∃(k:Nat) (y':JX) (L:List CO),k<=n/\i= .int .i64 k/\PCo s0 y0 w wr (w.heap.size+1) (w.heap.size+1+1) (PK p s0 l k).1 y'/\TG wr w.heap.size tv L/\L.map CO.chg=(PK p s0 l k).2.1/\L.length<=10000 * k/\pl.Dn wr w.heap.size nv (PK p s0 l k).2.2/\(PK p s0 l k).2.2.length<=k) (fun _ _ i _=>n - (intOf i).toNat)
  case atStart=>exact⟨0,y0,[],Nat.zero_le _,rfl,HC0.out,Om _ _,rfl,Nat.zero_le _,World.ownsRow_nil _ _ _ _,Nat.zero_le _⟩
  case round=>
   obtain⟨k,y,L,hkn,rfl,hco,htg,hlc,hll,hni,hnl⟩:=hrel
   by_cases hlt:k<n
   ·obtain⟨b,off,e,c0,c1,c2,c3,hev⟩:=HEV.out k (by rw[HN.out];exact hlt)
    have HPK:Hid (PK p s0 l (k+1)=_):=LI p s0 l k (by rw[HN.out];exact hlt)
    have hwk:wfJ (PK p s0 l k).1:=HWF.out k
    obtain⟨v,hv⟩:=nM (l.getD k default)
    obtain⟨ra,hra⟩:=nM ((xs.getD k (none,0)).1)
    obtain⟨rc,hrc⟩:=nM ((xs.getD k (none,0)).2)
    rw[hv]at c0 c1 c2 c3 hev HPK
    rw[hra]at c3 hev
    rw[hrc]at c3
    have hbr:Bwz w wr:=hco.j.1
    have KS:Hid (∀w1,Bwz wr w1->Calls Tryz.prog 54 #[joinV (PK p s0 l k).1 y,evV v ra rc,.pointer (some ⟨PB,0,none⟩)] w1 fun e w'=>(∃y' t L,e= .returned (.tuple #[joinV (stepJ p (PK p s0 l k).1 v).2.1 y',t,.int .i64 (stepJ p (PK p s0 l k).1 v).1])/\L.map CO.chg=(stepJ p (PK p s0 l k).1 v).2.2/\stepAt w1 w' (stepJ p (PK p s0 l k).1 v).2.1 y' t L)/\Bwz w1 w'):=fun w1 hb=>by
     have hbw:=hbr.trans (hb.mono hbr.size)
     exact QC p x (PK p s0 l k).1 y v ra rc PB w1 HPL.out.1 (HPL.out.2 w1 hbw).1 (HPL.out.2 w1 hbw).2 (hco.j.below hb).at hwk (hev.below hbw)
    have HFS:Hid ((stepJ p (PK p s0 l k).1 v).2.2.length<=10000):=Su p (PK p s0 l k).1 v
    obtain⟨ST,hST⟩:=nM (stepJ p (PK p s0 l k).1 v)
    rw[hST]at KS HFS HPK
    obtain⟨KS',hKS'⟩:=nM (PK p s0 l k)
    rw[hKS']at KS HPK hco hlc hni hnl
    obtain⟨S,T,N⟩:=KS'
    obtain⟨SE,NS,SC⟩:=ST
    dsimp only at KS HFS HPK hco hlc hni hnl
    subst e
    replace c0:=cLz hbr c0
    replace c1:=cLz hbr c1
    replace c2:=cLz hbr c2
    replace c3:=cLz hbr c3
    clear hST hKS' hev hwk hra hrc hv
    rw[AK]at KS
    unfold evV at KS
    obtain⟨kd,hkd⟩:=nM v.kind
    obtain⟨sd,hsd⟩:=nM v.side
    obtain⟨tm',htm⟩:=nM v.time
    obtain⟨rl,hrl⟩:=nM v.row.length
    rw[hkd,hsd,htm,hrl]at KS
    rw[hkd]at c0
    rw[hsd]at c1
    rw[htm]at c2
    rw[hrl]at c3
    clear hkd hsd htm hrl
    have HCO:Hid (PCo s0 y0 w wr (w.heap.size+1) (w.heap.size+1+1) S y):=hco
    have HTG:Hid (TG wr w.heap.size u12 L/\L.map CO.chg=T/\L.length<=10000 * k):=⟨htg,hlc,hll⟩
    have HNI:Hid (pl.Dn wr w.heap.size u13 N/\N.length<=k):=⟨hni,hnl⟩
    have i1:(0:Int)<=(k:Int):=by omega
    have i2:(k:Int)<(n:Int):=by omega
    obtain⟨u0,u1,u2,u3,u4,u5,u6,u7,u8⟩:=hco.box
    have lB:(w.heap.size+1+1)<wr.heap.size:=Qf hco.box
    clear hco htg hlc hll hni hnl HC0
    go_wp2_with fail
    refine(KS.out _ (bR.alloc nR _)).mono ?_
    rintro e w1 ⟨⟨y',t,M,rfl,hM,hst⟩,hb1⟩
    have hb01:Bwz wr w1:=((Below.refl wr.heap.size wr).alloc nR _).trans (hb1.mono (by simp))
    have hbw1:Bwz w w1:=hbr.trans (hb01.mono hbr.size)
    replace HCO:Hid (PCo s0 y0 w w1 (w.heap.size+1) (w.heap.size+1+1) S y):=HCO.out.below hb01
    replace HTG:Hid (TG w1 w.heap.size u12 L/\L.map CO.chg=T/\L.length<=10000 * k):=⟨HTG.out.1.below hb01,HTG.out.2⟩
    replace HNI:Hid (pl.Dn w1 w.heap.size u13 N/\N.length<=k):=⟨own_below HNI.out.1 hb01,HNI.out.2⟩
    have HM:Hid (M.map CO.chg=SC):=hM
    have HST:Hid (OB w1 w.heap.size y'.l NS.L/\OB w1 w.heap.size y'.r NS.R/\CG w1 w.heap.size t M):=by
     have hs:=I1 (w0':=w) hst (by have:=hbr.size;simp;omega)
     exact⟨hs.l,hs.r,hs.cg⟩
    have lB1:(w.heap.size+1+1)<w1.heap.size:=Qf HCO.out.box
    clear u0 u1 u2 u3 u4 u5 u6 u7 u8 c0 c1 c2 c3 hM hst hb1 lB KS
    rw[AK]
    by_cases h0:SE=0
    ·subst h0
     rw[if_neg (by decide)]at HPK
     go_upto_region 13 with fail
     generalize hV2:(World.alloc w1 _)=w2
     have hb2:Bwz w1 w2:=by rw[<-hV2];exact bR.alloc nR _
     have HBX:Hid (BT w2 w1.heap.size NS y'):=by
      subst hV2
      exact BI ..
     clear hV2
     replace HCO:Hid (PCo s0 y0 w w2 (w.heap.size+1) (w.heap.size+1+1) S y):=HCO.out.below hb2
     replace HTG:Hid (TG w2 w.heap.size u12 L/\L.map CO.chg=T/\L.length<=10000 * k):=⟨HTG.out.1.below hb2,HTG.out.2⟩
     replace HNI:Hid (pl.Dn w2 w.heap.size u13 N/\N.length<=k):=⟨own_below HNI.out.1 hb2,HNI.out.2⟩
     have HC3:Hid (CG (World.setCells w2 (w.heap.size+1+1) 0 [.int .i64 NS.L.lim,.slice y'.l.m.1.1 y'.l.m.1.2.1 y'.l.m.1.2.2,.slice y'.l.ra y'.l.rs.length y'.l.rc,.int .i64 NS.R.lim,.slice y'.r.m.1.1 y'.r.m.1.2.1 y'.r.m.1.2.2,.slice y'.r.ra y'.r.rs.length y'.r.rc,.int .i64 NS.lm,.int .i64 NS.rm,.int .i64 NS.seq]) w.heap.size t M):=GN _ _ _ (HST.out.2.2.below hb2) HCO.out.tb
     have HCO3:Hid (PCo s0 y0 w (World.setCells w2 (w.heap.size+1+1) 0 [.int .i64 NS.L.lim,.slice y'.l.m.1.1 y'.l.m.1.2.1 y'.l.m.1.2.2,.slice y'.l.ra y'.l.rs.length y'.l.rc,.int .i64 NS.R.lim,.slice y'.r.m.1.1 y'.r.m.1.2.1 y'.r.m.1.2.2,.slice y'.r.ra y'.r.rs.length y'.r.rc,.int .i64 NS.lm,.int .i64 NS.rm,.int .i64 NS.seq]) (w.heap.size+1) (w.heap.size+1+1) NS y'):=HCO.out.put (by omega) (HST.out.1.below hb2) (HST.out.2.1.below hb2)
     have HTG3:Hid (TG (World.setCells w2 (w.heap.size+1+1) 0 [.int .i64 NS.L.lim,.slice y'.l.m.1.1 y'.l.m.1.2.1 y'.l.m.1.2.2,.slice y'.l.ra y'.l.rs.length y'.l.rc,.int .i64 NS.R.lim,.slice y'.r.m.1.1 y'.r.m.1.2.1 y'.r.m.1.2.2,.slice y'.r.ra y'.r.rs.length y'.r.rc,.int .i64 NS.lm,.int .i64 NS.rm,.int .i64 NS.seq]) w.heap.size u12 L/\L.map CO.chg=T/\L.length<=10000 * k):=⟨HTG.out.1.keep (CM _ _ _ HCO.out.tb) (by decide) (by decide),HTG.out.2⟩
     have HNI3:Hid (pl.Dn (World.setCells w2 (w.heap.size+1+1) 0 [.int .i64 NS.L.lim,.slice y'.l.m.1.1 y'.l.m.1.2.1 y'.l.m.1.2.2,.slice y'.l.ra y'.l.rs.length y'.l.rc,.int .i64 NS.R.lim,.slice y'.r.m.1.1 y'.r.m.1.2.1 y'.r.m.1.2.2,.slice y'.r.ra y'.r.rs.length y'.r.rc,.int .i64 NS.lm,.int .i64 NS.rm,.int .i64 NS.seq]) w.heap.size u13 N/\N.length<=k):=⟨A2 HNI.out.1 (fun g hg=>(CM _ _ _ HCO.out.tb).2 g _ (A7 HNI.out.1 hg) (by decide)),HNI.out.2⟩
     obtain⟨u0,u1,u2,u3,u4,u5,u6,u7,u8⟩:=HBX.out
     go_upto_region 14 with((with_reducible refine wpList_store_mid ?_ 31 (.tmp 11) (.tmp 45) ?_ (w.heap.size+1+1) 0 #[.int .i64 NS.L.lim,.slice y'.l.m.1.1 y'.l.m.1.2.1 y'.l.m.1.2.2,.slice y'.l.ra y'.l.rs.length y'.l.rc,.int .i64 NS.R.lim,.slice y'.r.m.1.1 y'.r.m.1.2.1 y'.r.m.1.2.2,.slice y'.r.ra y'.r.rs.length y'.r.rc,.int .i64 NS.lm,.int .i64 NS.rm,.int .i64 NS.seq] ?_ ?_ ?_ ?_ ?_ ?_);exact rfl;exact rfl;exact rfl;exact rfl;exact HCO.out.nb;exact EN;exact(by simp[Value.oneCell']))
     generalize (World.setCells w2 (w.heap.size+1+1) 0 [.int .i64 NS.L.lim,.slice y'.l.m.1.1 y'.l.m.1.2.1 y'.l.m.1.2.2,.slice y'.l.ra y'.l.rs.length y'.l.rc,.int .i64 NS.R.lim,.slice y'.r.m.1.1 y'.r.m.1.2.1 y'.r.m.1.2.2,.slice y'.r.ra y'.r.rs.length y'.r.rc,.int .i64 NS.lm,.int .i64 NS.rm,.int .i64 NS.seq])=w3 at HC3 HCO3 HTG3 HNI3⊢
     clear u0 u1 u2 u3 u4 u5 u6 u7 u8
     have hMl:M.length<=10000:=by rw[<-lMp (f:=CO.chg),HM.out];exact HFS.out
     have hLl:=HTG3.out.2.2
     have hsz:=HCO3.out.j.1.size
     go_wp2_with (at_builtin;refine MO rfl (.tmp 46) (.tmp 47) rfl w.heap.size w.heap.size u12 t L M w3 rfl rfl HTG3.out.1 HC3.out (by omega) hsz ?_;intro v2 w4 htg4 hk4 hb4)
     go_roundw
     case rel=>exact⟨k+1,y',L++M,by omega,by go_num,by rw[HPK.out];exact HCO3.out.keep hk4 (HCO3.out.j.1.trans hb4) (by decide) (by decide) (by decide) (by decide),htg4,by rw[HPK.out,List.map_append,HTG3.out.2.1,HM.out],by rw[lAp];omega,by rw[HPK.out];exact A2 HNI3.out.1 (fun g hg=>hk4.2 g _ (A7 HNI3.out.1 hg) (by decide)),by rw[HPK.out];exact Nat.le_succ_of_le HNI3.out.2⟩
     case measure=>simp[intOf];omega
    ·have hne:(SE !=0)=true:=by simpa using h0
     rw[if_pos h0]at HPK
     go_upto_region 12 with fail
     generalize hV2:(World.alloc w1 _)=w2
     have hb2:Bwz w1 w2:=by rw[<-hV2];exact bR.alloc nR _
     clear hV2
     replace HCO:Hid (PCo s0 y0 w w2 (w.heap.size+1) (w.heap.size+1+1) S y):=HCO.out.below hb2
     replace HTG:Hid (TG w2 w.heap.size u12 L/\L.map CO.chg=T/\L.length<=10000 * k):=⟨HTG.out.1.below hb2,HTG.out.2⟩
     replace HNI:Hid (pl.Dn w2 w.heap.size u13 N/\N.length<=k):=⟨own_below HNI.out.1 hb2,HNI.out.2⟩
     have hsz:=HCO.out.j.1.size
     have hNl:=HNI.out.2
     have hLl:=HTG.out.2.2
     go_wp2_with (at_builtin;refine pl.On rfl (.tmp 41) (.tmp 43) rfl w.heap.size u13 N rfl w2 HNI.out.1 (k:Int) w2.heap.size rfl rfl (by omega) hsz ?_;intro v2 w3 hown3 hgrow3)
     have hbn:=pl.Kn HCO.out.j.1 hsz HNI.out.1 hgrow3
     have hk3:=Ie (World.ownsRow.alloc HNI.out.1 _) hgrow3
     have hba:Bwz w2 (w2.alloc (.cells #[.int .i64 (k:Int)] 3)):=bR.alloc nR _
     go_roundw
     case rel=>exact⟨k+1,y,L,by omega,by go_num,by rw[HPK.out];exact(HCO.out.below hba).keep hk3 hbn (by decide) (by decide) (by decide) (by decide),(HTG.out.1.below hba).keep hk3 (by decide) (by decide),by rw[HPK.out];exact HTG.out.2.1,by omega,by rw[HPK.out];exact hown3,by rw[HPK.out,lAp,List.length_singleton];omega⟩
     case measure=>simp[intOf];omega
   ·have hk:k=n:=by omega
    subst hk
    have i2:¬((k:Int)<(k:Int)):=by omega
    rw[show PK p s0 l k=playJ p s0 l 0 by rw[<-HN.out];exact VZ p s0 l]at hco hlc hni hnl
    obtain⟨KS',hKS'⟩:=nM (playJ p s0 l 0)
    rw[hKS']at hco hlc hni hnl
    obtain⟨S,T,N⟩:=KS'
    dsimp only at hco hlc hni hnl
    have HCO:Hid (PCo s0 y0 w wr (w.heap.size+1) (w.heap.size+1+1) S y):=hco
    have HTG:Hid (TG (World.setCells wr (w.heap.size+1) 0 [.int .i64 S.L.lim,.slice y.l.m.1.1 y.l.m.1.2.1 y.l.m.1.2.2,.slice y.l.ra y.l.rs.length y.l.rc,.int .i64 S.R.lim,.slice y.r.m.1.1 y.r.m.1.2.1 y.r.m.1.2.2,.slice y.r.ra y.r.rs.length y.r.rc,.int .i64 S.lm,.int .i64 S.rm,.int .i64 S.seq]) w.heap.size u12 L/\L.map CO.chg=T):=⟨htg.keep (CM _ _ _ hco.tr) (by decide) (by decide),hlc⟩
    have HNI:Hid (pl.Dn (World.setCells wr (w.heap.size+1) 0 [.int .i64 S.L.lim,.slice y.l.m.1.1 y.l.m.1.2.1 y.l.m.1.2.2,.slice y.l.ra y.l.rs.length y.l.rc,.int .i64 S.R.lim,.slice y.r.m.1.1 y.r.m.1.2.1 y.r.m.1.2.2,.slice y.r.ra y.r.rs.length y.r.rc,.int .i64 S.lm,.int .i64 S.rm,.int .i64 S.seq]) w.heap.size u13 N):=A2 hni (fun g hg=>(CM _ _ _ hco.tr).2 g _ (A7 hni hg) (by decide))
    have HB9:Hid (Bwz w (World.setCells wr (w.heap.size+1) 0 [.int .i64 S.L.lim,.slice y.l.m.1.1 y.l.m.1.2.1 y.l.m.1.2.2,.slice y.l.ra y.l.rs.length y.l.rc,.int .i64 S.R.lim,.slice y.r.m.1.1 y.r.m.1.2.1 y.r.m.1.2.2,.slice y.r.ra y.r.rs.length y.r.rc,.int .i64 S.lm,.int .i64 S.rm,.int .i64 S.seq])):=below_setCells (by omega) _ 0 _ hco.j.1
    have HJ9:Hid (jAt s0 y0 w (World.setCells wr (w.heap.size+1) 0 [.int .i64 S.L.lim,.slice y.l.m.1.1 y.l.m.1.2.1 y.l.m.1.2.2,.slice y.l.ra y.l.rs.length y.l.rc,.int .i64 S.R.lim,.slice y.r.m.1.1 y.r.m.1.2.1 y.r.m.1.2.2,.slice y.r.ra y.r.rs.length y.r.rc,.int .i64 S.lm,.int .i64 S.rm,.int .i64 S.seq]) S y):=⟨HB9.out,hco.j.2.imp id (fun k=>⟨Be DW _ _ _ k.1 hco.tr,Be DW _ _ _ k.2 hco.tr⟩)⟩
    have HR:Hid ((World.setCells wr (w.heap.size+1) 0 [.int .i64 S.L.lim,.slice y.l.m.1.1 y.l.m.1.2.1 y.l.m.1.2.2,.slice y.l.ra y.l.rs.length y.l.rc,.int .i64 S.R.lim,.slice y.r.m.1.1 y.r.m.1.2.1 y.r.m.1.2.2,.slice y.r.ra y.r.rs.length y.r.rc,.int .i64 S.lm,.int .i64 S.rm,.int .i64 S.seq]).rangeAt (w.heap.size+1) 0 [.int .i64 S.L.lim,.slice y.l.m.1.1 y.l.m.1.2.1 y.l.m.1.2.2,.slice y.l.ra y.l.rs.length y.l.rc,.int .i64 S.R.lim,.slice y.r.m.1.1 y.r.m.1.2.1 y.r.m.1.2.2,.slice y.r.ra y.r.rs.length y.r.rc,.int .i64 S.lm,.int .i64 S.rm,.int .i64 S.seq]):=C3 hco.nr rfl
    obtain⟨u0,u1,u2,u3,u4,u5,u6,u7,u8⟩:=hco.box
    clear hco htg hlc hni hnl HC0
    go_wp2_with ((with_reducible refine wpList_store_mid ?_ 31 (.tmp 6) (.tmp 50) ?_ (w.heap.size+1) 0 #[.int .i64 S.L.lim,.slice y.l.m.1.1 y.l.m.1.2.1 y.l.m.1.2.2,.slice y.l.ra y.l.rs.length y.l.rc,.int .i64 S.R.lim,.slice y.r.m.1.1 y.r.m.1.2.1 y.r.m.1.2.2,.slice y.r.ra y.r.rs.length y.r.rc,.int .i64 S.lm,.int .i64 S.rm,.int .i64 S.seq] ?_ ?_ ?_ ?_ ?_ ?_);exact rfl;exact rfl;exact rfl;exact rfl;exact HCO.out.nr;exact EN;exact(by simp[Value.oneCell']))
    generalize (World.setCells wr (w.heap.size+1) 0 [.int .i64 S.L.lim,.slice y.l.m.1.1 y.l.m.1.2.1 y.l.m.1.2.2,.slice y.l.ra y.l.rs.length y.l.rc,.int .i64 S.R.lim,.slice y.r.m.1.1 y.r.m.1.2.1 y.r.m.1.2.2,.slice y.r.ra y.r.rs.length y.r.rc,.int .i64 S.lm,.int .i64 S.rm,.int .i64 S.seq])=W' at HR HB9 HJ9 HTG HNI⊢
    have z0:=HR.out 0 _ rfl
    have z1:=HR.out 1 _ rfl
    have z2:=HR.out 2 _ rfl
    have z3:=HR.out 3 _ rfl
    have z4:=HR.out 4 _ rfl
    have z5:=HR.out 5 _ rfl
    have z6:=HR.out 6 _ rfl
    have z7:=HR.out 7 _ rfl
    have z8:=HR.out 8 _ rfl
    simp only[Nat.zero_add]at z0 z1 z2 z3 z4 z5 z6 z7 z8
    exact bodyPost_ret (v:=.tuple #[.agg #[.int .i64 S.L.lim,.slice y.l.m.1.1 y.l.m.1.2.1 y.l.m.1.2.2,.slice y.l.ra y.l.rs.length y.l.rc,.int .i64 S.R.lim,.slice y.r.m.1.1 y.r.m.1.2.1 y.r.m.1.2.2,.slice y.r.ra y.r.rs.length y.r.rc,.int .i64 S.lm,.int .i64 S.rm,.int .i64 S.seq],u12,u13,.int .i64 0]) (by simp[results,results53,go_sem,z0,z1,z2,z3,z4,z5,z6,z7,z8]) rfl ⟨⟨y,u12,L,u13,rfl,HTG.out.2,HJ9.out,HTG.out.1,HNI.out⟩,HB9.out⟩
noncomputable def Cw(p:pl.Pln)(l:List Ev):Int×Jn×List ch.Chg×List Int:=if pl.Ai p≠0 then(pl.Ai p,j0,[],[])else D9 p (startJ p) l
theorem Dt(h:pl.Ai p=0):startJ p=⟨⟨p.limit,[],[]⟩,⟨p.limit,[],[]⟩,noMark,noMark,0⟩:=if_pos h
theorem Hk(h:pl.Ai p=0)(w:World):joinAt w (startJ p) jx0:=by
 rw[Dt h]
 exact jAt.at (s0:=j0) (y0:=jx0) (w:=w) (wr:=w) ⟨bR,.inr ⟨Cp (De nR),Cp (De nR)⟩⟩
theorem Tq(h:pl.Ai p=0):wfJ (startJ p):=by
 rw[Dt h]
 exact⟨⟨fun y hy=>absurd hy List.not_mem_nil,Nat.zero_le _⟩,⟨fun y hy=>absurd hy List.not_mem_nil,Nat.zero_le _⟩,⟨by show(-9223372036854775808:Int)<=0;decide,by show(0:Int)<=9223372036854775807;decide⟩⟩
theorem TG.mono{w:World}{base base':Nat}{v:Value}{L:List CO}(h:TG w base v L)(hb:base'<=base):TG w base' v L:=⟨World.ownsRow.mono h.own hb,h.rows⟩
theorem Me{s0:Jn}{y0:JX}{wr w0:World}{s:Jn}{y:JX}{N:Nat}(h:jAt s0 y0 w0 wr s y)(hs:∀W,joinAt W s0 y0)(hN:An wr N 31)(l:List Value):joinAt (wr.setCells N 0 l) s y:=by
 rcases h.2 with h2|h2
 ·obtain⟨⟨rfl,rfl⟩,_⟩:=h2
  exact hs _
 ·exact⟨(Be DW _ _ _ h2.1 hN).at,(Be DW _ _ _ h2.2 hN).at⟩
theorem Ny(p:pl.Pln)(x:pl.PA)(l:List Ev)(xs:List RX)(la:Option Addr)(lc:Nat)(w:World)(hw:pl.wfPlan p)(hp:pl.planAt w p x)(hv:DH w la l xs)(hn:l.length<=9223372036854775807):
 Calls Tryz.prog 19 #[pl.As p x,.slice la l.length lc] w fun e w'=>(∃y' t L nv,e= .returned (.tuple #[joinV (Cw p l).2.1 y',t,nv,.int .i64 (Cw p l).1])/\L.map CO.chg=(Cw p l).2.2.1/\joinAt w' (Cw p l).2.1 y'/\TG w' w.heap.size t L/\pl.Dn w' w.heap.size nv (Cw p l).2.2.2)/\Bwz w w':=by
 have KC:=hIz (fun(w1:World) (hb:Bwz w w1)=>QX p x w1 hw (pl.Ah hp hb))
 have KP:Hid (pl.Ai p=0->∀w1 PB,Bwz w w1->BB w1 PB p x->Calls Tryz.prog 53 #[joinV (startJ p) jx0,.slice la l.length lc,.func (.func 54) #[] #[.pointer (some ⟨PB,0,none⟩)]] w1 fun e w'=>(∃y' t L nv,e= .returned (.tuple #[joinV (D9 p (startJ p) l).2.1 y',t,nv,.int .i64 (D9 p (startJ p) l).1])/\L.map CO.chg=(D9 p (startJ p) l).2.2.1/\jAt (startJ p) jx0 w1 w' (D9 p (startJ p) l).2.1 y'/\TG w' w1.heap.size t L/\pl.Dn w' w1.heap.size nv (D9 p (startJ p) l).2.2.2)/\Bwz w1 w'):=fun h w1 PB hb hbx=>Rm p x (startJ p) jx0 l xs la lc PB w1 hw (pl.Ah hp hb) hbx (Hk h w1) (Tq h) (Ef hv hb) hn
 have HJS:Hid (pl.Ai p=0->∀W,joinAt W (startJ p) jx0):=fun h W=>Hk h W
 obtain⟨PA,hPA⟩:=nM (Cw p l)
 have HPA:Hid (PA=if pl.Ai p≠0 then(pl.Ai p,j0,[],[])else D9 p (startJ p) l):=hPA.symm
 rw[hPA]
 clear hPA
 obtain⟨PR,hPR⟩:=nM (D9 p (startJ p) l)
 obtain⟨S,hS⟩:=nM (startJ p)
 obtain⟨E,hE⟩:=nM (pl.Ai p)
 obtain⟨n,hnn⟩:=nM l.length
 rw[hPR]at KP HPA
 rw[hS,hE,hnn]at KP
 rw[hS,hE]at KC HJS
 rw[hE]at HPA
 rw[hnn]
 obtain⟨RE,NS,T,N⟩:=PR
 dsimp only at KP
 clear hPR hS hE hnn hw hp hv hn
 unfold pl.As at KC⊢
 rw[AK S jx0]at KC KP
 go_enter func19,ntmps19
 go_wp2_with fail
 generalize hV:(World.alloc (World.alloc w _) _)=V
 have hb0:Bwz w V:=by rw[<-hV];exact(bR.alloc nR _).alloc (by simp) _
 have HB:Hid (BB V w.heap.size p x):=by
  subst hV
  exact Al (CH ..) (bR.alloc nR _)
 have HZ:Hid (noJ V (w.heap.size+1)/\An V (w.heap.size+1) 31):=by
  subst hV
  have h1:=Fc (w.alloc (.cells #[.int .i64 p.kind,.int .i64 p.mode,.int .i64 p.low,.int .i64 p.high,.int .i64 p.size,.int .i64 p.limit,.slice x.l p.left.length x.lc,.slice x.r p.right.length x.rc,.slice x.lk p.lkeys.length x.lkc,.slice x.rk p.rkeys.length x.rkc,.bool p.grouped,.slice x.g p.group.length x.gc,.slice x.a p.aggs.length x.ac] 25))
  have h2:=World.alloc_heap_new (w.alloc (.cells #[.int .i64 p.kind,.int .i64 p.mode,.int .i64 p.low,.int .i64 p.high,.int .i64 p.size,.int .i64 p.limit,.slice x.l p.left.length x.lc,.slice x.r p.right.length x.rc,.slice x.lk p.lkeys.length x.lkc,.slice x.rk p.rkeys.length x.rkc,.bool p.grouped,.slice x.g p.group.length x.gc,.slice x.a p.aggs.length x.ac] 25)) (.cells #[.int .i64 0,.slice none 0 0,.slice none 0 0,.int .i64 0,.slice none 0 0,.slice none 0 0,.int .i64 0,.int .i64 0,.int .i64 0] 31)
  rw[World.size_alloc]at h1 h2
  exact⟨h1,_,_,h2⟩
 clear hV
 refine(KC.out _ hb0).mono ?_
 rintro e w1 ⟨rfl,hb1⟩
 have hbw:Bwz w w1:=hb0.trans (hb1.mono hb0.size)
 replace HB:Hid (BB w1 w.heap.size p x):=Al HB.out hb1
 replace HZ:Hid (noJ w1 (w.heap.size+1)/\An w1 (w.heap.size+1) 31):=⟨AX HZ.out.1 hb1,Af HZ.out.2 hb1⟩
 have lz:(w.heap.size+1)<w1.heap.size:=OW HZ.out.1
 clear hb0 hb1 KC
 by_cases h0:E=0
 ·subst h0
  rw[if_neg (by decide)]at HPA
  go_upto_region 4 with fail
  generalize hV2:(World.alloc w1 _)=w2
  have hb2:Bwz w1 w2:=by rw[<-hV2];exact bR.alloc nR _
  have HBX:Hid (BT w2 w1.heap.size S jx0):=by
   subst hV2
   exact BI ..
  clear hV2
  have hbw2:Bwz w w2:=hbw.trans (hb2.mono hbw.size)
  obtain⟨u0,u1,u2,u3,u4,u5,u6,u7,u8⟩:=HBX.out
  replace HZ:Hid (noJ w2 (w.heap.size+1)/\An w2 (w.heap.size+1) 31):=⟨AX HZ.out.1 hb2,Af HZ.out.2 hb2⟩
  replace HB:Hid (BB w2 w.heap.size p x):=Al HB.out hb2
  go_wp2_with fail
  refine(KP.out (by trivial) w2 w.heap.size hbw2 HB.out).mono ?_
  rintro e w3 ⟨⟨y',t,L,nv,rfl,hl,hj,ht,hni⟩,hb3⟩
  clear u0 u1 u2 u3 u4 u5 u6 u7 u8 HBX
  have hbw3:Bwz w w3:=hbw2.trans (hb3.mono hbw2.size)
  replace HZ:Hid (noJ w3 (w.heap.size+1)/\An w3 (w.heap.size+1) 31):=⟨AX HZ.out.1 hb3,Af HZ.out.2 hb3⟩
  have HL:Hid (L.map CO.chg=T):=hl
  have HJ:Hid (joinAt (World.setCells w3 (w.heap.size+1) 0 [.int .i64 NS.L.lim,.slice y'.l.m.1.1 y'.l.m.1.2.1 y'.l.m.1.2.2,.slice y'.l.ra y'.l.rs.length y'.l.rc,.int .i64 NS.R.lim,.slice y'.r.m.1.1 y'.r.m.1.2.1 y'.r.m.1.2.2,.slice y'.r.ra y'.r.rs.length y'.r.rc,.int .i64 NS.lm,.int .i64 NS.rm,.int .i64 NS.seq]) NS y'):=Me hj (HJS.out (by trivial)) HZ.out.2 _
  have HT:Hid (TG (World.setCells w3 (w.heap.size+1) 0 [.int .i64 NS.L.lim,.slice y'.l.m.1.1 y'.l.m.1.2.1 y'.l.m.1.2.2,.slice y'.l.ra y'.l.rs.length y'.l.rc,.int .i64 NS.R.lim,.slice y'.r.m.1.1 y'.r.m.1.2.1 y'.r.m.1.2.2,.slice y'.r.ra y'.r.rs.length y'.r.rc,.int .i64 NS.lm,.int .i64 NS.rm,.int .i64 NS.seq]) w.heap.size t L):=(ht.mono hbw2.size).keep (CM _ _ _ HZ.out.2) (by decide) (by decide)
  have HNI:Hid (pl.Dn (World.setCells w3 (w.heap.size+1) 0 [.int .i64 NS.L.lim,.slice y'.l.m.1.1 y'.l.m.1.2.1 y'.l.m.1.2.2,.slice y'.l.ra y'.l.rs.length y'.l.rc,.int .i64 NS.R.lim,.slice y'.r.m.1.1 y'.r.m.1.2.1 y'.r.m.1.2.2,.slice y'.r.ra y'.r.rs.length y'.r.rc,.int .i64 NS.lm,.int .i64 NS.rm,.int .i64 NS.seq]) w.heap.size nv N):=World.ownsRow.mono (A2 hni (fun g hg=>(CM _ _ _ HZ.out.2).2 g _ (A7 hni hg) (by decide))) hbw2.size
  have HR:Hid ((World.setCells w3 (w.heap.size+1) 0 [.int .i64 NS.L.lim,.slice y'.l.m.1.1 y'.l.m.1.2.1 y'.l.m.1.2.2,.slice y'.l.ra y'.l.rs.length y'.l.rc,.int .i64 NS.R.lim,.slice y'.r.m.1.1 y'.r.m.1.2.1 y'.r.m.1.2.2,.slice y'.r.ra y'.r.rs.length y'.r.rc,.int .i64 NS.lm,.int .i64 NS.rm,.int .i64 NS.seq]).rangeAt (w.heap.size+1) 0 [.int .i64 NS.L.lim,.slice y'.l.m.1.1 y'.l.m.1.2.1 y'.l.m.1.2.2,.slice y'.l.ra y'.l.rs.length y'.l.rc,.int .i64 NS.R.lim,.slice y'.r.m.1.1 y'.r.m.1.2.1 y'.r.m.1.2.2,.slice y'.r.ra y'.r.rs.length y'.r.rc,.int .i64 NS.lm,.int .i64 NS.rm,.int .i64 NS.seq]):=C3 HZ.out.1 rfl
  have HB9:Hid (Bwz w (World.setCells w3 (w.heap.size+1) 0 [.int .i64 NS.L.lim,.slice y'.l.m.1.1 y'.l.m.1.2.1 y'.l.m.1.2.2,.slice y'.l.ra y'.l.rs.length y'.l.rc,.int .i64 NS.R.lim,.slice y'.r.m.1.1 y'.r.m.1.2.1 y'.r.m.1.2.2,.slice y'.r.ra y'.r.rs.length y'.r.rc,.int .i64 NS.lm,.int .i64 NS.rm,.int .i64 NS.seq])):=below_setCells (by omega) _ 0 _ hbw3
  clear hl hj ht hni
  rw[AK]
  go_wp2_with ((with_reducible refine wpList_store_mid ?_ 31 (.tmp 4) (.tmp 23) ?_ (w.heap.size+1) 0 #[.int .i64 NS.L.lim,.slice y'.l.m.1.1 y'.l.m.1.2.1 y'.l.m.1.2.2,.slice y'.l.ra y'.l.rs.length y'.l.rc,.int .i64 NS.R.lim,.slice y'.r.m.1.1 y'.r.m.1.2.1 y'.r.m.1.2.2,.slice y'.r.ra y'.r.rs.length y'.r.rc,.int .i64 NS.lm,.int .i64 NS.rm,.int .i64 NS.seq] ?_ ?_ ?_ ?_ ?_ ?_);exact rfl;exact rfl;exact rfl;exact rfl;exact HZ.out.1;exact EN;exact(by simp[Value.oneCell']))
  generalize (World.setCells w3 (w.heap.size+1) 0 [.int .i64 NS.L.lim,.slice y'.l.m.1.1 y'.l.m.1.2.1 y'.l.m.1.2.2,.slice y'.l.ra y'.l.rs.length y'.l.rc,.int .i64 NS.R.lim,.slice y'.r.m.1.1 y'.r.m.1.2.1 y'.r.m.1.2.2,.slice y'.r.ra y'.r.rs.length y'.r.rc,.int .i64 NS.lm,.int .i64 NS.rm,.int .i64 NS.seq])=W' at HR HB9 HJ HT HNI⊢
  have z0:=HR.out 0 _ rfl
  have z1:=HR.out 1 _ rfl
  have z2:=HR.out 2 _ rfl
  have z3:=HR.out 3 _ rfl
  have z4:=HR.out 4 _ rfl
  have z5:=HR.out 5 _ rfl
  have z6:=HR.out 6 _ rfl
  have z7:=HR.out 7 _ rfl
  have z8:=HR.out 8 _ rfl
  simp only[Nat.zero_add]at z0 z1 z2 z3 z4 z5 z6 z7 z8
  exact bodyPost_ret (v:=.tuple #[.agg #[.int .i64 NS.L.lim,.slice y'.l.m.1.1 y'.l.m.1.2.1 y'.l.m.1.2.2,.slice y'.l.ra y'.l.rs.length y'.l.rc,.int .i64 NS.R.lim,.slice y'.r.m.1.1 y'.r.m.1.2.1 y'.r.m.1.2.2,.slice y'.r.ra y'.r.rs.length y'.r.rc,.int .i64 NS.lm,.int .i64 NS.rm,.int .i64 NS.seq],t,nv,.int .i64 RE]) (by simp[results,results19,go_sem,z0,z1,z2,z3,z4,z5,z6,z7,z8]) rfl ⟨⟨y',t,L,nv,by rw[HPA.out];rfl,by rw[HPA.out];exact HL.out,by rw[HPA.out];exact HJ.out,HT.out,by rw[HPA.out];exact HNI.out⟩,HB9.out⟩
 ·have hne:(E !=0)=true:=by simpa using h0
  rw[if_pos h0]at HPA
  go_upto_region 3 with fail
  generalize hV2:(World.alloc w1 _)=w2
  have hb2:Bwz w1 w2:=by rw[<-hV2];exact bR.alloc nR _
  clear hV2
  have hbw2:Bwz w w2:=hbw.trans (hb2.mono hbw.size)
  replace HZ:Hid (noJ w2 (w.heap.size+1)/\An w2 (w.heap.size+1) 31):=⟨AX HZ.out.1 hb2,Af HZ.out.2 hb2⟩
  have HR:Hid ((World.setCells w2 (w.heap.size+1) 0 [.int .i64 0,.slice none 0 0,.slice none 0 0,.int .i64 0,.slice none 0 0,.slice none 0 0,.int .i64 0,.int .i64 0,.int .i64 0]).rangeAt (w.heap.size+1) 0 [.int .i64 0,.slice none 0 0,.slice none 0 0,.int .i64 0,.slice none 0 0,.slice none 0 0,.int .i64 0,.int .i64 0,.int .i64 0]):=C3 HZ.out.1 rfl
  have HB9:Hid (Bwz w (World.setCells w2 (w.heap.size+1) 0 [.int .i64 0,.slice none 0 0,.slice none 0 0,.int .i64 0,.slice none 0 0,.slice none 0 0,.int .i64 0,.int .i64 0,.int .i64 0])):=below_setCells (by omega) _ 0 _ hbw2
  go_wp2_with ((with_reducible refine wpList_store_mid ?_ 31 (.tmp 4) (.tmp 17) ?_ (w.heap.size+1) 0 #[.int .i64 0,.slice none 0 0,.slice none 0 0,.int .i64 0,.slice none 0 0,.slice none 0 0,.int .i64 0,.int .i64 0,.int .i64 0] ?_ ?_ ?_ ?_ ?_ ?_);exact rfl;exact rfl;exact rfl;exact rfl;exact HZ.out.1;exact EN;exact(by simp[Value.oneCell']))
  generalize (World.setCells w2 (w.heap.size+1) 0 [.int .i64 0,.slice none 0 0,.slice none 0 0,.int .i64 0,.slice none 0 0,.slice none 0 0,.int .i64 0,.int .i64 0,.int .i64 0])=W' at HR HB9⊢
  have z0:=HR.out 0 _ rfl
  have z1:=HR.out 1 _ rfl
  have z2:=HR.out 2 _ rfl
  have z3:=HR.out 3 _ rfl
  have z4:=HR.out 4 _ rfl
  have z5:=HR.out 5 _ rfl
  have z6:=HR.out 6 _ rfl
  have z7:=HR.out 7 _ rfl
  have z8:=HR.out 8 _ rfl
  simp only[Nat.zero_add]at z0 z1 z2 z3 z4 z5 z6 z7 z8
  exact bodyPost_ret (v:=.tuple #[.agg #[.int .i64 0,.slice none 0 0,.slice none 0 0,.int .i64 0,.slice none 0 0,.slice none 0 0,.int .i64 0,.int .i64 0,.int .i64 0],.slice none 0 0,.slice none 0 0,.int .i64 E]) (by simp[results,results19,go_sem,z0,z1,z2,z3,z4,z5,z6,z7,z8]) rfl ⟨⟨jx0,.slice none 0 0,[],.slice none 0 0,by rw[HPA.out];rfl,by rw[HPA.out];rfl,by rw[HPA.out];exact jAt.at (s0:=j0) (y0:=jx0) (w:=w) ⟨HB9.out,.inr ⟨Cp (De HB9.out.size),Cp (De HB9.out.size)⟩⟩,Om _ _,by rw[HPA.out];exact World.ownsRow_nil _ _ _ _⟩,HB9.out⟩
end jn
namespace pl
open Go.ChangeShapes Go.WideShapes Go.ChangeAt Go.RowKit
open vl
variable {w : World} {b : Nat} {x y : Int} {a : Option Addr}
def CL:Pln:=⟨1,4, -5,5,0,2,[2,2],[2,2],[0],[0],false,[],[]⟩
theorem Rn:wfPlan CL:=⟨by unfold i64;decide,by unfold i64;decide,by decide,by decide,by decide,by decide,by decide,by decide⟩
theorem OT:Ai CL=0:=by kernel_rfl
theorem VJ(h0:w.cell? ⟨b,0,none⟩=some (.int .i64 x)):A4 w (some ⟨b,0,none⟩) [x]:=by
 intro i hi
 match i,hi with
 |0,_=>exact⟨b,0,rfl,h0⟩
theorem VK(h0:w.cell? ⟨b,0,none⟩=some (.int .i64 x))(h1:w.cell? ⟨b,1,none⟩=some (.int .i64 y)):A4 w (some ⟨b,0,none⟩) [x,y]:=by
 intro i hi
 match i,hi with
 |0,_=>exact⟨b,0,rfl,h0⟩
 |1,_=>exact⟨b,0,rfl,h1⟩
theorem WR:A4 w a []:=fun i hi=>absurd hi (Nat.not_lt_zero i)
theorem WT:Fa w a []:=fun i hi=>absurd hi (Nat.not_lt_zero i)
theorem Ro{p:Pln}{x:PA}(h1:A4 w x.l p.left)(h2:A4 w x.r p.right)(h3:A4 w x.lk p.lkeys)(h4:A4 w x.rk p.rkeys)(h5:A4 w x.g p.group)(h6:Fa w x.a p.aggs):planAt w p x:=⟨h1,h2,h3,h4,h5,h6⟩
def Lt(n:Nat)(a:Option Addr):Prop:=∀y,a=some y->n<=y.block
theorem Hl{n o:Nat}(h:n<=b):Lt n (some ⟨b,o,none⟩):=fun y hy=>by cases hy;exact h
theorem OU(w:World):Calls Tryz.prog 35 #[] w fun e w'=>(∃x,e= .returned (As CL x)/\planAt w' CL x/\Lt w.heap.size x.l/\Lt w.heap.size x.r/\Lt w.heap.size x.lk/\Lt w.heap.size x.rk)/\Bwz w w':=by
 go_enter func35,ntmps35
 go_wp2
 exact bodyPost_ret (v:=.agg #[.int .i64 1,.int .i64 4,.int .i64 (-5),.int .i64 5,.int .i64 0,.int .i64 2,.slice (some ⟨w.heap.size+1,0,none⟩) 2 2,.slice (some ⟨w.heap.size+1,0,none⟩) 2 2,.slice (some ⟨w.heap.size+1+1,0,none⟩) 1 1,.slice (some ⟨w.heap.size+1+1+1,0,none⟩) 1 1,.bool false,.slice none 0 0,.slice none 0 0]) (by simp[results,results35,go_sem]) rfl
  ⟨⟨⟨some ⟨w.heap.size+1,0,none⟩,2,some ⟨w.heap.size+1,0,none⟩,2,some ⟨w.heap.size+1+1,0,none⟩,1,some ⟨w.heap.size+1+1+1,0,none⟩,1,none,0,none,0⟩,rfl,
   Ro (VK (by go_simp) (by go_simp)) (VK (by go_simp) (by go_simp)) (VJ (by go_simp)) (VJ (by go_simp)) WR WT,Hl (n:=w.heap.size) (b:=w.heap.size+1) (by omega),Hl (n:=w.heap.size) (b:=w.heap.size+1) (by omega),Hl (n:=w.heap.size) (b:=w.heap.size+1+1) (by omega),Hl (n:=w.heap.size) (b:=w.heap.size+1+1+1) (by omega)⟩,by
   repeat (first|exact bR|apply Below.drew|(refine Below.setCell ?_ (by simp) _)|(refine Below.alloc ?_ (by simp<;>omega) _))
   ⟩
theorem Qb(n:Int)(w:World):Calls Tryz.prog 129 #[.int .i64 n] w fun e w'=>e= .returned (.agg #[.int .i64 2,.int .i64 n,.string ⟨#[]⟩])/\Bwz w w':=by
 go_enter func129,ntmps129
 go_wp2
 exact bodyPost_ret (v:=.agg #[.int .i64 2,.int .i64 n,.string ⟨#[]⟩]) (by simp[results,results129,go_sem]) rfl ⟨rfl,by repeat (first|exact bR|apply Below.drew|(refine Below.setCell ?_ (by simp) _)|(refine Below.alloc ?_ (by simp<;>omega) _))⟩
theorem Wt(h0:w.cell? ⟨b,0,none⟩=some (.int .i64 2))(h1:w.cell? ⟨b,1,none⟩=some (.int .i64 x))(h2:w.cell? ⟨b,2,none⟩=some (.string ⟨#[]⟩))(h3:w.cell? ⟨b,3,none⟩=some (.int .i64 2))(h4:w.cell? ⟨b,4,none⟩=some (.int .i64 y))(h5:w.cell? ⟨b,5,none⟩=some (.string ⟨#[]⟩)):
 vl.rowAt w (some ⟨b,0,none⟩) [⟨2,x,⟨#[]⟩⟩,⟨2,y,⟨#[]⟩⟩]:=by
 intro i hi
 match i,hi with
 |0,_=>exact⟨b,0,rfl,h0,h1,h2⟩
 |1,_=>exact⟨b,0,rfl,h3,h4,h5⟩
theorem Fb(x y:Int)(w:World):Calls Tryz.prog 68 #[.int .i64 x,.int .i64 y] w fun e w'=>(∃ad,e= .returned (.slice ad 2 2)/\vl.rowAt w' ad [⟨2,x,⟨#[]⟩⟩,⟨2,y,⟨#[]⟩⟩])/\Bwz w w':=by
 go_enter func68,ntmps68
 go_wp2_with fail
 refine(Qb _ _).mono ?_
 rintro e w1 ⟨rfl,hb1⟩
 go_wp2_with fail
 refine(Qb _ _).mono ?_
 rintro e w2 ⟨rfl,hb2⟩
 have hbb:=hb1.trans (hb2.mono hb1.size)
 go_wp2
 go_ret
 exact⟨⟨_,rfl,Wt (by go_simp) (by go_simp) (by go_simp) (by go_simp) (by go_simp) (by go_simp)⟩,hbb.alloc hbb.size _⟩
end pl
end Go.Proofs.YtdohnkkbkfhphaaGreat
