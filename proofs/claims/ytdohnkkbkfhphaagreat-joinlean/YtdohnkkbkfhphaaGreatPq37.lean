import Derived.Test.YtdohnkkbkfhphaaGreatPq36
set_option linter.all false
set_option maxHeartbeats 16000000
set_option maxRecDepth 100000
namespace Go.Proofs.YtdohnkkbkfhphaaGreat
/- stays: the entries that a join must keep of one side. -/
namespace jn
open Go.ChangeShapes Go.WideShapes Go.ChangeAt Go.RowKit
open vl bf
attribute [local go_sem] Oper.semAt_some
theorem Xb(m:Int)(h: -1099511627776<=m):(if (-1099511627776:Int)>m then(-1099511627776:Int)else m)=m:=if_neg (by omega)
theorem Vg{a b:Ent}:Dj a b>0↔ltP b a:=by
  unfold Dj
  rcases ltP_tri a b with h|h|h
  · have:¬ltP b a:=fun k=>BH _ (B4 h k)
    simp[h,this]
  · have h1:¬ltP a b:=fun k=>Fw k h
    have h2:¬ltP b a:=fun k=>Fw k (DV h)
    simp[h,h1,h2]
  · have h1:¬ltP a b:=fun k=>BH _ (B4 h k)
    have h2:¬CF a b:=fun k=>Fw h (DV k)
    simp[h,h1,h2]
theorem Xc(m:Int)(h: -1099511627776<=m):max m (-1099511627776)=m:=by omega
theorem Po(p:pl.Pln)(x:pl.PA)(la:Option Addr)(lc:Nat)(l:List Ev)(xs:List RX)(na:Option Addr)(nc:Nat)(side:Int)(s:Jn)(N:List Int)(w:World)(hw:pl.wfPlan p)(hp:pl.planAt w p x)(hv:DH w la l xs)(hs:pl.A0 side=true)(hpe:pl.Ai p=0)(hl:l.length<=120)
    (hS:(playJ p (startJ p) l 0).1=s) (hNN:(playJ p (startJ p) l 0).2.2=N) (hN:pl.A4 w na N):
    Calls Tryz.prog 25 #[pl.As p x,.slice la l.length lc,.slice na N.length nc,.int .i64 side,.int .i64 (markOf s (3 - side)),.int .i64 (Bq s)] w fun e w'=>(∃ad cap,e= .returned (.slice ad ((A3 p side (startJ p) l).filter (Bx p s side (A3 p side (startJ p) l))).length cap)/\Cl w' ad ((A3 p side (startJ p) l).filter (Bx p s side (A3 p side (startJ p) l))))/\Bwz w w':=by
  have hmx:Tryz.prog.follows .mixedOrders=true:=rfl
  have hg:goodJ p s:=by rw[<-hS];exact FT l _ 0 (good_start hpe) (Fm hv)
  have hmk:Cb (markOf s (3 - side))=true:=by
    unfold markOf
    split
    · exact hg.ok.rm
    · exact hg.ok.lm
  have hcame:=FX hpe hs l (startJ p) 0 [] (good_start hpe) (Fm hv) (JU hpe side)
  rw[List.nil_append]at hcame
  have HST:Hid (∀i,i<l.length->goesOn p side (startJ p) l i):=fun i hi=>goes_on p side (startJ p) l i hi
  have HSQ:Hid (∀i,i<=l.length->0<=(PK p (startJ p) l i).1.seq/\(PK p (startJ p) l i).1.seq<=(i:Int)):=fun i hi=>Qp p (startJ p) l (by rw[Dt hpe]) i hi
  have HK0:Hid ((PK p (startJ p) l 0).2.2.length=0/\(PK p (startJ p) l 0).1.seq=0/\CK p side (startJ p) l 0=[]):=⟨rfl,by rw[PN,Dt hpe],rfl⟩
  have HCE:Hid (CK p side (startJ p) l l.length=A3 p side (startJ p) l):=WC ..
  have HKL:Hid (∀i,i<=l.length->(CK p side (startJ p) l i).length<=120/\(PK p (startJ p) l i).2.2.length<=i):=fun i hi=>by
    refine⟨?_,?_⟩
    · have:=JW p side (l.take i) (startJ p)
      rw[List.length_take]at this
      show(A3 p side (startJ p) (l.take i)).length<=120
      omega
    · clear HST HSQ HK0 HCE hcame
      induction i with
      |zero=>exact Nat.le_refl _
      | succ k ih=>
        have:=ih (by omega)
        rcases(goes_on p side (startJ p) l k (by omega)).one with⟨_,h,_⟩|⟨_,h,_⟩<;>omega
  have HFIT:Hid (∀y∈A3 p side (startJ p) l,tm.AP y.time=true):=hcame.st.2
  have HFK:Hid (∀i,i<=l.length->∀y∈CK p side (startJ p) l i,tm.AP y.time=true):=fun i hi y hy=>by
    refine hcame.st.2 y ?_
    have:=Fe p side (l.take i) (l.drop i) (startJ p) 0
    rw[List.take_append_drop]at this
    rw[this]
    exact List.mem_append.2 (.inl hy)
  have KK:Hid (∀(ra:Option Addr) (rc:Nat) (r:List Cel) w1,Bwz w w1->vl.rowAt w ra r->Co r->r.length<=9223372036854775807->Calls Tryz.prog 56 #[pl.As p x,.int .i64 side,.slice ra r.length rc] w1 fun e w'=>e= .returned (.tuple #[.string (pl.Am p side r),.bool (pl.hasB p side r),.int .i64 (pl.AV p side r)])/\Bwz w1 w'):=fun ra rc r w1 hb h1 h2 h3=>pl.Iq p x side ra rc r w1 hw (pl.Ah hp hb) (vl.Ac h1 hb) h2 h3
  have KG:Hid (∀mk w1,tm.AP mk=true->Bwz w w1->Calls Tryz.prog 57 #[pl.As p x,.int .i64 side,.int .i64 mk] w1 fun e w'=>e= .returned (.tuple #[.int .i64 (pl.F6 p side mk),.int .i64 0])/\Bwz w1 w'):=fun mk w1 hf hb=>by
    have:=pl.Fq p x side mk w1 hw (pl.Ah hp hb)
    have e:pl.Et p side mk=0:=by
      unfold pl.Et
      rw[if_pos hpe,if_pos hs,if_pos hf]
    rw[e]at this
    exact this
  have HV:Hid (DH w la l xs):=hv
  have HNA:Hid (pl.A4 w na N):=hN
  have KCO:Hid (∀(e f:EM) (w1:World),Calls Tryz.prog 55 #[e.val,f.val] w1 fun r w'=>r= .returned (.int .i64 (Dj e.ent f.ent))/\Bwz w1 w'):=fun e f w1=>L4 e f w1
  have HGO:Hid (markOf s (3 - side)≠noMark->Ay p s side=pl.F6 p side (markOf s (3 - side))):=fun h=>if_neg h
  have HGN:Hid (markOf s (3 - side)=noMark->Ay p s side=noMark):=fun h=>if_pos h
  have HG2:Hid (p.kind=3->side=2->∀y∈A3 p side (startJ p) l,Ay p s 2<y.time):=fun h1 h2 y hy=>by
    rw[Hs hpe h1 hg.ok.lm]
    have:=(tm.CI _).1 (hcame.st.2 y hy)
    have e:noMark= -1099511627777:=rfl
    omega
  have HMK:Hid (markOf s (3 - side)≠noMark->tm.AP (markOf s (3 - side))=true):=fun h=>by
    unfold Cb at hmk
    simp only[Bool.or_eq_true,decide_eq_true_eq]at hmk
    exact hmk.resolve_left h
  have HEQ1:Hid (p.kind≠3\/side=1->(A3 p side (startJ p) l).filter (Bx p s side (A3 p side (startJ p) l))=(A3 p side (startJ p) l).filter fun y=>decide (Ay p s side<y.time)):=fun h=>Ps h
  have HEQ2:Hid (p.kind=3->side=2->(A3 p side (startJ p) l).filter (Bx p s side (A3 p side (startJ p) l))=(A3 p side (startJ p) l).filter fun y=> !Cc (A3 p side (startJ p) l) (Bq s) y):=fun h1 h2=>by
    have:=HG2.out h1 h2
    subst h2
    exact TK h1 this
  have HEQ3:Hid (p.kind=3->side=2->((A3 p side (startJ p) l).filter fun y=>decide (Ay p s side<y.time))=A3 p side (startJ p) l):=fun h1 h2=>by
    have:=HG2.out h1 h2
    subst h2
    exact TL this
  have hside:=side_is hs
  obtain⟨gn,hgn⟩:=nM (Ay p s side)
  rw[hgn]at HGO HGN HEQ1 HEQ3
  obtain⟨mk,hmk2⟩:=nM (markOf s (3 - side))
  rw[hmk2]at HGO HGN HMK⊢
  obtain⟨low,hlow⟩:=nM (Bq s)
  rw[hlow]at HEQ2⊢
  obtain⟨C,hC⟩:=nM (A3 p side (startJ p) l)
  rw[hC]at HCE HFIT HEQ1 HEQ2 HEQ3⊢
  obtain⟨OUT,hOUT⟩:=nM (C.filter (Bx p s side C))
  rw[hOUT]at HEQ1 HEQ2⊢
  have HGS:Hid (∀i,i<l.length->((((PK p (startJ p) l i).2.2.length<N.length/\N.getD (PK p (startJ p) l i).2.2.length 0=(i:Int))/\(PK p (startJ p) l (i+1)).2.2.length=(PK p (startJ p) l i).2.2.length+1/\CK p side (startJ p) l (i+1)=CK p side (startJ p) l i/\(PK p (startJ p) l (i+1)).1.seq=(PK p (startJ p) l i).1.seq)\/
    ((¬(PK p (startJ p) l i).2.2.length<N.length\/((PK p (startJ p) l i).2.2.length<N.length/\N.getD (PK p (startJ p) l i).2.2.length 0≠(i:Int)))/\(PK p (startJ p) l (i+1)).2.2.length=(PK p (startJ p) l i).2.2.length/\
      (((l.getD i default).kind=2/\CK p side (startJ p) l (i+1)=CK p side (startJ p) l i/\(PK p (startJ p) l (i+1)).1.seq=(PK p (startJ p) l i).1.seq)\/
       ((l.getD i default).kind=1/\pl.AV p (l.getD i default).side (l.getD i default).row=0/\CK p side (startJ p) l (i+1)=CK p side (startJ p) l i++BJ p side (l.getD i default) (PK p (startJ p) l i).1.seq/\(PK p (startJ p) l (i+1)).1.seq=(PK p (startJ p) l i).1.seq+1))))):=fun i hi=>by
    have:=(HST.out i hi).one
    rw[hNN]at this
    exact this
  obtain⟨kI,hkI⟩:∃z:Nat->Nat,(fun i=>(PK p (startJ p) l i).2.2.length)=z:=⟨_,rfl⟩
  have hkI':∀i,(PK p (startJ p) l i).2.2.length=kI i:=fun i=>by rw[<-hkI]
  obtain⟨sq,hsq⟩:∃z:Nat->Int,(fun i=>(PK p (startJ p) l i).1.seq)=z:=⟨_,rfl⟩
  have hsq':∀i,(PK p (startJ p) l i).1.seq=sq i:=fun i=>by rw[<-hsq]
  obtain⟨cK,hcK⟩:∃z:Nat->List Ent,CK p side (startJ p) l=z:=⟨_,rfl⟩
  simp only[hkI',hsq',hcK]at HGS HSQ HK0 HCE HKL HFK
  obtain⟨n,hn⟩:=nM l.length
  have HN:Hid (l.length=n):=hn
  rw[hn]at HGS HSQ HCE HKL HFK hl⊢
  obtain⟨m,hm⟩:=nM N.length
  have HM:Hid (N.length=m):=hm
  rw[hm]at HGS⊢
  unfold pl.As at KK KG⊢
  clear hw hp hv hN hS hNN hg hmk hOUT hmk2 hlow hC hgn hkI hkI' hsq hsq' hcK hn hm HST hcame hpe HG2
  go_enter Tryz.func25,Tryz.ntmps25
  go_upto_region 4 with fail
  generalize hV:(World.alloc w _)=V
  have hb0:Bwz w V:=by rw[<-hV];exact(Below.refl _ _).alloc (Nat.le_refl _) _
  have HB:Hid (BB V w.heap.size p x):=by
    subst hV
    exact CH ..
  clear hV
  have HVV:Hid (DH V la l xs):=Ef HV.out hb0
  have HNV:Hid (pl.A4 V na N):=pl.At HNA.out hb0
  go_loopw [13,14,15,16,17,18,19,20,21] (fun o k q j _ _ _ _ _ wr=> ∃(i:Nat) (ems:List EM),i<=n/\j= .int .i64 i/\k= .int .i64 (kI i:Nat)/\q= .int .i64 (sq i)/\GL V wr o ems ((cK i).filter fun y=>decide (gn<y.time))) (fun _ _ _ j _ _ _ _ _ _=>n - (intOf j).toNat)
  case atStart=>exact⟨0,[],Nat.zero_le _,rfl,by rw[HK0.out.1];rfl,by rw[HK0.out.2.1],by rw[HK0.out.2.2];exact TJ _⟩
  case round=>
    obtain⟨i,ems,hin,rfl,rfl,rfl,hgl⟩:=hrel
    have hnx:Bwz V wr:=hgl.bl
    have bwr:Bwz w wr:=hb0.trans (hnx.mono hb0.size)
    have HGL:Hid (GL V wr u13 ems ((cK i).filter fun y=>decide (gn<y.time))):=hgl
    clear hgl
    by_cases hlt:i<n
    · have hq:=HSQ.out i hin
      have hkl:=HKL.out i hin
      have i1:(0:Int)<=(i:Int):=by omega
      have i2:(i:Int)<(n:Int):=by omega
      obtain⟨kk,hkk⟩:=nM (kI i)
      obtain⟨qq,hqq⟩:=nM (sq i)
      have hst:=HGS.out i hlt
      rw[hkk]at hkl hst⊢
      rw[hqq]at hq hst⊢
      clear hkk hqq
      have wk1:IntKind.i64.wrap ((kk:Int)+1)=(kk:Int)+1:=by rw[ch.Bu];omega
      have wq1:IntKind.i64.wrap (qq+1)=qq+1:=by rw[ch.Bu];omega
      have wq2:IntKind.i64.wrap (qq+1 - 1)=qq:=by rw[ch.Bu];omega
      have wq3:IntKind.i64.wrap qq=qq:=by rw[ch.Bu];omega
      rcases hst with⟨⟨h1,h2⟩,h3,h4,h5⟩|⟨h1,h3,h4⟩
      · -- it is passed over
        obtain⟨nb,no,en,c1⟩:=HNV.out kk (by rw[HM.out];exact h1)
        subst en
        rw[h2]at c1
        have d1:=cell_later hnx c1
        have k1:(0:Int)<=(kk:Int):=by omega
        have k2:(kk:Int)<(m:Int):=by omega
        have KN:Hid (kI (i+1)=kk+1):=h3
        have SN:Hid (sq (i+1)=qq):=h5
        have HG3:Hid (GL V wr u13 ems ((cK (i+1)).filter fun y=>decide (gn<y.time))):=by rw[h4];exact HGL.out
        clear h1 h2 h3 h4 h5 c1 HGL
        go_wp2
        go_roundw
        case rel=>exact⟨i+1,ems,by omega,by go_num,by rw[KN.out];go_num,by rw[SN.out],HG3.out⟩
        case measure=>simp[intOf];omega
      · have KN:Hid (kI (i+1)=kk):=h3
        have h6:¬(kk:Int)<(m:Int)\/((0:Int)<=(kk:Int)/\(kk:Int)<(m:Int)/\∃nb no z,na=some ⟨nb,no,none⟩/\wr.cell? ⟨nb,no+kk,none⟩=some (.int .i64 z)/\(z==(i:Int))=false):=by
          rcases h1 with h|⟨h,h'⟩
          · exact .inl (by omega)
          · obtain⟨nb,no,en,c1⟩:=HNV.out kk (by rw[HM.out];exact h)
            exact .inr ⟨by omega,by omega,nb,no,_,en,cell_later hnx c1,by simpa using h'⟩
        obtain⟨eb,eo,ee,e0,e1,e2,e3,e4⟩:=HVV.out i (by rw[HN.out];exact hlt)
        subst ee
        obtain⟨ev,hev⟩:=nM (l.getD i default)
        obtain⟨rx,hrx⟩:=nM (xs.getD i (none,0))
        obtain⟨b',o',eq',_,_,_,_,e4w⟩:=HV.out i (by rw[HN.out];exact hlt)
        rw[hev]at e0 e1 e2 e3 e4 e4w h4
        rw[hrx]at e3 e4 e4w
        obtain⟨ekd,esd,etm,erw⟩:=ev
        obtain⟨ra,rc⟩:=rx
        dsimp only at e0 e1 e2 e3 e4 e4w h4
        have g0:=cell_later hnx e0
        have g1:=cell_later hnx e1
        have g2:=cell_later hnx e2
        have g3:=cell_later hnx e3
        clear e0 e1 eq' hev hrx h1 h3
        rcases h4 with⟨rfl,h4,h5⟩|⟨rfl,h7,h4,h5⟩
        · -- a mark
          have SN:Hid (sq (i+1)=qq):=h5
          have HG3:Hid (GL V wr u13 ems ((cK (i+1)).filter fun y=>decide (gn<y.time))):=by rw[h4];exact HGL.out
          clear h4 h5 HGL e2 e3 e4 e4w
          rcases h6 with h6|⟨k1,k2,nb,no,z,rfl,d1,d2⟩
          · go_wp2
            go_roundw
            case rel=>exact⟨i+1,ems,by omega,by go_num,by rw[KN.out],by rw[SN.out],HG3.out⟩
            case measure=>simp[intOf];omega
          · go_wp2
            go_roundw
            case rel=>exact⟨i+1,ems,by omega,by go_num,by rw[KN.out],by rw[SN.out],HG3.out⟩
            case measure=>simp[intOf];omega
        · have SN:Hid (sq (i+1)=qq+1):=h5
          by_cases hsd:esd=side
          · have hse:side=esd:=hsd.symm
            subst hse
            have HKK:Hid (∀w1,Bwz w w1->Calls Tryz.prog 56 #[pl.As p x,.int .i64 side,.slice ra erw.length rc] w1 fun e w'=>e= .returned (.tuple #[.string (pl.Am p side erw),.bool (pl.hasB p side erw),.int .i64 0])/\Bwz w1 w'):=fun w1 hb=>by
              have:=KK.out ra rc erw w1 hb e4w.row e4w.wf e4w.len
              rw[h7]at this
              exact this
            have HER:Hid (ER V ⟨pl.Am p side erw,etm,qq,(ra,erw.length,rc),false⟩ (Ly p side ⟨1,side,etm,erw⟩ qq)):=⟨rfl,rfl,rfl,rfl,rfl,e4.row⟩
            have HBR:Hid (BJ p side ⟨1,side,etm,erw⟩ qq=if pl.hasB p side erw=true then [Ly p side ⟨1,side,etm,erw⟩ qq]else []):=by
              show BJ _ _ _ _=_
              unfold BJ
              by_cases hh:pl.hasB p side erw=true
              · rw[if_pos hh,if_pos ⟨show(1:Int)≠2 by decide,rfl,hh⟩]
              · rw[if_neg hh,if_neg (fun k=>hh k.2.2)]
            have HCN:Hid (cK (i+1)=cK i++BJ p side ⟨1,side,etm,erw⟩ qq):=h4
            have HTM:Hid ((Ly p side ⟨1,side,etm,erw⟩ qq).time=etm):=rfl
            have helen:ems.length<=120:=by
              rw[HGL.out.ers.1]
              exact Nat.le_trans (List.length_filter_le ..) hkl.1
            obtain⟨ent,hent⟩:=nM (Ly p side ⟨1,side,etm,erw⟩ qq)
            rw[hent]at HER HBR HTM
            obtain⟨kb,hkb⟩:=nM (pl.Am p side erw)
            obtain⟨hb',hhb⟩:=nM (pl.hasB p side erw)
            obtain⟨rl,hrl⟩:=nM erw.length
            rw[hkb,hhb,hrl]at HKK
            rw[hkb,hrl]at HER
            rw[hhb]at HBR
            rw[hrl]at g3 e3
            clear h4 h5 h7 e4 e4w hent hkb hhb hrl
            obtain⟨v0,v1,v2,v3,v4,v5,v6,v7,v8,v9,v10,v11,v12⟩:=Al HB.out hnx
            have SE:Hid (∀w',Bwz V w'->w'.cell? ⟨eb,eo+i * 4+1+1,none⟩=some (.int .i64 etm)/\w'.cell? ⟨eb,eo+i * 4+1+1+1,none⟩=some (.slice ra rl rc)):=fun w' hz=>⟨cell_later hz e2,cell_later hz e3⟩
            clear e2 e3
            have SK:Hid (∀w',Bwz wr w'->w'.cell? ⟨w.heap.size,0,none⟩=some (.int .i64 p.kind)/\w'.cell? ⟨w.heap.size,1,none⟩=some (.int .i64 p.mode)/\w'.cell? ⟨w.heap.size,2,none⟩=some (.int .i64 p.low)/\w'.cell? ⟨w.heap.size,3,none⟩=some (.int .i64 p.high)/\w'.cell? ⟨w.heap.size,4,none⟩=some (.int .i64 p.size)/\w'.cell? ⟨w.heap.size,5,none⟩=some (.int .i64 p.limit)/\w'.cell? ⟨w.heap.size,6,none⟩=some (.slice x.l p.left.length x.lc)/\w'.cell? ⟨w.heap.size,7,none⟩=some (.slice x.r p.right.length x.rc)/\w'.cell? ⟨w.heap.size,8,none⟩=some (.slice x.lk p.lkeys.length x.lkc)/\w'.cell? ⟨w.heap.size,9,none⟩=some (.slice x.rk p.rkeys.length x.rkc)/\w'.cell? ⟨w.heap.size,10,none⟩=some (.bool p.grouped)/\w'.cell? ⟨w.heap.size,11,none⟩=some (.slice x.g p.group.length x.gc)/\w'.cell? ⟨w.heap.size,12,none⟩=some (.slice x.a p.aggs.length x.ac)/\w'.cell? ⟨eb,eo+i * 4+1+1+1,none⟩=some (.slice ra rl rc)):=fun w' hz=>⟨cell_later hz v0,cell_later hz v1,cell_later hz v2,cell_later hz v3,cell_later hz v4,cell_later hz v5,cell_later hz v6,cell_later hz v7,cell_later hz v8,cell_later hz v9,cell_later hz v10,cell_later hz v11,cell_later hz v12,cell_later hz g3⟩
            rcases h6 with h6|⟨k1,k2,nb,no,z,rfl,d1,d2⟩
            all_goals
              go_upto_region 11 with fail
              refine gr.B8 (S:=fun w'=>w'.cell? ⟨w.heap.size,0,none⟩=some (.int .i64 p.kind)/\w'.cell? ⟨w.heap.size,1,none⟩=some (.int .i64 p.mode)/\w'.cell? ⟨w.heap.size,2,none⟩=some (.int .i64 p.low)/\w'.cell? ⟨w.heap.size,3,none⟩=some (.int .i64 p.high)/\w'.cell? ⟨w.heap.size,4,none⟩=some (.int .i64 p.size)/\w'.cell? ⟨w.heap.size,5,none⟩=some (.int .i64 p.limit)/\w'.cell? ⟨w.heap.size,6,none⟩=some (.slice x.l p.left.length x.lc)/\w'.cell? ⟨w.heap.size,7,none⟩=some (.slice x.r p.right.length x.rc)/\w'.cell? ⟨w.heap.size,8,none⟩=some (.slice x.lk p.lkeys.length x.lkc)/\w'.cell? ⟨w.heap.size,9,none⟩=some (.slice x.rk p.rkeys.length x.rkc)/\w'.cell? ⟨w.heap.size,10,none⟩=some (.bool p.grouped)/\w'.cell? ⟨w.heap.size,11,none⟩=some (.slice x.g p.group.length x.gc)/\w'.cell? ⟨w.heap.size,12,none⟩=some (.slice x.a p.aggs.length x.ac)/\w'.cell? ⟨eb,eo+i * 4+1+1+1,none⟩=some (.slice ra rl rc)) 15 rfl hmx (SK.out _ (Below.refl _ _).drew) ?_
              intro hHeld
              refine gr.Ag 0 (some 62) hHeld ?_
              refine gr.Ag 1 (some 63) hHeld ?_
              refine gr.Ag 2 (some 64) hHeld ?_
              refine gr.Ag 3 (some 65) hHeld ?_
              refine gr.Ag 4 (some 66) hHeld ?_
              refine gr.Ag 5 (some 67) hHeld ?_
              refine gr.Ag 6 (some 68) hHeld ?_
              refine wpAnyH_ready (rs:=[7]) (by kernel_rfl) (by simp) ?_
              refine AllReadyH.cons rfl (fun K hK=>?_) AllReadyH.nil
              go_simp
              go_at_call 56
              refine(HKK.out _ bwr.drew).mono ?_
              rintro e X ⟨rfl,hbn⟩
              have hy:Bwz wr X:=(Below.refl _ _).drew.trans hbn
              go_wp2_with fail
              refine hK.out _ _ (SK.out _ hy) (fun hHeld=>?_)
              clear hK K
              try simp only[Act.put,List.setIfInBounds_toArray,List.set_cons_zero,List.set_cons_succ]
              refine gr.Ag 8 (some 61) hHeld ?_
              refine gr.Ag 9 (some 70) hHeld ?_
              refine gr.Ag 10 (some 71) hHeld ?_
              refine gr.Ag 11 (some 72) hHeld ?_
              refine gr.Ag 12 (some 17) hHeld ?_
              refine gr.Ag 13 (some 18) hHeld ?_
              refine gr.Ag 14 (some 19) hHeld ?_
              refine wpAnyH_done (by kernel_rfl) ?_ _
              have bwX:Bwz w X:=bwr.trans (hy.mono bwr.size)
              have hnX:Bwz V X:=hnx.trans (hy.mono hnx.size)
              replace v0:=cell_later hy v0
              replace v1:=cell_later hy v1
              replace v2:=cell_later hy v2
              replace v3:=cell_later hy v3
              replace v4:=cell_later hy v4
              replace v5:=cell_later hy v5
              replace v6:=cell_later hy v6
              replace v7:=cell_later hy v7
              replace v8:=cell_later hy v8
              replace v9:=cell_later hy v9
              replace v10:=cell_later hy v10
              replace v11:=cell_later hy v11
              replace v12:=cell_later hy v12
              replace g0:=cell_later hy g0
              replace g1:=cell_later hy g1
              replace g2:=cell_later hy g2
              replace g3:=cell_later hy g3
              by_cases hmk:mk=noMark
              · have hgn:=HGN.out hmk
                have hkp:decide (gn<etm)=true\/hb'=false:=by
                  cases hb' with
                  |false=>exact .inr rfl
                  | true=>
                    refine .inl (decide_eq_true ?_)
                    have hin2:ent∈cK (i+1):=by rw[HCN.out,HBR.out,if_pos rfl];exact List.mem_append.2 (.inr (List.mem_singleton.2 rfl))
                    have:=HFK.out (i+1) (by omega) ent hin2
                    rw[HTM.out]at this
                    have:=(tm.CI _).1 this
                    have e9:noMark= -1099511627777:=rfl
                    omega
                have e9:mk= -1099511627777:=hmk
                subst e9
                clear hmk hgn
                have hx1:(if (-1099511627776:Int)> -1099511627777 then(-1099511627776:Int)else -1099511627777)= -1099511627776:=by decide
                have hx2:max (-1099511627777:Int) (-1099511627776)= -1099511627776:=by decide
                go_wp2_with fail
                (with_reducible refine(KG.out (-1099511627776) X (by decide) bwX).mono ?_)
                rintro e Y ⟨rfl,hbY⟩
                obtain⟨gq,hgq⟩:=nM (pl.F6 p side (-1099511627776))
                rw[hgq]
                clear hgq
                have bwY:Bwz w Y:=bwX.trans (hbY.mono bwX.size)
                have hnY:Bwz V Y:=hnX.trans (hbY.mono hnX.size)
                have HGY:Hid (GL V Y u13 ems ((cK i).filter fun y=>decide (gn<y.time))):=HGL.out.below (hy.trans (hbY.mono hy.size))
                clear v0 v1 v2 v3 v4 v5 v6 v7 v8 v9 v10 v11 v12
                replace g0:=cell_later hbY g0
                replace g1:=cell_later hbY g1
                replace g2:=cell_later hbY g2
                replace g3:=cell_later hbY g3
                cases hb' with
                | false=>
                  have HF:Hid ((cK (i+1)).filter (fun y=>decide (gn<y.time))=(cK i).filter fun y=>decide (gn<y.time)):=by
                    show _=_
                    rw[HCN.out,HBR.out,if_neg (by decide),List.append_nil]
                  go_wp2
                  go_roundw
                  case rel=>exact⟨i+1,ems,by omega,by go_num,by rw[KN.out],by rw[SN.out],by rw[HF.out];exact HGY.out⟩
                  case measure=>simp[intOf];omega
                | true=>
                  have hkp':decide (gn<etm)=true:=hkp.resolve_right (by decide)
                  have HF:Hid ((cK (i+1)).filter (fun y=>decide (gn<y.time))=((cK i).filter fun y=>decide (gn<y.time))++[ent]):=by
                    show _=_
                    rw[HCN.out,HBR.out,if_pos rfl,List.filter_append,List.filter_cons_of_pos (by rw[HTM.out];exact hkp'),List.filter_nil]
                  clear hkp hkp'
                  
                  go_upto_region 14 with fail
                  refine gr.B8 (S:=fun w'=>w'.cell? ⟨eb,eo+i * 4+1+1,none⟩=some (.int .i64 etm)/\w'.cell? ⟨eb,eo+i * 4+1+1+1,none⟩=some (.slice ra rl rc)) 18 rfl hmx (SE.out _ hnY.drew) ?_
                  intro hHeld
                  refine gr.Ag 0 (some 104) hHeld ?_
                  refine gr.Ag 1 (some 105) hHeld ?_
                  refine gr.Ag 2 (some 106) hHeld ?_
                  refine gr.Ag 3 (some 107) hHeld ?_
                  refine gr.Ag 4 (some 108) hHeld ?_
                  refine gr.Ag 5 (some 109) hHeld ?_
                  refine gr.Ag 6 (some 110) hHeld ?_
                  refine gr.Ag 7 (some 111) hHeld ?_
                  refine gr.Ag 8 (some 112) hHeld ?_
                  refine gr.Ag 9 (some 113) hHeld ?_
                  refine gr.Ag 10 (some 114) hHeld ?_
                  refine gr.Ag 11 (some 115) hHeld ?_
                  refine gr.Ag 12 (some 116) hHeld ?_
                  refine gr.Ag 13 (some 117) hHeld ?_
                  refine gr.Ag 14 (some 118) hHeld ?_
                  refine wpAnyH_ready (rs:=[15]) (by kernel_rfl) (by simp) ?_
                  refine AllReadyH.cons rfl (fun K hK=>?_) AllReadyH.nil
                  go_simp
                  refine hK.out _ _ (SE.out _ (hnY.drew.alloc hnY.drew.size _)) (fun hHeld=>?_)
                  clear hK K
                  try simp only[Act.put,List.setIfInBounds_toArray,List.set_cons_zero,List.set_cons_succ]
                  refine wpAnyH_ready (rs:=[16]) (by kernel_rfl) (by simp) ?_
                  refine AllReadyH.cons rfl (fun K hK=>?_) AllReadyH.nil
                  refine Io (by rfl) (.tmp 104) (.tmp 119) (by rfl) V.heap.size u13 ems kb etm qq ra rl rc false Y.drew ems.length (HGY.out.below (Below.refl _ _).drew).own (by omega) hnY.drew.size (by simp[Act.eval,Act.put]) (by simp[Act.eval,Act.put]) ?_
                  intro g10 c10 w10 hown10 hgrow10 hat10 hlt10
                  have hb10:Bwz V w10:=(hnY.drew.alloc hnY.drew.size _).grown hgrow10 (Nat.le_trans hnY.drew.size (by simp)) (fun c hc=>(ch.AG HGY.out.own hc).1)
                  refine hK.out _ _ (SE.out _ hb10) (fun hHeld=>?_)
                  clear hK K
                  try simp only[Act.put,List.setIfInBounds_toArray,List.set_cons_zero,List.set_cons_succ]
                  refine gr.Ag 17 (some 13) hHeld ?_
                  refine wpAnyH_done (by kernel_rfl) ?_ _
                  go_wp2
                  go_roundw
                  case rel=>exact⟨i+1,_,by omega,by go_num,by rw[KN.out],by rw[SN.out],by rw[HF.out];exact HGY.out.snoc (e:=⟨kb,etm,qq,(ra,rl,rc),false⟩) HER.out hown10 hb10⟩
                  case measure=>simp[intOf];omega
              · have hmk2:mk≠ -1099511627777:=hmk
                have hmk':(mk != -1099511627777)=true:=by simpa using hmk2
                clear hmk2
                have hft:=HMK.out hmk
                have hft':=(tm.CI _).1 hft
                have hx1:=Xb mk hft'.1
                have hx2:=Xc mk hft'.1
                have hgo:=HGO.out hmk
                clear hmk
                go_wp2_with fail
                (with_reducible refine(KG.out mk X hft bwX).mono ?_)
                rintro e Y ⟨rfl,hbY⟩
                rw[<-hgo]
                clear hgo hft hft' hx1 hx2
                have bwY:Bwz w Y:=bwX.trans (hbY.mono bwX.size)
                have hnY:Bwz V Y:=hnX.trans (hbY.mono hnX.size)
                have HGY:Hid (GL V Y u13 ems ((cK i).filter fun y=>decide (gn<y.time))):=HGL.out.below (hy.trans (hbY.mono hy.size))
                clear v0 v1 v2 v3 v4 v5 v6 v7 v8 v9 v10 v11 v12
                replace g0:=cell_later hbY g0
                replace g1:=cell_later hbY g1
                replace g2:=cell_later hbY g2
                replace g3:=cell_later hbY g3
                cases hb' with
                | false=>
                  have HF:Hid ((cK (i+1)).filter (fun y=>decide (gn<y.time))=(cK i).filter fun y=>decide (gn<y.time)):=by
                    show _=_
                    rw[HCN.out,HBR.out,if_neg (by decide),List.append_nil]
                  go_wp2
                  go_roundw
                  case rel=>exact⟨i+1,ems,by omega,by go_num,by rw[KN.out],by rw[SN.out],by rw[HF.out];exact HGY.out⟩
                  case measure=>simp[intOf];omega
                | true=>
                  by_cases hti:etm<=gn
                  · have HF:Hid ((cK (i+1)).filter (fun y=>decide (gn<y.time))=(cK i).filter fun y=>decide (gn<y.time)):=by
                      show _=_
                      rw[HCN.out,HBR.out,if_pos rfl,List.filter_append,List.filter_cons_of_neg (by rw[HTM.out];simpa using hti),List.filter_nil,List.append_nil]
                    go_wp2
                    go_roundw
                    case rel=>exact⟨i+1,ems,by omega,by go_num,by rw[KN.out],by rw[SN.out],by rw[HF.out];exact HGY.out⟩
                    case measure=>simp[intOf];omega
                  · have HF:Hid ((cK (i+1)).filter (fun y=>decide (gn<y.time))=((cK i).filter fun y=>decide (gn<y.time))++[ent]):=by
                      show _=_
                      rw[HCN.out,HBR.out,if_pos rfl,List.filter_append,List.filter_cons_of_pos (by rw[HTM.out];simpa using hti),List.filter_nil]
                    
                    go_upto_region 14 with fail
                    refine gr.B8 (S:=fun w'=>w'.cell? ⟨eb,eo+i * 4+1+1,none⟩=some (.int .i64 etm)/\w'.cell? ⟨eb,eo+i * 4+1+1+1,none⟩=some (.slice ra rl rc)) 18 rfl hmx (SE.out _ hnY.drew) ?_
                    intro hHeld
                    refine gr.Ag 0 (some 104) hHeld ?_
                    refine gr.Ag 1 (some 105) hHeld ?_
                    refine gr.Ag 2 (some 106) hHeld ?_
                    refine gr.Ag 3 (some 107) hHeld ?_
                    refine gr.Ag 4 (some 108) hHeld ?_
                    refine gr.Ag 5 (some 109) hHeld ?_
                    refine gr.Ag 6 (some 110) hHeld ?_
                    refine gr.Ag 7 (some 111) hHeld ?_
                    refine gr.Ag 8 (some 112) hHeld ?_
                    refine gr.Ag 9 (some 113) hHeld ?_
                    refine gr.Ag 10 (some 114) hHeld ?_
                    refine gr.Ag 11 (some 115) hHeld ?_
                    refine gr.Ag 12 (some 116) hHeld ?_
                    refine gr.Ag 13 (some 117) hHeld ?_
                    refine gr.Ag 14 (some 118) hHeld ?_
                    refine wpAnyH_ready (rs:=[15]) (by kernel_rfl) (by simp) ?_
                    refine AllReadyH.cons rfl (fun K hK=>?_) AllReadyH.nil
                    go_simp
                    refine hK.out _ _ (SE.out _ (hnY.drew.alloc hnY.drew.size _)) (fun hHeld=>?_)
                    clear hK K
                    try simp only[Act.put,List.setIfInBounds_toArray,List.set_cons_zero,List.set_cons_succ]
                    refine wpAnyH_ready (rs:=[16]) (by kernel_rfl) (by simp) ?_
                    refine AllReadyH.cons rfl (fun K hK=>?_) AllReadyH.nil
                    refine Io (by rfl) (.tmp 104) (.tmp 119) (by rfl) V.heap.size u13 ems kb etm qq ra rl rc false Y.drew ems.length (HGY.out.below (Below.refl _ _).drew).own (by omega) hnY.drew.size (by simp[Act.eval,Act.put]) (by simp[Act.eval,Act.put]) ?_
                    intro g10 c10 w10 hown10 hgrow10 hat10 hlt10
                    have hb10:Bwz V w10:=(hnY.drew.alloc hnY.drew.size _).grown hgrow10 (Nat.le_trans hnY.drew.size (by simp)) (fun c hc=>(ch.AG HGY.out.own hc).1)
                    refine hK.out _ _ (SE.out _ hb10) (fun hHeld=>?_)
                    clear hK K
                    try simp only[Act.put,List.setIfInBounds_toArray,List.set_cons_zero,List.set_cons_succ]
                    refine gr.Ag 17 (some 13) hHeld ?_
                    refine wpAnyH_done (by kernel_rfl) ?_ _
                    go_wp2
                    go_roundw
                    case rel=>exact⟨i+1,_,by omega,by go_num,by rw[KN.out],by rw[SN.out],by rw[HF.out];exact HGY.out.snoc (e:=⟨kb,etm,qq,(ra,rl,rc),false⟩) HER.out hown10 hb10⟩
                    case measure=>simp[intOf];omega
          · -- a row of the other side
            have hsd':(esd !=side)=true:=by simpa using hsd
            have eb:BJ p side ⟨1,esd,etm,erw⟩ qq=[]:=if_neg (fun k=>hsd k.2.1)
            have HG3:Hid (GL V wr u13 ems ((cK (i+1)).filter fun y=>decide (gn<y.time))):=by rw[h4,eb,List.append_nil];exact HGL.out
            clear h4 h5 HGL e2 e3 e4 e4w eb hsd
            rcases h6 with h6|⟨k1,k2,nb,no,z,rfl,d1,d2⟩
            · go_wp2
              go_roundw
              case rel=>exact⟨i+1,ems,by omega,by go_num,by rw[KN.out],by rw[SN.out],HG3.out⟩
              case measure=>simp[intOf];omega
            · go_wp2
              go_roundw
              case rel=>exact⟨i+1,ems,by omega,by go_num,by rw[KN.out],by rw[SN.out],HG3.out⟩
              case measure=>simp[intOf];omega
    · have hie:i=n:=by omega
      subst hie
      obtain⟨oa,oc,hu13,hent⟩:=HGL.out.at
      have HCN:Hid (cK i=C):=HCE.out
      rw[HCN.out]at hu13 hent
      obtain⟨L,hL⟩:=nM (C.filter (fun y=>decide (gn<y.time)))
      rw[hL]at hu13 hent HEQ1 HEQ3
      have hL120:L.length<=120:=by
        rw[<-hL,<-HCN.out]
        exact Nat.le_trans (List.length_filter_le ..) (HKL.out i (Nat.le_refl _)).1
      have HENT:Hid (Cl wr oa L):=hent
      have v0:=(Al HB.out hnx).1
      clear hL HCE HGS HKL HFK HSQ HK0 hent HCN
      obtain⟨pk,hpk⟩:=nM p.kind
      rw[hpk]at v0 HEQ1 HEQ2 HEQ3
      clear hpk
      obtain⟨W1,hW1⟩:=nM wr
      rw[hW1]at HENT v0 bwr⊢
      clear hW1 hnx HGL
      subst hu13
      by_cases hk3:pk=3
      · subst hk3
        rcases hside with hs1|hs2
        · subst hs1
          have HO:Hid (OUT=L):=HEQ1.out (.inr rfl)
          clear HEQ1 HEQ2 HEQ3
          go_wp2
          go_ret
          exact⟨⟨oa,oc,by rw[HO.out];rfl,by rw[HO.out];exact HENT.out⟩,bwr⟩
        · subst hs2
          have HLC:Hid (L=C):=HEQ3.out (by trivial) (by trivial)
          have HO:Hid (OUT=L.filter fun y=> !Cc L low y):=by
            show _=_
            rw[HLC.out]
            exact HEQ2.out (by trivial) (by trivial)
          clear HEQ1 HEQ2 HEQ3 HLC
          obtain⟨n2,hn2⟩:=nM L.length
          have HN2:Hid (L.length=n2):=hn2
          rw[hn2]at hL120⊢
          clear hn2
          go_upto_region 19 with fail
          go_loopw [22,23,24,25] (fun o ii _ _ wr=> ∃(q:Nat) (ems:List EM),q<=n2/\ii= .int .i64 q/\GL W1 wr o ems ((L.take q).filter fun y=> !Cc L low y)) (fun _ ii _ _ _=>n2 - (intOf ii).toNat)
          case atStart=>exact⟨0,[],Nat.zero_le _,rfl,TJ _⟩
          case round=>
            obtain⟨i,ems,hin,rfl,hgl⟩:=hrel
            have hnq:Bwz W1 wr:=hgl.bl
            have HGL:Hid (GL W1 wr u22 ems ((L.take i).filter fun y=> !Cc L low y)):=hgl
            clear hgl
            by_cases hlt:i<n2
            · obtain⟨lb,lo,la2,lc2,el,y0,y1,y2,y3,y4,y5⟩:=HENT.out i (by rw[HN2.out];exact hlt)
              subst el
              obtain⟨yl,hyl⟩:=nM (L.getD i default)
              rw[hyl]at y0 y1 y2 y3 y4 y5
              have HFS:Hid ((L.take (i+1)).filter (fun y=> !Cc L low y)=((L.take i).filter fun y=> !Cc L low y)++(if (!Cc L low yl)=true then [yl]else [])):=by
                show _=_
                rw[L7 _ (by rw[HN2.out];exact hlt),hyl]
              have HOA:Hid (∀j,j<n2->Cc (L.take (j+1)) low yl=(Cc (L.take j) low yl||(decide ((L.getD j default).key=yl.key)&&decide ((L.getD j default).time<=low)&&decide (ltP yl (L.getD j default))))):=fun j hj=>TN (by rw[HN2.out];exact hj)
              have HOE:Hid (Cc (L.take n2) low yl=Cc L low yl):=by
                show _=_
                rw[<-HN2.out,List.take_length]
              have HYR:Hid (vl.rowAt W1 la2 yl.row):=y5
              obtain⟨lk,lt',ls',lr,lm⟩:=yl
              dsimp only at y0 y1 y2 y3 y4 HYR
              obtain⟨ll,hll⟩:=nM lr.length
              rw[hll]at y3
              have HLL:Hid (lr.length=ll):=hll
              have i1:(0:Int)<=(i:Int):=by omega
              have i2:(i:Int)<(n2:Int):=by omega
              obtain⟨oB,hoB⟩:∃z:Nat->Bool,(fun j=>Cc (L.take j) low ⟨lk,lt',ls',lr,lm⟩)=z:=⟨_,rfl⟩
              have hoB':∀j,Cc (L.take j) low ⟨lk,lt',ls',lr,lm⟩=oB j:=fun j=>by rw[<-hoB]
              have HO0:Hid (oB 0=false):=by
                show _=_
                rw[<-hoB' 0]
                rfl
              simp only[hoB']at HOA HOE
              clear hyl y5 hll hoB hoB'
              go_upto_region 23 with fail
              obtain⟨wq,hwq⟩:=nM wr
              rw[hwq]at hnq HGL⊢
              clear hwq
              go_loopw [24,25] (fun old jj wr=> ∃j:Nat,j<=n2/\jj= .int .i64 j/\old= .bool (oB j)/\Bwz wq wr) (fun _ jj _=>n2 - (intOf jj).toNat)
              case atStart=>exact⟨0,Nat.zero_le _,rfl,by rw[HO0.out],Below.refl _ _⟩
              case round=>
                obtain⟨j,hjn,rfl,rfl,hnz⟩:=hrel
                have hnx:Bwz W1 wr:=hnq.trans (hnz.mono hnq.size)
                by_cases hlt2:j<n2
                · obtain⟨ob,oo,aa,ac,ea,x0,x1,x2,x3,x4,x5⟩:=HENT.out j (by rw[HN2.out];exact hlt2)
                  cases ea
                  have HON:=HOA.out j hlt2
                  obtain⟨ya,hya⟩:=nM (L.getD j default)
                  rw[hya]at x0 x1 x2 x3 x4 HON
                  obtain⟨ak,at',as',ar,am⟩:=ya
                  dsimp only at x0 x1 x2 x3 x4 HON
                  obtain⟨al,hal⟩:=nM ar.length
                  rw[hal]at x3
                  have f0:=cell_later hnx x0
                  have f1:=cell_later hnx x1
                  have f2:=cell_later hnx x2
                  have f3:=cell_later hnx x3
                  have f4:=cell_later hnx x4
                  have f5:=cell_later hnx y0
                  have f6:=cell_later hnx y1
                  have f7:=cell_later hnx y2
                  have f8:=cell_later hnx y3
                  have f9:=cell_later hnx y4
                  have j1:(0:Int)<=(j:Int):=by omega
                  have j2:(j:Int)<(n2:Int):=by omega
                  have hlp:decide (ltP ⟨lk,lt',ls',lr,lm⟩ ⟨ak,at',as',ar,am⟩)=decide (Dj ⟨ak,at',as',[],am⟩ ⟨lk,lt',ls',[],lm⟩>0):=by
                    exact decide_eq_decide.2 (Vg (a:=⟨ak,at',as',[],am⟩) (b:=⟨lk,lt',ls',[],lm⟩)).symm
                  obtain⟨z,hz⟩:=nM (Dj ⟨ak,at',as',[],am⟩ ⟨lk,lt',ls',[],lm⟩)
                  rw[hlp,hz]at HON
                  have KC:Hid (∀w1,Calls Tryz.prog 55 #[.agg #[.string ak,.int .i64 at',.int .i64 as',.slice aa al ac,.bool am],.agg #[.string lk,.int .i64 lt',.int .i64 ls',.slice la2 ll lc2,.bool lm]] w1 fun e w'=>e= .returned (.int .i64 z)/\Bwz w1 w'):=fun w1=>by
                    have:=KCO.out ⟨ak,at',as',(aa,al,ac),am⟩ ⟨lk,lt',ls',(la2,ll,lc2),lm⟩ w1
                    unfold EM.ent at this
                    dsimp only at this
                    rw[hz]at this
                    exact this
                  have HON2:Hid (oB (j+1)=(oB j||(decide (ak=lk)&&decide (at'<=low)&&decide (z>0)))):=HON
                  clear x0 x1 x2 x3 x4 x5 hya hal hlp hz HON
                  cases hob:oB j with
                  | true=>
                    have HON:Hid (oB (j+1)=true):=by
                      show _=_
                      rw[HON2.out,hob,Bool.true_or]
                    clear hob HON2
                    go_upto_region 25 with fail
                    refine gr.B8 (S:=fun w'=>w'.cell? ⟨lb,lo+j * 5,none⟩=some (.string ak)/\w'.cell? ⟨lb,lo+j * 5+1,none⟩=some (.int .i64 at')/\w'.cell? ⟨lb,lo+j * 5+1+1,none⟩=some (.int .i64 as')/\w'.cell? ⟨lb,lo+j * 5+1+1+1,none⟩=some (.slice aa al ac)/\w'.cell? ⟨lb,lo+j * 5+1+1+1+1,none⟩=some (.bool am)/\w'.cell? ⟨lb,lo+i * 5,none⟩=some (.string lk)/\w'.cell? ⟨lb,lo+i * 5+1,none⟩=some (.int .i64 lt')/\w'.cell? ⟨lb,lo+i * 5+1+1,none⟩=some (.int .i64 ls')/\w'.cell? ⟨lb,lo+i * 5+1+1+1,none⟩=some (.slice la2 ll lc2)/\w'.cell? ⟨lb,lo+i * 5+1+1+1+1,none⟩=some (.bool lm)) 36 rfl hmx ⟨cell_later (Below.refl _ _).drew f0,cell_later (Below.refl _ _).drew f1,cell_later (Below.refl _ _).drew f2,cell_later (Below.refl _ _).drew f3,cell_later (Below.refl _ _).drew f4,cell_later (Below.refl _ _).drew f5,cell_later (Below.refl _ _).drew f6,cell_later (Below.refl _ _).drew f7,cell_later (Below.refl _ _).drew f8,cell_later (Below.refl _ _).drew f9⟩ ?_
                    intro hHeld
                    refine gr.Ag 0 (some 141) hHeld ?_
                    refine gr.Ag 1 (some 142) hHeld ?_
                    refine gr.A5 2 (some 143) hHeld ?_
                    refine gr.A5 3 (some 144) hHeld ?_
                    refine gr.A5 4 (some 145) hHeld ?_
                    refine gr.A5 5 (some 146) hHeld ?_
                    refine gr.A5 6 (some 147) hHeld ?_
                    refine gr.A5 7 (some 148) hHeld ?_
                    refine gr.A5 8 (some 149) hHeld ?_
                    refine gr.A5 9 (some 150) hHeld ?_
                    refine gr.A5 10 (some 151) hHeld ?_
                    refine gr.A5 11 (some 152) hHeld ?_
                    refine gr.A5 12 (some 153) hHeld ?_
                    refine gr.A5 13 (some 154) hHeld ?_
                    refine gr.A5 14 (some 155) hHeld ?_
                    refine gr.A5 15 (some 156) hHeld ?_
                    refine gr.A5 16 (some 157) hHeld ?_
                    refine gr.A5 17 (some 158) hHeld ?_
                    refine gr.A5 18 (some 159) hHeld ?_
                    refine gr.A5 19 (some 160) hHeld ?_
                    refine gr.A5 20 (some 161) hHeld ?_
                    refine gr.A5 21 (some 162) hHeld ?_
                    refine gr.A5 22 (some 163) hHeld ?_
                    refine gr.A5 23 (some 164) hHeld ?_
                    refine gr.A5 24 (some 165) hHeld ?_
                    refine gr.A5 25 (some 166) hHeld ?_
                    refine gr.A5 26 (some 167) hHeld ?_
                    refine gr.A5 27 (some 168) hHeld ?_
                    refine gr.A5 28 (some 169) hHeld ?_
                    refine gr.A5 29 (some 170) hHeld ?_
                    refine gr.A5 30 (some 171) hHeld ?_
                    refine gr.A5 31 (some 172) hHeld ?_
                    refine gr.A5 32 (some 173) hHeld ?_
                    refine gr.A5 33 (some 174) hHeld ?_
                    refine gr.Ag 34 (some 175) hHeld ?_
                    refine gr.Ag 35 (some 24) hHeld ?_
                    refine wpAnyH_done (by kernel_rfl) ?_ _
                    go_wp2
                    go_roundw
                    case rel=>exact⟨j+1,by omega,by go_num,by rw[HON.out],hnz.drew⟩
                    case measure=>simp[intOf];omega
                  | false=>
                    rw[hob,Bool.false_or]at HON2
                    clear hob
                    by_cases hkk:ak=lk
                    · have t1:(ak.toList==lk.toList)=true:=by rw[hkk];simp
                      by_cases htt:at'<=low
                      · have HON:Hid (oB (j+1)=decide (z>0)):=by
                          show _=_
                          rw[HON2.out,decide_eq_true htt,decide_eq_true hkk]
                          simp
                        clear HON2 hkk
                        go_upto_region 25 with fail
                        refine gr.B8 (S:=fun w'=>w'.cell? ⟨lb,lo+j * 5,none⟩=some (.string ak)/\w'.cell? ⟨lb,lo+j * 5+1,none⟩=some (.int .i64 at')/\w'.cell? ⟨lb,lo+j * 5+1+1,none⟩=some (.int .i64 as')/\w'.cell? ⟨lb,lo+j * 5+1+1+1,none⟩=some (.slice aa al ac)/\w'.cell? ⟨lb,lo+j * 5+1+1+1+1,none⟩=some (.bool am)/\w'.cell? ⟨lb,lo+i * 5,none⟩=some (.string lk)/\w'.cell? ⟨lb,lo+i * 5+1,none⟩=some (.int .i64 lt')/\w'.cell? ⟨lb,lo+i * 5+1+1,none⟩=some (.int .i64 ls')/\w'.cell? ⟨lb,lo+i * 5+1+1+1,none⟩=some (.slice la2 ll lc2)/\w'.cell? ⟨lb,lo+i * 5+1+1+1+1,none⟩=some (.bool lm)) 36 rfl hmx ⟨cell_later (Below.refl _ _).drew f0,cell_later (Below.refl _ _).drew f1,cell_later (Below.refl _ _).drew f2,cell_later (Below.refl _ _).drew f3,cell_later (Below.refl _ _).drew f4,cell_later (Below.refl _ _).drew f5,cell_later (Below.refl _ _).drew f6,cell_later (Below.refl _ _).drew f7,cell_later (Below.refl _ _).drew f8,cell_later (Below.refl _ _).drew f9⟩ ?_
                        intro hHeld
                        refine gr.Ag 0 (some 141) hHeld ?_
                        refine gr.Ag 1 (some 142) hHeld ?_
                        refine gr.Ag 2 (some 143) hHeld ?_
                        refine gr.Ag 3 (some 144) hHeld ?_
                        refine gr.Ag 4 (some 145) hHeld ?_
                        refine gr.Ag 5 (some 146) hHeld ?_
                        refine gr.Ag 6 (some 147) hHeld ?_
                        refine gr.Ag 7 (some 148) hHeld ?_
                        refine gr.Ag 8 (some 149) hHeld ?_
                        refine gr.Ag 9 (some 150) hHeld ?_
                        refine gr.Ag 10 (some 151) hHeld ?_
                        refine gr.Ag 11 (some 152) hHeld ?_
                        refine gr.Ag 12 (some 153) hHeld ?_
                        refine gr.Ag 13 (some 154) hHeld ?_
                        refine gr.Ag 14 (some 155) hHeld ?_
                        refine gr.Ag 15 (some 156) hHeld ?_
                        refine gr.Ag 16 (some 157) hHeld ?_
                        refine gr.Ag 17 (some 158) hHeld ?_
                        refine gr.Ag 18 (some 159) hHeld ?_
                        refine gr.Ag 19 (some 160) hHeld ?_
                        refine gr.Ag 20 (some 161) hHeld ?_
                        refine gr.Ag 21 (some 162) hHeld ?_
                        refine gr.Ag 22 (some 163) hHeld ?_
                        refine gr.Ag 23 (some 164) hHeld ?_
                        refine gr.Ag 24 (some 165) hHeld ?_
                        refine gr.Ag 25 (some 166) hHeld ?_
                        refine gr.Ag 26 (some 167) hHeld ?_
                        refine gr.Ag 27 (some 168) hHeld ?_
                        refine gr.Ag 28 (some 169) hHeld ?_
                        refine gr.Ag 29 (some 170) hHeld ?_
                        refine gr.Ag 30 (some 171) hHeld ?_
                        refine wpAnyH_ready (rs:=[31]) (by kernel_rfl) (by simp) ?_
                        refine AllReadyH.cons rfl (fun K hK=>?_) AllReadyH.nil
                        go_simp
                        go_at_call 55
                        refine(KC.out _).mono ?_
                        rintro e w4 ⟨rfl,hb4⟩
                        have hn4:Bwz W1 w4:=hnx.drew.trans (hb4.mono hnx.drew.size)
                        go_wp2_with fail
                        refine hK.out _ _ ⟨cell_later hb4 hHeld.1,cell_later hb4 hHeld.2.1,cell_later hb4 hHeld.2.2.1,cell_later hb4 hHeld.2.2.2.1,cell_later hb4 hHeld.2.2.2.2.1,cell_later hb4 hHeld.2.2.2.2.2.1,cell_later hb4 hHeld.2.2.2.2.2.2.1,cell_later hb4 hHeld.2.2.2.2.2.2.2.1,cell_later hb4 hHeld.2.2.2.2.2.2.2.2.1,cell_later hb4 hHeld.2.2.2.2.2.2.2.2.2⟩ (fun hHeld=>?_)
                        clear hK K
                        try simp only[Act.put,List.setIfInBounds_toArray,List.set_cons_zero,List.set_cons_succ]
                        refine gr.Ag 32 (some 173) hHeld ?_
                        refine gr.Ag 33 (some 174) hHeld ?_
                        refine gr.Ag 34 (some 175) hHeld ?_
                        refine gr.Ag 35 (some 24) hHeld ?_
                        refine wpAnyH_done (by kernel_rfl) ?_ _
                        go_wp2
                        go_roundw
                        case rel=>exact⟨j+1,by omega,by go_num,by rw[HON.out],hnz.drew.trans (hb4.mono hnz.drew.size)⟩
                        case measure=>simp[intOf];omega
                      · have HON:Hid (oB (j+1)=false):=by
                          show _=_
                          rw[HON2.out,decide_eq_false htt]
                          simp
                        clear HON2 hkk
                        go_upto_region 25 with fail
                        refine gr.B8 (S:=fun w'=>w'.cell? ⟨lb,lo+j * 5,none⟩=some (.string ak)/\w'.cell? ⟨lb,lo+j * 5+1,none⟩=some (.int .i64 at')/\w'.cell? ⟨lb,lo+j * 5+1+1,none⟩=some (.int .i64 as')/\w'.cell? ⟨lb,lo+j * 5+1+1+1,none⟩=some (.slice aa al ac)/\w'.cell? ⟨lb,lo+j * 5+1+1+1+1,none⟩=some (.bool am)/\w'.cell? ⟨lb,lo+i * 5,none⟩=some (.string lk)/\w'.cell? ⟨lb,lo+i * 5+1,none⟩=some (.int .i64 lt')/\w'.cell? ⟨lb,lo+i * 5+1+1,none⟩=some (.int .i64 ls')/\w'.cell? ⟨lb,lo+i * 5+1+1+1,none⟩=some (.slice la2 ll lc2)/\w'.cell? ⟨lb,lo+i * 5+1+1+1+1,none⟩=some (.bool lm)) 36 rfl hmx ⟨cell_later (Below.refl _ _).drew f0,cell_later (Below.refl _ _).drew f1,cell_later (Below.refl _ _).drew f2,cell_later (Below.refl _ _).drew f3,cell_later (Below.refl _ _).drew f4,cell_later (Below.refl _ _).drew f5,cell_later (Below.refl _ _).drew f6,cell_later (Below.refl _ _).drew f7,cell_later (Below.refl _ _).drew f8,cell_later (Below.refl _ _).drew f9⟩ ?_
                        intro hHeld
                        refine gr.Ag 0 (some 141) hHeld ?_
                        refine gr.Ag 1 (some 142) hHeld ?_
                        refine gr.Ag 2 (some 143) hHeld ?_
                        refine gr.Ag 3 (some 144) hHeld ?_
                        refine gr.Ag 4 (some 145) hHeld ?_
                        refine gr.Ag 5 (some 146) hHeld ?_
                        refine gr.Ag 6 (some 147) hHeld ?_
                        refine gr.Ag 7 (some 148) hHeld ?_
                        refine gr.Ag 8 (some 149) hHeld ?_
                        refine gr.Ag 9 (some 150) hHeld ?_
                        refine gr.Ag 10 (some 151) hHeld ?_
                        refine gr.Ag 11 (some 152) hHeld ?_
                        refine gr.Ag 12 (some 153) hHeld ?_
                        refine gr.Ag 13 (some 154) hHeld ?_
                        refine gr.Ag 14 (some 155) hHeld ?_
                        refine gr.Ag 15 (some 156) hHeld ?_
                        refine gr.Ag 16 (some 157) hHeld ?_
                        refine gr.Ag 17 (some 158) hHeld ?_
                        refine gr.Ag 18 (some 159) hHeld ?_
                        refine gr.Ag 19 (some 160) hHeld ?_
                        refine gr.Ag 20 (some 161) hHeld ?_
                        refine gr.Ag 21 (some 162) hHeld ?_
                        refine gr.Ag 22 (some 163) hHeld ?_
                        refine gr.A5 23 (some 164) hHeld ?_
                        refine gr.A5 24 (some 165) hHeld ?_
                        refine gr.A5 25 (some 166) hHeld ?_
                        refine gr.A5 26 (some 167) hHeld ?_
                        refine gr.A5 27 (some 168) hHeld ?_
                        refine gr.A5 28 (some 169) hHeld ?_
                        refine gr.A5 29 (some 170) hHeld ?_
                        refine gr.A5 30 (some 171) hHeld ?_
                        refine gr.A5 31 (some 172) hHeld ?_
                        refine gr.A5 32 (some 173) hHeld ?_
                        refine gr.Ag 33 (some 174) hHeld ?_
                        refine gr.Ag 34 (some 175) hHeld ?_
                        refine gr.Ag 35 (some 24) hHeld ?_
                        refine wpAnyH_done (by kernel_rfl) ?_ _
                        go_wp2
                        go_roundw
                        case rel=>exact⟨j+1,by omega,by go_num,by rw[HON.out],hnz.drew⟩
                        case measure=>simp[intOf];omega
                    · have t1:(ak.toList==lk.toList)=false:=by
                        have:=bytes_beq ak lk
                        rw[beq_eq_false_iff_ne]
                        intro e
                        rw[e]at this
                        exact hkk (by simpa using this.symm)
                      have HON:Hid (oB (j+1)=false):=by
                        show _=_
                        rw[HON2.out,decide_eq_false hkk]
                        simp
                      clear HON2 hkk
                      go_upto_region 25 with fail
                      refine gr.B8 (S:=fun w'=>w'.cell? ⟨lb,lo+j * 5,none⟩=some (.string ak)/\w'.cell? ⟨lb,lo+j * 5+1,none⟩=some (.int .i64 at')/\w'.cell? ⟨lb,lo+j * 5+1+1,none⟩=some (.int .i64 as')/\w'.cell? ⟨lb,lo+j * 5+1+1+1,none⟩=some (.slice aa al ac)/\w'.cell? ⟨lb,lo+j * 5+1+1+1+1,none⟩=some (.bool am)/\w'.cell? ⟨lb,lo+i * 5,none⟩=some (.string lk)/\w'.cell? ⟨lb,lo+i * 5+1,none⟩=some (.int .i64 lt')/\w'.cell? ⟨lb,lo+i * 5+1+1,none⟩=some (.int .i64 ls')/\w'.cell? ⟨lb,lo+i * 5+1+1+1,none⟩=some (.slice la2 ll lc2)/\w'.cell? ⟨lb,lo+i * 5+1+1+1+1,none⟩=some (.bool lm)) 36 rfl hmx ⟨cell_later (Below.refl _ _).drew f0,cell_later (Below.refl _ _).drew f1,cell_later (Below.refl _ _).drew f2,cell_later (Below.refl _ _).drew f3,cell_later (Below.refl _ _).drew f4,cell_later (Below.refl _ _).drew f5,cell_later (Below.refl _ _).drew f6,cell_later (Below.refl _ _).drew f7,cell_later (Below.refl _ _).drew f8,cell_later (Below.refl _ _).drew f9⟩ ?_
                      intro hHeld
                      refine gr.Ag 0 (some 141) hHeld ?_
                      refine gr.Ag 1 (some 142) hHeld ?_
                      refine gr.Ag 2 (some 143) hHeld ?_
                      refine gr.Ag 3 (some 144) hHeld ?_
                      refine gr.Ag 4 (some 145) hHeld ?_
                      refine gr.Ag 5 (some 146) hHeld ?_
                      refine gr.Ag 6 (some 147) hHeld ?_
                      refine gr.Ag 7 (some 148) hHeld ?_
                      refine gr.Ag 8 (some 149) hHeld ?_
                      refine gr.Ag 9 (some 150) hHeld ?_
                      refine gr.Ag 10 (some 151) hHeld ?_
                      refine gr.Ag 11 (some 152) hHeld ?_
                      refine gr.Ag 12 (some 153) hHeld ?_
                      refine gr.Ag 13 (some 154) hHeld ?_
                      refine gr.A5 14 (some 155) hHeld ?_
                      refine gr.A5 15 (some 156) hHeld ?_
                      refine gr.A5 16 (some 157) hHeld ?_
                      refine gr.A5 17 (some 158) hHeld ?_
                      refine gr.A5 18 (some 159) hHeld ?_
                      refine gr.A5 19 (some 160) hHeld ?_
                      refine gr.A5 20 (some 161) hHeld ?_
                      refine gr.Ag 21 (some 162) hHeld ?_
                      refine gr.Ag 22 (some 163) hHeld ?_
                      refine gr.A5 23 (some 164) hHeld ?_
                      refine gr.A5 24 (some 165) hHeld ?_
                      refine gr.A5 25 (some 166) hHeld ?_
                      refine gr.A5 26 (some 167) hHeld ?_
                      refine gr.A5 27 (some 168) hHeld ?_
                      refine gr.A5 28 (some 169) hHeld ?_
                      refine gr.A5 29 (some 170) hHeld ?_
                      refine gr.A5 30 (some 171) hHeld ?_
                      refine gr.A5 31 (some 172) hHeld ?_
                      refine gr.A5 32 (some 173) hHeld ?_
                      refine gr.Ag 33 (some 174) hHeld ?_
                      refine gr.Ag 34 (some 175) hHeld ?_
                      refine gr.Ag 35 (some 24) hHeld ?_
                      refine wpAnyH_done (by kernel_rfl) ?_ _
                      go_wp2
                      go_roundw
                      case rel=>exact⟨j+1,by omega,by go_num,by rw[HON.out],hnz.drew⟩
                      case measure=>simp[intOf];omega
                · have hje:j=n2:=by omega
                  subst hje
                  have HGZ:Hid (GL W1 wr u22 ems ((L.take i).filter fun y=> !Cc L low y)):=HGL.out.below hnz
                  have helen:ems.length<=120:=by
                    rw[HGL.out.ers.1]
                    have:=List.length_filter_le (fun y=> !Cc L low y) (L.take i)
                    rw[List.length_take]at this
                    omega
                  have HOE2:Hid (Cc L low ⟨lk,lt',ls',lr,lm⟩=oB j):=HOE.out.symm
                  have f5:=cell_later hnx y0
                  have f6:=cell_later hnx y1
                  have f7:=cell_later hnx y2
                  have f8:=cell_later hnx y3
                  have f9:=cell_later hnx y4
                  clear HOE HOA HO0 y0 y1 y2 y3 y4
                  cases hob:oB j with
                  | true=>
                    have HF:Hid ((L.take (i+1)).filter (fun y=> !Cc L low y)=(L.take i).filter fun y=> !Cc L low y):=by
                      show _=_
                      rw[HFS.out,HOE2.out,hob,if_neg (by decide),List.append_nil]
                    clear hob HFS HOE2
                    go_wp2
                    go_roundw
                    case rel=>exact⟨i+1,ems,by omega,by go_num,by rw[HF.out];exact HGZ.out⟩
                    case measure=>simp[intOf];omega
                  | false=>
                    have HF:Hid ((L.take (i+1)).filter (fun y=> !Cc L low y)=((L.take i).filter fun y=> !Cc L low y)++[⟨lk,lt',ls',lr,lm⟩]):=by
                      show _=_
                      rw[HFS.out,HOE2.out,hob,if_pos (by decide)]
                    clear hob HFS HOE2
                    go_wp2_with (at_builtin;refine Ex rfl (.tmp 178) (.tmp 183) rfl W1.heap.size u22 ems lk lt' ls' la2 ll lc2 lm wr ems.length rfl HGZ.out.own (by omega) hnx.size rfl rfl ?_;intro g10 c10 w10 hown10 hgrow10)
                    have hb10:Bwz W1 w10:=(hnx.alloc hnx.size _).grown hgrow10 (Nat.le_trans hnx.size (by simp)) (fun c hc=>(ch.AG HGZ.out.own hc).1)
                    go_roundw
                    case rel=>exact⟨i+1,_,by omega,by go_num,by rw[HF.out];exact HGZ.out.snoc (e:=⟨lk,lt',ls',(la2,ll,lc2),lm⟩) ⟨rfl,rfl,rfl,rfl,HLL.out.symm,HYR.out⟩ hown10 hb10⟩
                    case measure=>simp[intOf];omega
            · have hie:i=n2:=by omega
              subst hie
              obtain⟨ra9,rc9,hu22,hent⟩:=HGL.out.at
              have ht:L.take i=L:=by rw[<-HN2.out,List.take_length]
              rw[ht,<-HO.out]at hu22 hent
              have HE9:Hid (Cl wr ra9 OUT):=hent
              subst hu22
              clear hent HGL
              go_wp2
              go_ret
              exact⟨⟨ra9,rc9,rfl,HE9.out⟩,bwr.trans (hnq.mono bwr.size)⟩
      · have hk3':(pk !=3)=true:=by simpa using hk3
        have HO:Hid (OUT=L):=HEQ1.out (.inl hk3)
        clear HEQ1 HEQ2 HEQ3
        go_wp2
        go_ret
        exact⟨⟨oa,oc,by rw[HO.out];rfl,by rw[HO.out];exact HENT.out⟩,bwr⟩
end jn
end Go.Proofs.YtdohnkkbkfhphaaGreat
