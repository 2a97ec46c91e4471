import Derived.Test.YtdohnkkbkfhphaaGreatPc32
set_option linter.all false
set_option maxHeartbeats 16000000
set_option maxRecDepth 100000
namespace Go.Proofs.YtdohnkkbkfhphaaGreat
open Go.Proofs.Tryz
namespace jn
open Go.ChangeShapes Go.WideShapes Go.ChangeAt Go.RowKit
open vl bf
attribute [local go_sem] Oper.semAt_some
theorem WZ(b:Nat)(p:pl.Pln)(x:pl.PA)(s:Jn)(y:JX)(v:Ev)(ra:Option Addr)(rc:Nat)(w0 w:World)(h:JSt w0 w b 143 p x s y (.slice none 0 0) [])(hg:goodJ p s)(hc:comeJ p s v)(hs1:v.side=2)(hv:vl.rowAt w0 ra v.row):
 Calls Tryz.prog 283 #[.pointer (some ⟨b,0,none⟩),Bz p v ra rc] w fun e w'=>e= .returned (.tuple #[])/\∃y' t' L',JSt w0 w' b 143 p x (A3 s 1 (Cp ((Dx p s v).map (·.seq)) s.L)) y' t' L'/\L'.map CO.chg=Ge p s v/\Bs 143 w w':=by
 have hT:calmC 143:=⟨⟨by decide,by decide,by decide⟩,by decide⟩
 have HJ:Hid (JSt w0 w b 143 p x s y (.slice none 0 0) []):=h
 have eb:Am s (3 - v.side)=s.L:=by rw[hs1];rfl
 have ex:Bv y (3 - v.side)=y.l:=by rw[hs1];rfl
 have hsm:=DJ hc.err
 have hp:=(pl.C7 hc.err).1
 have hwfR:∀z∈Ab s.R,wfE z/\wfP (Ay z):=fun z hz=>hg.wf z (List.mem_append.2 (.inr hz))
 have hwfL:∀z∈Ab s.L,wfE z/\wfP (Ay z):=fun z hz=>hg.wf z (List.mem_append.2 (.inl hz))
 have KSc:Hid (∀w1,Bwz w w1->CTz 273 #[AN s.R y.r,.string (pl.Aq p v.side v.row),.int .i64 (-1099511627776),.int .i64 1099511627776] w1 fun e w'=>(∃(hh:Hdr) (es':List EM),e= .returned (.tuple #[hdV hh,.int .i64 0])/\OE w' w1.heap.size (hdV hh) es' (Fd p s v))/\Bwz w1 w'):=fun w1 hb=>(Sd s.R y.r _ (-1099511627776) 1099511627776 w1 (Ai h.r.at hb) hwfR (by have:=hg.ok.R.all;omega) (Ds hg.ok.R)).mono (by
  rintro e w' ⟨⟨hh,es',l',rfl,hp,hby,ho⟩,hb'⟩
  rw[Ru hg.ok.R hp hby]at ho
  exact⟨⟨hh,es',rfl,ho⟩,hb'⟩)
 have KW:Hid (∀w1,Bwz w w1->CTz 266 #[.pointer (some ⟨b,0,none⟩),Bz p v ra rc,.int .i64 v.time,.int .i64 1099511627776] w1 fun e w'=>(∃hh es,e= .returned (hdV hh)/\OE w' w1.heap.size (hdV hh) es (BC p s v v.time 1099511627776))/\Bwz w1 w'):=fun w1 hb=>FD b p x s y _ v ra rc v.time 1099511627776 w1 hc.side (HJ.out.below hb).box (by rw[eb,ex];exact(HJ.out.below hb).l.at) (by rw[eb];exact hg.ok.L) (by rw[eb];exact hwfL)
 have KJ:=hIz (fun(q:List Cel) (qa:Option Addr) (qc:Nat) (w1:World) (h1:0<q.length) (h2:q.length<=400) (hb:Bwz w0 w1) (hq:vl.rowAt w1 qa q)=>CL v.side ra qa rc qc v.row q w1 hsm.1 h1 hsm.2 h2 (vl.Ac hv hb) hq)
 have KA:=hIz (fun(q:List Cel) (qa:Option Addr) (qc:Nat) (w1:World) (h1:0<q.length) (h2:q.length<=400) (hb:Br w1 b p x) (hq:vl.rowAt w1 qa q)=>Gc b p x 1 qa qc q w1 hp (by decide) hb hq h1 h2)
 have KP:=hIz (fun(w1:World)=>IG p.mode 1 w1)
 have HWS:Hid ((BC p s v v.time 1099511627776).length<=4096/\(∀k,k<(BC p s v v.time 1099511627776).length->(0<((BC p s v v.time 1099511627776).getD k default).row.length/\((BC p s v v.time 1099511627776).getD k default).row.length<=400))/\∀z∈BC p s v v.time 1099511627776,pl.i64 z.seq):=⟨Hn (by rw[eb];exact hg.ok.L),fun k hk=>DJ (ED hg (GN hc.side).1 (Ho (A1 hk))),fun z hz=>(hwfL z (by have:=Ho hz;rw[eb]at this;exact this)).2.seq⟩
 have HVS:Hid ((Fd p s v).length<=4096/\(∀k,k<(Fd p s v).length->(0<((Fd p s v).getD k default).row.length/\((Fd p s v).getD k default).row.length<=400))/\MY (Fd p s v)):=by
  have hin:∀z∈Fd p s v,z∈Ab s.R:=fun z hz=>by unfold Fd CB at hz;exact(List.mem_filter.1 ((Bu _).mem_iff.1 hz)).1
  refine⟨?_,fun k hk=>DJ (ED hg (side:=2) (by decide) (hin _ (A1 hk))),WP _ _ _ _⟩
  unfold Fd CB
  rw[(Bu _).length_eq]
  exact Nat.le_trans (List.length_filter_le ..) hg.ok.R.all
 have HI:Hid (okB (Am s 1)/\∀z∈Ab (Am s 1),pl.i64 z.seq):=⟨hg.ok.L,fun z hz=>(hwfL z hz).2.seq⟩
 have HNM:Hid (Dx p s v=(BC p s v v.time 1099511627776).filter (FA (Fd p s v) v.time)):=SG hs1
 have HNT:Hid (Ge p s v=(Dx p s v).flatMap (Ji p v (Fd p s v))):=rfl
 have HTV:Hid (∀vs e,Ji p v vs e=match Hw vs e with
  |some o=>[⟨3,AW 1 e.row o.row⟩,⟨4,AW v.side v.row e.row⟩]
  |none=>if Co p.mode 1=true then [⟨3,AQ p 1 e.row⟩,⟨4,AW v.side v.row e.row⟩]else [⟨1,AW v.side v.row e.row⟩]):=fun vs e=>rfl
 have pm:=h.box.plan.2.1
 have lb:=h.box.lt
 obtain⟨HC0,HC1,HC2⟩:=Ek h.box.join 2
 have eb2:At 2=3:=rfl
 have e22:Am s 2=s.R:=rfl
 have e32:Bv y 2=y.r:=rfl
 rw[eb2,e22]at HC0
 rw[eb2,e32]at HC1 HC2
 obtain⟨WS,hWS⟩:=nM (BC p s v v.time 1099511627776)
 obtain⟨VS,hVS⟩:=nM (Fd p s v)
 obtain⟨NT,hNT⟩:=nM (Ge p s v)
 rw[hWS]at KW HWS HNM
 rw[hVS]at KSc HVS HNM HNT
 rw[hNT]at HNT⊢
 rw[HNM.out]at HNT⊢
 unfold Bz at KW⊢
 obtain⟨kb,h1⟩:=nM (pl.Aq p v.side v.row)
 obtain⟨kh,h2⟩:=nM (pl.hasB p v.side v.row)
 obtain⟨rl,hrl⟩:=nM v.row.length
 obtain⟨c2b,hc2⟩:=nM (Co p.mode 1)
 obtain⟨md,hmd⟩:=nM p.mode
 have HMD:Hid (p.mode=md):=hmd
 rw[hc2]at KP HTV
 rw[hmd]at KP pm
 rw[h1,h2,hrl]at KW⊢
 rw[h1]at KSc
 rw[hrl]at KJ
 obtain⟨sd,hsd⟩:=nM v.side
 obtain⟨tm',htm⟩:=nM v.time
 rw[hsd]at KW KJ HTV⊢
 rw[htm]at KW HNT⊢
 obtain⟨yr,hyr⟩:=nM y.r
 rw[hyr]at KSc HC1 HC2
 obtain⟨ra',rc',⟨⟨m1,m2,m3⟩,ml0⟩,rs⟩:=yr
 obtain⟨lim,hlim⟩:=nM s.R.lim
 unfold AN hdV at KSc
 dsimp only at KSc HC1 HC2
 rw[hlim]at KSc HC0
 obtain⟨n,hn⟩:=nM rs.length
 rw[hn]at KSc HC2
 clear h hg hc hv hsm hp hwfL hwfR eb ex hWS hVS hNT h1 h2 hrl hc2 hmd hsd htm hs1 eb2 e22 e32 hyr hlim hn HNM
 go_enter func283,ntmps283
 go_wp2
 generalize hV:(World.alloc w _)=V
 have hb0:Bwz w V:=by rw[<-hV];exact bR.alloc nR _
 have s0:V.cell? ⟨w.heap.size,0,none⟩=some (.int .i64 sd):=by subst hV;go_simp
 have s1:V.cell? ⟨w.heap.size,1,none⟩=some (.int .i64 tm'):=by subst hV;go_simp
 have s2:V.cell? ⟨w.heap.size,2,none⟩=some (.slice ra rl rc):=by subst hV;go_simp
 have s3:V.cell? ⟨w.heap.size,3,none⟩=some (.string kb):=by subst hV;go_simp
 have s4:V.cell? ⟨w.heap.size,4,none⟩=some (.bool kh):=by subst hV;go_simp
 have HTV0:Hid (Ar V w.heap.size 92):=by subst hV;exact⟨_,_,World.alloc_heap_new w _⟩
 replace HC0:=cLz hb0 HC0
 replace HC1:=cLz hb0 HC1
 replace HC2:=cLz hb0 HC2
 clear hV
 have SK:Hid (∀w',Bwz V w'->w'.cell? ⟨w.heap.size,0,none⟩=some (.int .i64 sd)/\w'.cell? ⟨w.heap.size,1,none⟩=some (.int .i64 tm')/\w'.cell? ⟨w.heap.size,2,none⟩=some (.slice ra rl rc)/\w'.cell? ⟨w.heap.size,3,none⟩=some (.string kb)/\w'.cell? ⟨w.heap.size,4,none⟩=some (.bool kh)):=fun w' hz=>⟨cLz hz s0,cLz hz s1,cLz hz s2,cLz hz s3,cLz hz s4⟩
 go_region_held3 (fun w'=>w'.cell? ⟨w.heap.size,3,none⟩=some (.string kb)/\w'.cell? ⟨b,16,none⟩=some (.int .i64 lim)/\w'.cell? ⟨b,16+1,none⟩=some (.slice m1 m2 m3)/\w'.cell? ⟨b,16+1+1,none⟩=some (.slice ra' n rc')) (first|exact⟨cLz hy s3,cLz hy HC0,cLz hy HC1,cLz hy HC2⟩|exact⟨s3,HC0,HC1,HC2⟩|go_keep)
  (first
   |(go_at_call 273;refine(KSc.out _ hb0.drew).mono ?_;rintro e X1 ⟨⟨vh,vs,rfl,hov⟩,hbn⟩;have hy:Bwz V X1:=bR.drew.trans hbn;have HOV1:Hid (OE X1 V.heap.size (.slice vh.1 vh.2.1 vh.2.2) vs VS):=hov;clear hov;obtain⟨n1,n2,n3⟩:=vh;dsimp only at HOV1⊢))
 go_wp2
 have hyV:=hy
 go_region_held3 (fun w'=>w'.cell? ⟨w.heap.size,0,none⟩=some (.int .i64 sd)/\w'.cell? ⟨w.heap.size,1,none⟩=some (.int .i64 tm')/\w'.cell? ⟨w.heap.size,2,none⟩=some (.slice ra rl rc)/\w'.cell? ⟨w.heap.size,3,none⟩=some (.string kb)/\w'.cell? ⟨w.heap.size,4,none⟩=some (.bool kh)) (first|exact SK.out _ hyX|exact SK.out _ hyV.drew|go_keep)
  (first
   |(go_at_call 266;refine(KW.out _ (hb0.trans (hyV.mono hb0.size)).drew).mono ?_;rintro e X ⟨⟨wh,es,rfl,how⟩,hbn2⟩;have hyX1:Bwz X1 X:=bR.drew.trans hbn2;have hyX:Bwz V X:=hyV.trans (hyX1.mono hyV.size);have HOW0:Hid (OE X X1.heap.size (hdV wh) es WS):=how;clear how;obtain⟨g1,g2,g3⟩:=wh;unfold hdV;dsimp only))
 have HGE:Hid (g2=WS.length):=by
  show _=_
  rw[<-HOW0.out.len];exact(Cv (p:=((g1,g2,g3),es)) HOW0.out).1.1
 have HVE:Hid (n2=VS.length):=by
  show _=_
  rw[<-HOV1.out.len];exact(Cv (p:=((n1,n2,n3),vs)) HOV1.out).1.1
 have hbX:Bwz w X:=hb0.trans (hyX.mono hb0.size)
 have HJX:Hid (JSt w0 X b 143 p x s y (.slice none 0 0) []):=HJ.out.below hbX
 have HOV:Hid (OE X V.heap.size (.slice n1 n2 n3) vs VS):=HOV1.out.below hyX1
 have HOW:Hid (OE X X1.heap.size (.slice g1 g2 g3) es WS):=HOW0.out
 have c0:=cLz hyX s0
 have c1:=cLz hyX s1
 have c2:=cLz hyX s2
 have HTX:Hid (Ar X w.heap.size 92):=Ah HTV0.out hyX
 have hg4:g2<=4096:=by rw[HGE.out];exact HWS.out.1
 have hn4:n2<=4096:=by rw[HVE.out];exact HVS.out.1
 have lX:b<X.heap.size:=HJX.out.box.lt
 clear s0 s1 s2 s3 s4 SK KW KSc HC0 HC1 HC2 HOV1 HOW0 hy hyV
 go_wp2
 go_loopw [6,31] (fun mv i wr=> ∃(k:Nat) (t':Value) (L':List CO) (ems:List EM),k<=g2/\i= .int .i64 k/\Hid (JSt w0 wr b 143 p x s y t' L')/\Hid (L'.map CO.chg=((WS.take k).filter (FA VS tm')).flatMap (Ji p v VS))/\L'.length<=2 * k/\Hid (BA 143 X wr)/\Hid (MetL X wr mv ems ((WS.take k).filter (FA VS tm')))) (fun _ i _=>g2 - (intOf i).toNat)
 case atStart=>exact⟨0,_,[],[],Nat.zero_le _,rfl,HJX.out,rfl,Nat.le_refl _,BA.refl _ _,⟨World.ownsRow_nil _ _ _ _,rfl,fun k hk=>absurd hk (Nat.not_lt_zero k)⟩⟩
 case round=>
  obtain⟨k,t',L',ems,hk,rfl,HJR,HLC,hll,HKT,HML⟩:=hrel
  by_cases hlt:k<g2
  ·have hkl:k<WS.length:=by rw[<-HGE.out];exact hlt
   have HWR:Hid (OE wr X1.heap.size (.slice g1 g2 g3) es WS):=HKT.out.oe hT HOW.out
   obtain⟨gb,off,ea,x1,x2,x3,x4,x5⟩:=(Cv (p:=((g1,g2,g3),es)) HWR.out).2 k (by rw[HWR.out.len];exact hkl)
   dsimp only at ea
   subst ea
   have her:=HWR.out.ers.2 k hkl
   have hes:=HWS.out.2.1 k hkl
   have HFS0:=SH (FA VS tm') hkl
   have HTE0:=HTV.out VS (WS.getD k default)
   have HER5:Hid (∀w1,BA 143 X w1->vl.rowAt w1 (es.getD k default).row.1 (WS.getD k default).row):=fun w1 hk1=>((hk1.oe hT HOW.out).ers.2 k hkl).row
   obtain⟨E,hE⟩:=nM (WS.getD k default)
   rw[hE]at her hes HFS0 HTE0 HER5
   obtain⟨⟨ek,et,es1,⟨r1,r2,r3⟩,em⟩,hz⟩:∃z,es.getD k default=z:=⟨_,rfl⟩
   rw[hz]at x1 x2 x3 x4 x5 her HER5
   unfold hdV at x4
   dsimp only at x1 x2 x3 x4 x5 HER5
   have HSE:Hid (es1=E.seq):=her.seq
   have htime:et=E.time:=her.time
   have hrr:r2=E.row.length:=her.len
   have KU:Hid (∀w1,Bwz wr w1->CTz 284 #[.slice n1 n2 n3,.int .i64 et] w1 fun e w'=>(∃q:Nat,q<=n2/\e= .returned (.slice n1 q n3)/\Hw VS E=(VS.take q).getLast?)/\Bwz w1 w'):=fun w1 hb=>(U9 n1 n2 n3 vs VS et V.heap.size w1 ((HKT.out.oe hT HOV.out).below hb) HVE.out hn4 HVS.out.2.2).mono (by
    rintro e w' ⟨⟨q,hq,rfl,hf⟩,hb'⟩
    refine⟨⟨q,hq,rfl,?_⟩,hb'⟩
    unfold Hw
    rw[hf,htime])
   have KJk:Hid (∀w1,Bwz w0 w1->vl.rowAt w1 r1 E.row->CTz 267 #[.int .i64 sd,.slice ra rl rc,.slice r1 r2 r3] w1 fun e w'=>(∃ad cap,e= .returned (.slice ad (AW sd v.row E.row).length cap)/\AA w' w1.heap.size (.slice ad (AW sd v.row E.row).length cap) (AW sd v.row E.row))/\Bwz w1 w'):=fun w1 hb hq=>by rw[hrr];exact KJ.out E.row r1 r3 w1 hes.1 hes.2 hb hq
   have KAk:Hid (∀w1,Br w1 b p x->vl.rowAt w1 r1 E.row->CTz 270 #[.pointer (some ⟨b,0,none⟩),.int .i64 1,.slice r1 r2 r3] w1 fun e w'=>(∃ad cap,e= .returned (.slice ad (AQ p 1 E.row).length cap)/\AA w' w1.heap.size (.slice ad (AQ p 1 E.row).length cap) (AQ p 1 E.row))/\Bwz w1 w'):=fun w1 hb hq=>by rw[hrr];exact KA.out E.row r1 r3 w1 hes.1 hes.2 hb hq
   have KJo:Hid (∀(q:List Cel) (qa:Option Addr) (qc:Nat) w1,0<q.length->q.length<=400->vl.rowAt w1 r1 E.row->vl.rowAt w1 qa q->CTz 267 #[.int .i64 1,.slice r1 r2 r3,.slice qa q.length qc] w1 fun e w'=>(∃ad cap,e= .returned (.slice ad (AW 1 E.row q).length cap)/\AA w' w1.heap.size (.slice ad (AW 1 E.row q).length cap) (AW 1 E.row q))/\Bwz w1 w'):=fun q qa qc w1 h1 h2 hb hq=>by rw[hrr];exact CL 1 r1 qa r3 qc E.row q w1 hes.1 h1 hes.2 h2 hb hq
   have i1:(0:Int)<=(k:Int):=by omega
   have i2:(k:Int)<(g2:Int):=by omega
   obtain⟨JR,hJR⟩:=nM (AW sd v.row E.row)
   rw[hJR]at KJk HTE0
   obtain⟨jn,hjn⟩:=nM JR.length
   rw[hjn]at KJk
   obtain⟨ML,hML⟩:=nM ((WS.take k).filter (FA VS tm'))
   rw[hML]at HML HLC HFS0
   obtain⟨mn,hmn⟩:=nM ems.length
   have HMN:Hid (ems.length=mn):=hmn
   have hmk:mn<=4096:=by
    rw[<-hmn,HML.out.len,<-hML]
    have:=List.length_filter_le (FA VS tm') (WS.take k)
    rw[List.length_take]at this
    omega
   have HFS:Hid ((WS.take (k+1)).filter (FA VS tm')=ML++if FA VS tm' E=true then [E]else []):=HFS0
   have HTE:Hid (Ji p v VS E=match Hw VS E with
    |some o=>[⟨3,AW 1 E.row o.row⟩,⟨4,JR⟩]
    |none=>if c2b=true then [⟨3,AQ p 1 E.row⟩,⟨4,JR⟩]else [⟨1,JR⟩]):=HTE0
   have hnl6:L'.length<=1000000:=by omega
   have lwr:X.heap.size<=wr.heap.size:=HKT.out.1.size
   have b1:=HKT.out.cell HTX.out (by decide) (by decide) c1
   clear her hes hE hz htime hrr hJR hjn hML hmn HTE0 HFS0
   go_upto_region 7 with(go_at_call 284;refine(KU.out _ (bR.alloc nR _)).mono ?_;rintro e W4 ⟨⟨q,hq,rfl,hold⟩,hb4⟩;have HOLD:Hid (Hw VS E=(VS.take q).getLast?):=hold;have hb40:Bwz wr W4:=(bR.alloc nR _).trans (hb4.mono (by simp));have zz0:=cLz hb4 (show(World.alloc wr (.cells #[.string ek,.int .i64 et,.int .i64 es1,.slice r1 r2 r3,.bool em] 63)).cell? ⟨wr.heap.size,0,none⟩=some (.string ek) by go_simp);have zz1:=cLz hb4 (show(World.alloc wr (.cells #[.string ek,.int .i64 et,.int .i64 es1,.slice r1 r2 r3,.bool em] 63)).cell? ⟨wr.heap.size,1,none⟩=some (.int .i64 et) by go_simp);have zz2:=cLz hb4 (show(World.alloc wr (.cells #[.string ek,.int .i64 et,.int .i64 es1,.slice r1 r2 r3,.bool em] 63)).cell? ⟨wr.heap.size,2,none⟩=some (.int .i64 es1) by go_simp);have zz3:=cLz hb4 (show(World.alloc wr (.cells #[.string ek,.int .i64 et,.int .i64 es1,.slice r1 r2 r3,.bool em] 63)).cell? ⟨wr.heap.size,3,none⟩=some (.slice r1 r2 r3) by go_simp);have zz4:=cLz hb4 (show(World.alloc wr (.cells #[.string ek,.int .i64 et,.int .i64 es1,.slice r1 r2 r3,.bool em] 63)).cell? ⟨wr.heap.size,4,none⟩=some (.bool em) by go_simp);have ZT4:Hid (Ar W4 wr.heap.size 63):=Ah ⟨_,_,World.alloc_heap_new wr _⟩ hb4;clear hold)
   by_cases hq0:q=0
   ·subst hq0
    have HON:Hid (Hw VS E=none):=by show _=_;rw[HOLD.out];rfl
    have HNB:Hid (FA VS tm' E=true):=by show _=_;unfold FA;rw[HON.out]
    have HFS2:Hid ((WS.take (k+1)).filter (FA VS tm')=ML++[E]):=by show _=_;rw[HFS.out,HNB.out,if_pos rfl]
    have HTE3:Hid (Ji p v VS E=if c2b=true then [⟨3,AQ p 1 E.row⟩,⟨4,JR⟩]else [⟨1,JR⟩]):=by show _=_;rw[HTE.out,HON.out]
    refine gr.BI 15 rfl (by kernel_rfl) (S:=fun w'=>True) trivial (fun hHz=>?_)
    refine tkz 0 39 hHz ?_;refine tkz 1 40 hHz ?_;refine tkz 2 41 hHz ?_;refine tkz 3 42 hHz ?_;refine sk 4 43 hHz ?_;refine sk 5 44 hHz ?_;refine sk 6 45 hHz ?_;refine sk 7 46 hHz ?_;refine sk 8 47 hHz ?_;refine sk 9 48 hHz ?_;refine sk 10 49 hHz ?_;refine sk 11 50 hHz ?_;refine sk 12 51 hHz ?_;refine sk 13 52 hHz ?_;refine tkz 14 53 hHz ?_
    refine wpAnyH_done (by kernel_rfl) ?_ _
    have hdr:Bwz W4 W4.drew:=bR.drew
    generalize hW5:W4.drew=W5 at hdr⊢
    have hb5:Bwz wr W5:=hb40.trans (hdr.mono hb40.size)
    replace zz0:=cLz hdr zz0
    replace zz1:=cLz hdr zz1
    replace zz2:=cLz hdr zz2
    replace zz3:=cLz hdr zz3
    replace zz4:=cLz hdr zz4
    replace ZT4:Hid (Ar W5 wr.heap.size 63):=Ah ZT4.out hdr
    have HJ4:Hid (JSt w0 W5 b 143 p x s y t' L'):=HJR.out.below hb5
    have HK4:Hid (BA 143 X W5):=HKT.out.trans (Bw hb5)
    have HM4:Hid (MetL X W5 u6 ems ML):=HML.out.below hb5
    have HOM:Hid (W5.ownsRow X.heap.size 63 5 u6 mn (An ems)):=by
     have:=HM4.out.own
     rw[HMN.out]at this
     exact this
    have HRR:Hid (∀g,u6.ownBlock=some g->X.heap.size<=g/\Ar W5 g 63):=fun g hg=>⟨(AD HOM.out hg).1,A8 HOM.out hg⟩
    have HRQ:Hid (∀g,u6.ownBlock=some g->g≠wr.heap.size):=fun g hg e=>by
     have:=(AD HML.out.own hg).2
     omega
    have l5:X.heap.size<=W5.heap.size:=HK4.out.1.size
    have lz5:wr.heap.size<W5.heap.size:=bLt _ _ zz0
    clear hW5 hdr
    cases c2b with
    |true=>
     replace HTE3:Hid (Ji p v VS E=[⟨3,AQ p 1 E.row⟩,⟨4,JR⟩]):=by show _=_;rw[HTE3.out,if_pos rfl]
     obtain⟨AR,hAR⟩:=nM (AQ p 1 E.row)
     rw[hAR]at KAk HTE3
     obtain⟨an,han⟩:=nM AR.length
     rw[han]at KAk
     clear hAR han
     go_wp2_with (first
      |(at_builtin;refine FK rfl (.tmp 54) (.tmp 56) rfl X.heap.size u6 ems ek et es1 r1 r2 r3 em W5 mn HMN.out HOM.out (by omega) (by omega) rfl rfl ?_;intro g cap2 w5 hx5 hg5;have HST5:=Kn HJX.out hT HJ4.out HK4.out hg5 HRR.out;have HJ5:Hid (JSt w0 w5 b 143 p x s y t' L'):=HST5.1;have HK5:Hid (BA 143 X w5):=HST5.2;have HME:Hid (MetL X w5 (.slice (some ⟨g,0,none⟩) (mn+1) cap2) (ems++[⟨ek,et,es1,(r1,r2,r3),em⟩]) (ML++[E])):=MetL.snoc HM4.out HSE.out (by rw[HMN.out];exact hx5);have z3:=GP hg5 HRQ.out zz3;have HZT:Hid (Ar w5 wr.heap.size 63):=Kq hg5 HRQ.out ZT4.out;have k0:=HK5.out.cell HTX.out (by decide) (by decide) c0;have k2:=HK5.out.cell HTX.out (by decide) (by decide) c2;have pm5:w5.cell? ⟨b,1,none⟩=some (.int .i64 md):=(by rw[<-HMD.out];exact HJ5.out.box.plan.2.1);have HBW:Hid (Bwz w0 w5):=HJ5.out.bl;have HRW5:Hid (vl.rowAt w5 r1 E.row):=HER5.out w5 HK5.out;clear HST5 hx5 hg5)
      |(go_at_call 267;(with_reducible refine(KJk.out _ HBW.out HRW5.out).mono ?_);rintro e w6 ⟨⟨ad,cap,rfl,ho6⟩,hb6⟩;have z36:=cLz hb6 z3;have pm6:=cLz hb6 pm5;have HZ6:Hid (Ar w6 wr.heap.size 63):=Ah HZT.out hb6)
      |(go_at_call 268;refine(KP.out _).mono ?_;rintro e w6 ⟨rfl,rfl⟩))
     have HMR:Hid (∀w',BA 143 w5 w'->MetL X w' (.slice (some ⟨g,0,none⟩) (mn+1) cap2) (ems++[⟨ek,et,es1,(r1,r2,r3),em⟩]) (ML++[E])):=fun w' hk=>HME.out.keep hT hk
     have HBP:Hid (∀w1,Bwz w6 w1->Br w1 b p x/\vl.rowAt w1 r1 E.row):=fun w1 hb=>⟨Aj HJ5.out.box.plan (hb6.trans (hb.mono hb6.size)),vl.Ac HRW5.out (hb6.trans (hb.mono hb6.size))⟩
     go_region_held3 (fun w'=>w'.cell? ⟨wr.heap.size,3,none⟩=some (.slice r1 r2 r3)) (first|exact hyy|go_keep)
      (first
       |(go_at_call 269;refine(MP HJ5.out hT hnl6 hb6 ho6 hb7 ho7).mono ?_;rintro e w8 ⟨rfl,t8,hj8,hk8⟩;have hyy:w8.cell? ⟨wr.heap.size,3,none⟩=some (.slice r1 r2 r3):=hk8.cell (Ah HZ6.out hb7) (by decide) (by decide) (cLz hb7 z36))
       |(go_at_call 270;refine(KAk.out _ (HBP.out _ bR.drew).1 (HBP.out _ bR.drew).2).mono ?_;rintro e w7 ⟨⟨ad7,cap7,rfl,ho70⟩,hb70⟩;have hb7:Bwz w6 w7:=bR.drew.trans hb70;have ho7:AA w7 w6.heap.size (.slice ad7 an cap7) AR:=ho70;have hyy:w7.cell? ⟨wr.heap.size,3,none⟩=some (.slice r1 r2 r3):=cLz hb7 z36))
     all_goals
      go_wp2
      go_roundw
      (case rel=>exact⟨k+1,t8,_,_,by omega,by go_num,hj8,by show _=_;rw[List.map_append,HLC.out,HFS2.out,List.flatMap_append,Ko,HTE3.out];rfl,by rw[lAp];show _+2<=_;omega,HK5.out.trans ((Bw (hb6.trans (hb7.mono hb6.size))).trans hk8),by rw[HFS2.out];exact HMR.out _ ((Bw (hb6.trans (hb7.mono hb6.size))).trans hk8)⟩)
      (case measure=>simp[intOf];omega)
    |false=>
     replace HTE3:Hid (Ji p v VS E=[⟨1,JR⟩]):=by show _=_;rw[HTE3.out,if_neg (by simp)]
     go_wp2_with (first
      |(at_builtin;refine FK rfl (.tmp 54) (.tmp 56) rfl X.heap.size u6 ems ek et es1 r1 r2 r3 em W5 mn HMN.out HOM.out (by omega) (by omega) rfl rfl ?_;intro g cap2 w5 hx5 hg5;have HST5:=Kn HJX.out hT HJ4.out HK4.out hg5 HRR.out;have HJ5:Hid (JSt w0 w5 b 143 p x s y t' L'):=HST5.1;have HK5:Hid (BA 143 X w5):=HST5.2;have HME:Hid (MetL X w5 (.slice (some ⟨g,0,none⟩) (mn+1) cap2) (ems++[⟨ek,et,es1,(r1,r2,r3),em⟩]) (ML++[E])):=MetL.snoc HM4.out HSE.out (by rw[HMN.out];exact hx5);have z3:=GP hg5 HRQ.out zz3;have HZT:Hid (Ar w5 wr.heap.size 63):=Kq hg5 HRQ.out ZT4.out;have k0:=HK5.out.cell HTX.out (by decide) (by decide) c0;have k2:=HK5.out.cell HTX.out (by decide) (by decide) c2;have pm5:w5.cell? ⟨b,1,none⟩=some (.int .i64 md):=(by rw[<-HMD.out];exact HJ5.out.box.plan.2.1);have HBW:Hid (Bwz w0 w5):=HJ5.out.bl;have HRW5:Hid (vl.rowAt w5 r1 E.row):=HER5.out w5 HK5.out;clear HST5 hx5 hg5)
      |(go_at_call 267;(with_reducible refine(KJk.out _ HBW.out HRW5.out).mono ?_);rintro e w6 ⟨⟨ad,cap,rfl,ho6⟩,hb6⟩;have z36:=cLz hb6 z3;have pm6:=cLz hb6 pm5;have HZ6:Hid (Ar w6 wr.heap.size 63):=Ah HZT.out hb6)
      |(go_at_call 268;refine(KP.out _).mono ?_;rintro e w6 ⟨rfl,rfl⟩)
      |(go_at_call 271;refine(Eh HJ5.out hT hnl6 hb6 ho6).mono ?_;rintro e w8 ⟨rfl,t8,hj8,hk8⟩))
     have HMR:Hid (∀w',BA 143 w5 w'->MetL X w' (.slice (some ⟨g,0,none⟩) (mn+1) cap2) (ems++[⟨ek,et,es1,(r1,r2,r3),em⟩]) (ML++[E])):=fun w' hk=>HME.out.keep hT hk
     go_roundw
     (case rel=>exact⟨k+1,t8,_,_,by omega,by go_num,hj8,by show _=_;rw[List.map_append,HLC.out,HFS2.out,List.flatMap_append,Ko,HTE3.out];rfl,by rw[lAp];show _+1<=_;omega,HK5.out.trans ((Bw hb6).trans hk8),by rw[HFS2.out];exact HMR.out _ ((Bw hb6).trans hk8)⟩)
     (case measure=>simp[intOf];omega)
   ·obtain⟨m,rfl⟩:∃m,q=m+1:=⟨q - 1,by omega⟩
    have hml:m<VS.length:=by rw[<-HVE.out];omega
    obtain⟨vb,voff,ea,y1,y2,y3,y4,y5⟩:=(Cv (p:=((n1,n2,n3),vs)) HOV.out).2 m (by rw[HOV.out.len];exact hml)
    dsimp only at ea
    subst ea
    have hor:=HOV.out.ers.2 m hml
    have hos:=HVS.out.2.1 m hml
    have HO2:Hid (Hw VS E=some (VS.getD m default)):=by show _=_;rw[HOLD.out,SI hml]
    have HOR:Hid (∀w1,BA 143 X w1->vl.rowAt w1 (vs.getD m default).row.1 (VS.getD m default).row):=fun w1 hk1=>((hk1.oe hT HOV.out).ers.2 m hml).row
    obtain⟨O,hO⟩:=nM (VS.getD m default)
    rw[hO]at hor hos HO2 HOR
    obtain⟨⟨ok1,ot,os1,⟨o1,o2,o3⟩,om⟩,hzz⟩:∃z,vs.getD m default=z:=⟨_,rfl⟩
    rw[hzz]at y2 y4 hor HOR
    unfold hdV at y4
    dsimp only at y2 y4 HOR
    have hot:ot=O.time:=hor.time
    have hol:o2=O.row.length:=hor.len
    have HVT:Hid (Ar X vb 63):=A8 HOV.out.own rfl
    have vo1:=cLz hb40 (HKT.out.cell HVT.out (by decide) (by decide) y2)
    have bo1:=cLz hb40 b1
    have KJ2:Hid (∀w1,vl.rowAt w1 r1 E.row->vl.rowAt w1 o1 O.row->CTz 267 #[.int .i64 1,.slice r1 r2 r3,.slice o1 o2 o3] w1 fun e w'=>(∃ad cap,e= .returned (.slice ad (AW 1 E.row O.row).length cap)/\AA w' w1.heap.size (.slice ad (AW 1 E.row O.row).length cap) (AW 1 E.row O.row))/\Bwz w1 w'):=fun w1 h1 h2=>by rw[hol];exact KJo.out O.row o1 o3 w1 hos.1 hos.2 h1 h2
    have i3:(0:Int)<(m:Int)+1:=by omega
    have i4:(0:Int)<=(m:Int):=by omega
    have i5:(m:Int)<(m:Int)+1:=by omega
    have hw1:IntKind.i64.wrap ((m:Int)+1 - 1)=(m:Int):=by rw[ch.B7];omega
    have hw2:IntKind.i64.wrap (m:Int)=(m:Int):=by rw[ch.B7];omega
    have HNB:Hid (FA VS tm' E=decide (ot<=tm')):=by show _=_;unfold FA;rw[HO2.out,hot]
    clear hor hos hO hzz hot hol y1 y3 y5 hml
    by_cases hle:ot<=tm'
    ·have hgt:∀ty,binOp .gtr ty (.int .i64 ot) (.int .i64 tm')=pure (.bool false):=pl.EZ false (by simpa using hle)
     have HFS2:Hid ((WS.take (k+1)).filter (FA VS tm')=ML++[E]):=by show _=_;rw[HFS.out,HNB.out,decide_eq_true hle,if_pos rfl]
     have HTE3:Hid (Ji p v VS E=[⟨3,AW 1 E.row O.row⟩,⟨4,JR⟩]):=by show _=_;rw[HTE.out,HO2.out]
     clear hle
     refine gr.BI 15 rfl (by kernel_rfl) (S:=fun w'=>w'.cell? ⟨vb,voff+m * 5+1,none⟩=some (.int .i64 ot)/\w'.cell? ⟨w.heap.size,1,none⟩=some (.int .i64 tm')) ⟨vo1,bo1⟩ (fun hHz=>?_)
     refine tkz 0 39 hHz ?_;refine tkz 1 40 hHz ?_;refine tkz 2 41 hHz ?_;refine tkz 3 42 hHz ?_;refine tkz 4 43 hHz ?_;refine tkz 5 44 hHz ?_;refine tkz 6 45 hHz ?_;refine tkz 7 46 hHz ?_;refine tkz 8 47 hHz ?_;refine tkz 9 48 hHz ?_;refine tkz 10 49 hHz ?_;refine tkz 11 50 hHz ?_;refine tkz 12 51 hHz ?_;refine tkz 13 52 hHz ?_;refine tkz 14 53 hHz ?_
     refine wpAnyH_done (by kernel_rfl) ?_ _
     have hdr:Bwz W4 W4.drew:=bR.drew
     generalize hW5:W4.drew=W5 at hdr⊢
     have hb5:Bwz wr W5:=hb40.trans (hdr.mono hb40.size)
     replace zz0:=cLz hdr zz0
     replace zz1:=cLz hdr zz1
     replace zz2:=cLz hdr zz2
     replace zz3:=cLz hdr zz3
     replace zz4:=cLz hdr zz4
     replace ZT4:Hid (Ar W5 wr.heap.size 63):=Ah ZT4.out hdr
     have HJ4:Hid (JSt w0 W5 b 143 p x s y t' L'):=HJR.out.below hb5
     have HK4:Hid (BA 143 X W5):=HKT.out.trans (Bw hb5)
     have HM4:Hid (MetL X W5 u6 ems ML):=HML.out.below hb5
     have HOM:Hid (W5.ownsRow X.heap.size 63 5 u6 mn (An ems)):=by
      have:=HM4.out.own
      rw[HMN.out]at this
      exact this
     have HRR:Hid (∀g,u6.ownBlock=some g->X.heap.size<=g/\Ar W5 g 63):=fun g hg=>⟨(AD HOM.out hg).1,A8 HOM.out hg⟩
     have HRQ:Hid (∀g,u6.ownBlock=some g->g≠wr.heap.size):=fun g hg e=>by
      have:=(AD HML.out.own hg).2
      omega
     have l5:X.heap.size<=W5.heap.size:=HK4.out.1.size
     have lz5:wr.heap.size<W5.heap.size:=bLt _ _ zz0
     clear hW5 hdr
     obtain⟨BR,hBR⟩:=nM (AW 1 E.row O.row)
     rw[hBR]at KJ2 HTE3
     obtain⟨bn,hbn⟩:=nM BR.length
     rw[hbn]at KJ2
     clear hBR hbn
     go_wp2_with (first
      |(at_builtin;refine FK rfl (.tmp 54) (.tmp 56) rfl X.heap.size u6 ems ek et es1 r1 r2 r3 em W5 mn HMN.out HOM.out (by omega) (by omega) rfl rfl ?_;intro g cap2 w5 hx5 hg5;have HST5:=Kn HJX.out hT HJ4.out HK4.out hg5 HRR.out;have HJ5:Hid (JSt w0 w5 b 143 p x s y t' L'):=HST5.1;have HK5:Hid (BA 143 X w5):=HST5.2;have HME:Hid (MetL X w5 (.slice (some ⟨g,0,none⟩) (mn+1) cap2) (ems++[⟨ek,et,es1,(r1,r2,r3),em⟩]) (ML++[E])):=MetL.snoc HM4.out HSE.out (by rw[HMN.out];exact hx5);have z3:=GP hg5 HRQ.out zz3;have HZT:Hid (Ar w5 wr.heap.size 63):=Kq hg5 HRQ.out ZT4.out;have k0:=HK5.out.cell HTX.out (by decide) (by decide) c0;have k2:=HK5.out.cell HTX.out (by decide) (by decide) c2;have pm5:w5.cell? ⟨b,1,none⟩=some (.int .i64 md):=(by rw[<-HMD.out];exact HJ5.out.box.plan.2.1);have HBW:Hid (Bwz w0 w5):=HJ5.out.bl;have HRW5:Hid (vl.rowAt w5 r1 E.row):=HER5.out w5 HK5.out;clear HST5 hx5 hg5)
      |(go_at_call 267;(with_reducible refine(KJk.out _ HBW.out HRW5.out).mono ?_);rintro e w6 ⟨⟨ad,cap,rfl,ho6⟩,hb6⟩;have z36:=cLz hb6 z3;have pm6:=cLz hb6 pm5;have HZ6:Hid (Ar w6 wr.heap.size 63):=Ah HZT.out hb6))
     have HMR:Hid (∀w',BA 143 w5 w'->MetL X w' (.slice (some ⟨g,0,none⟩) (mn+1) cap2) (ems++[⟨ek,et,es1,(r1,r2,r3),em⟩]) (ML++[E])):=fun w' hk=>HME.out.keep hT hk
     have v36:=cLz hb6 (HK5.out.cell HVT.out (by decide) (by decide) y4)
     have HV6:Hid (Ar w6 vb 63):=Ah (HK5.out.ty HVT.out (by decide) (by decide)) hb6
     have HBP:Hid (∀w1,Bwz w6 w1->vl.rowAt w1 r1 E.row/\vl.rowAt w1 o1 O.row):=fun w1 hb=>⟨vl.Ac HRW5.out (hb6.trans (hb.mono hb6.size)),vl.Ac (HOR.out w5 HK5.out) (hb6.trans (hb.mono hb6.size))⟩
     go_region_held3 (fun w'=>w'.cell? ⟨wr.heap.size,3,none⟩=some (.slice r1 r2 r3)/\w'.cell? ⟨vb,voff+m * 5+1+1+1,none⟩=some (.slice o1 o2 o3)) (first|exact hyy|go_keep)
      (first
       |(go_at_call 269;refine(MP HJ5.out hT hnl6 hb6 ho6 hb7 ho7).mono ?_;rintro e w8 ⟨rfl,t8,hj8,hk8⟩;have hyy:w8.cell? ⟨wr.heap.size,3,none⟩=some (.slice r1 r2 r3)/\w8.cell? ⟨vb,voff+m * 5+1+1+1,none⟩=some (.slice o1 o2 o3):=⟨hk8.cell (Ah HZ6.out hb7) (by decide) (by decide) (cLz hb7 z36),hk8.cell (Ah HV6.out hb7) (by decide) (by decide) (cLz hb7 v36)⟩)
       |(go_at_call 267;refine(KJ2.out _ (HBP.out _ bR.drew).1 (HBP.out _ bR.drew).2).mono ?_;rintro e w7 ⟨⟨ad7,cap7,rfl,ho70⟩,hb70⟩;have hb7:Bwz w6 w7:=bR.drew.trans hb70;have ho7:AA w7 w6.heap.size (.slice ad7 bn cap7) BR:=ho70;have hyy:w7.cell? ⟨wr.heap.size,3,none⟩=some (.slice r1 r2 r3)/\w7.cell? ⟨vb,voff+m * 5+1+1+1,none⟩=some (.slice o1 o2 o3):=⟨cLz hb7 z36,cLz hb7 v36⟩))
     all_goals
      go_wp2
      go_roundw
      (case rel=>exact⟨k+1,t8,_,_,by omega,by go_num,hj8,by show _=_;rw[List.map_append,HLC.out,HFS2.out,List.flatMap_append,Ko,HTE3.out];rfl,by rw[lAp];show _+2<=_;omega,HK5.out.trans ((Bw (hb6.trans (hb7.mono hb6.size))).trans hk8),by rw[HFS2.out];exact HMR.out _ ((Bw (hb6.trans (hb7.mono hb6.size))).trans hk8)⟩)
      (case measure=>simp[intOf];omega)
    ·have hgt:∀ty,binOp .gtr ty (.int .i64 ot) (.int .i64 tm')=pure (.bool true):=pl.EZ true (by simpa using hle)
     have HFS2:Hid ((WS.take (k+1)).filter (FA VS tm')=ML):=by show _=_;rw[HFS.out,HNB.out,decide_eq_false (by omega),if_neg (by simp),List.append_nil]
     clear hle
     refine gr.BI 15 rfl (by kernel_rfl) (S:=fun w'=>w'.cell? ⟨vb,voff+m * 5+1,none⟩=some (.int .i64 ot)/\w'.cell? ⟨w.heap.size,1,none⟩=some (.int .i64 tm')) ⟨vo1,bo1⟩ (fun hHz=>?_)
     refine tkz 0 39 hHz ?_;refine tkz 1 40 hHz ?_;refine tkz 2 41 hHz ?_;refine tkz 3 42 hHz ?_;refine tkz 4 43 hHz ?_;refine tkz 5 44 hHz ?_;refine tkz 6 45 hHz ?_;refine tkz 7 46 hHz ?_;refine tkz 8 47 hHz ?_;refine tkz 9 48 hHz ?_;refine tkz 10 49 hHz ?_;refine tkz 11 50 hHz ?_;refine tkz 12 51 hHz ?_;refine tkz 13 52 hHz ?_;refine tkz 14 53 hHz ?_
     refine wpAnyH_done (by kernel_rfl) ?_ _
     go_wp2
     go_roundw
     (case rel=>exact⟨k+1,t',L',ems,by omega,by go_num,HJR.out.below hb40.drew,by show _=_;rw[HFS2.out];exact HLC.out,by omega,HKT.out.trans (Bw hb40.drew),by rw[HFS2.out];exact HML.out.below hb40.drew⟩)
     (case measure=>simp[intOf];omega)
  ·have hkn:k=g2:=by omega
   subst hkn
   have hkf:¬((k:Int)<(k:Int)):=by omega
   have hta:WS.take k=WS:=by rw[HGE.out,List.take_length]
   rw[hta]at HLC HML
   obtain⟨ML,hML⟩:=nM (WS.filter (FA VS tm'))
   rw[hML]at HLC HML HNT
   have HMLe:Hid (WS.filter (FA VS tm')=ML):=hML
   obtain⟨ma,mc,hu,hat⟩:=HML.out.at
   have hmx:ML.length<=4096:=by
    rw[<-hML]
    exact Nat.le_trans (List.length_filter_le ..) HWS.out.1
   have KM:Hid (CTz 272 #[.pointer (some ⟨b,0,none⟩),.int .i64 1,.slice ma ML.length mc] wr fun e w'=>e= .returned (.tuple #[])/\∃y',JSt w0 w' b 143 p x (A3 s 1 (Cp (ML.map (·.seq)) (Am s 1))) y' t' L'/\Hv wr w'):=L2 b _ p x s y t' L' 1 (ma,ML.length,mc) ems ML w0 wr HJR.out hT HI.out.1 HI.out.2 rfl hat HML.out.len HML.out.seq (by omega) (fun z hz=>HWS.out.2.2 z (by rw[<-hML]at hz;exact(List.mem_filter.1 hz).1))
   obtain⟨mn,hmn⟩:=nM ML.length
   rw[hmn]at KM hu
   subst hu
   clear hta hML hat hmn hmx
   go_wp2_with (go_at_call 272;refine KM.out.mono ?_;rintro e X9 ⟨rfl,y',hj9,hke9⟩)
   refine bodyPost_end (v:=.tuple #[]) (by simp[results,results283,go_sem]) rfl ⟨rfl,y',t',L',?_,?_,?_⟩
   ·rw[HMLe.out];exact hj9
   ·rw[HLC.out,HNT.out]
   ·exact((Av hbX).trans HKT.out.m).trans hke9.m
end jn
end Go.Proofs.YtdohnkkbkfhphaaGreat
