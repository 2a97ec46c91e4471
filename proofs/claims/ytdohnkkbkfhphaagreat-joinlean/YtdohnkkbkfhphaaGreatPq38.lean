import Derived.Test.YtdohnkkbkfhphaaGreatPq37
set_option linter.all false
set_option maxHeartbeats 16000000
set_option maxRecDepth 100000
namespace Go.Proofs.YtdohnkkbkfhphaaGreat
open Go.Proofs.Tryz
namespace jn
open Go.ChangeShapes Go.WideShapes Go.ChangeAt Go.RowKit
open vl bf
attribute [local go_sem] Oper.semAt_some
theorem TY{A L:List Ent}(hr:Gi A)(hp:(A.map unm).Perm L){i:Nat}(hi:i<L.length):∃K,K<A.length/\(A.getD K default).row=(L.getD i default).row/\∀k,k<A.length->(Dj (A.getD k default) (L.getD i default)=0↔k=K):=by
 have hm:L.getD i default∈A.map unm:=hp.mem_iff.2 (Bb hi)
 obtain⟨y,hy,ey⟩:=List.mem_map.1 hm
 obtain⟨K,hK,rfl⟩:=List.getElem_of_mem hy
 have eK:A.getD K default=A[K]:=getD_at hK
 refine⟨K,hK,by rw[eK,<-ey];rfl,fun k hk=>?_⟩
 rw[Rg,<-ey,getD_at hk]
 constructor
 ·intro hs
  have hs:CF A[k] A[K]:=hs
  have key:∀i j (hi:i<A.length) (hj:j<A.length),i<j->¬CF A[i] A[j]:=fun i j hi hj hij=>Fw (List.pairwise_iff_getElem.1 hr i j hi hj hij)
  by_cases h1:k<K
  ·exact absurd hs (key k K hk hK h1)
  ·by_cases h2:K<k
   ·exact absurd (DV hs) (key K k hK hk h2)
   ·omega
 ·intro e
  subst e
  exact⟨rfl,rfl,rfl⟩
theorem DA(B:Buf)(x:BX)(ad:Option Addr)(cap:Nat)(L:List Ent)(w:World)(h:bufAt w B x)(hok:okB B)(hw:∀y∈Ab B,wfE y/\wfP (AS y))(hL:Cl w ad L)(hp:((Ab B).map unm).Perm L):
 Calls Tryz.prog 24 #[AQ B x,.slice ad L.length cap] w fun e w'=>e= .returned (.bool true)/\Bwz w w':=by
 have hmx:Tryz.prog.follows .mixedOrders=true:=rfl
 have KA:=hIz (fun(w1:World) (hb:Bwz w w1)=>Vl B x w1 (Ak h hb) hok hw)
 have HL:Hid (Cl w ad L):=hL
 have HP:Hid (((Ab B).map unm).Perm L):=hp
 have hsm:L.length<=4096:=by
  rw[<-hp.length_eq,lMp]
  exact hok.all
 have HRW:Hid (∀y∈L,y.row.length<=1000000):=fun y hy=>by
  obtain⟨z,hz,ez⟩:=List.mem_map.1 (hp.mem_iff.2 hy)
  rw[<-ez]
  exact(bf.okB.small hok).2.2 z hz
 have KCO:=hIz (fun(e:EM) (f:EM) (w1:World)=>L4 e f w1)
 obtain⟨n,hn⟩:=nM L.length
 have HN:Hid (L.length=n):=hn
 rw[hn]at hsm⊢
 unfold AQ hdV
 clear h hok hw hL hp hn
 go_enter func24,ntmps24
 go_wp2_with fail
 generalize hV:(World.alloc w _)=V
 have hb0:Bwz w V:=by rw[<-hV];exact bR.alloc nR _
 clear hV
 refine(KA.out _ hb0).mono ?_
 rintro e w2 ⟨⟨aa0,ac0,A,rfl,hpa,hra,hea⟩,hb2⟩
 have bw2:Bwz w w2:=hb0.trans (hb2.mono hb0.size)
 have HA:Hid (Cl w2 aa0 A):=hea
 have HL2:Hid (Cl w2 ad L):=Mu HL.out bw2
 have hla:A.length=n:=by
  rw[<-HN.out,<-HP.out.length_eq,lMp,hpa.length_eq]
 have HLA:Hid (A.length=n):=hla
 have HK:Hid (∀i,i<n->∃K,K<n/\(A.getD K default).row=(L.getD i default).row/\∀k,k<n->(Dj (A.getD k default) (L.getD i default)=0↔k=K)):=fun i hi=>by
  have:=TY hra ((hpa.map unm).trans HP.out) (i:=i) (by rw[HN.out];exact hi)
  rw[hla]at this
  exact this
 rw[hla]
 clear hpa hra hea hla KA hb0 hb2 HL HP
 have d0:((n:Int) !=(n:Int))=false:=by simp
 go_upto_region 5 with fail
 go_loopw [7,8,9] (fun i _ _ wr=> ∃q:Nat,q<=n/\i= .int .i64 q/\Bwz w2 wr) (fun i _ _ _=>n - (intOf i).toNat)
 case atStart=>exact⟨0,Nat.zero_le _,rfl,bR⟩
 case round=>
  obtain⟨i,hin,rfl,hnx⟩:=hrel
  by_cases hlt:i<n
  ·obtain⟨K,hKn,hKr,hKk⟩:=HK.out i hlt
   have HKK:Hid (∀k,k<n->(Dj (A.getD k default) (L.getD i default)=0↔k=K)):=hKk
   have HKR:Hid ((A.getD K default).row=(L.getD i default).row):=hKr
   have i1:(0:Int)<=(i:Int):=by omega
   have i2:(i:Int)<(n:Int):=by omega
   clear hKr hKk
   go_upto_region 9 with fail
   obtain⟨wq,hwq⟩:=nM wr
   have hnq:Bwz w2 wq:=by rw[<-hwq];exact hnx
   rw[hwq]
   clear hwq hnx
   go_loopw [8,9] (fun c j wr=> ∃k:Nat,k<=n/\j= .int .i64 k/\c= .int .i64 (if K<k then 1 else 0)/\Bwz w2 wr) (fun _ j _=>n - (intOf j).toNat)
   case atStart=>exact⟨0,Nat.zero_le _,rfl,by rw[if_neg (by omega)],hnq⟩
   case round=>
    obtain⟨k,hkn,rfl,rfl,hnx⟩:=hrel
    by_cases hlt2:k<n
    ·obtain⟨ab,ao,aa,ac,ea,x0,x1,x2,x3,x4,x5⟩:=HA.out k (by rw[HLA.out];exact hlt2)
     obtain⟨lb,lo,la,lc,el,y0,y1,y2,y3,y4,y5⟩:=HL2.out i (by rw[HN.out];exact hlt)
     subst ea
     subst el
     have hkk:=HKK.out k hlt2
     have hlen:=HRW.out (L.getD i default) (Bb (by rw[HN.out];exact hlt))
     obtain⟨ya,hya⟩:=nM (A.getD k default)
     obtain⟨yl,hyl⟩:=nM (L.getD i default)
     have HROW:Hid (k=K->ya.row=yl.row):=fun e=>by rw[<-hya,<-hyl,e];exact HKR.out
     rw[hya]at x0 x1 x2 x3 x4 x5 hkk
     rw[hyl]at y0 y1 y2 y3 y4 y5 hkk hlen
     obtain⟨ak,at',as',ar,am⟩:=ya
     obtain⟨lk,lt',ls',lr,lm⟩:=yl
     dsimp only at x0 x1 x2 x3 x4 x5 y0 y1 y2 y3 y4 y5 hlen HROW
     obtain⟨al,hal⟩:=nM ar.length
     obtain⟨ll,hll⟩:=nM lr.length
     have HX5:Hid (vl.rowAt w2 aa ar):=x5
     have HY5:Hid (vl.rowAt w2 la lr):=y5
     have HAL:Hid (ar.length=al/\lr.length=ll/\lr.length<=1000000):=⟨hal,hll,hlen⟩
     rw[hal]at x3
     rw[hll]at y3
     have f0:=cLz hnx x0
     have f1:=cLz hnx x1
     have f2:=cLz hnx x2
     have f3:=cLz hnx x3
     have f4:=cLz hnx x4
     have f5:=cLz hnx y0
     have f6:=cLz hnx y1
     have f7:=cLz hnx y2
     have f8:=cLz hnx y3
     have f9:=cLz hnx y4
     have j1:(0:Int)<=(k:Int):=by omega
     have j2:(k:Int)<(n:Int):=by omega
     obtain⟨z,hz⟩:=nM (Dj ⟨ak,at',as',[],am⟩ ⟨lk,lt',ls',[],lm⟩)
     have HZ:Hid (z=0↔k=K):=by
      rw[<-hz]
      exact hkk
     have KC:Hid (∀w1,Calls Tryz.prog 55 #[.agg #[.string ak,.int .i64 at',.int .i64 as',.slice aa al ac,.bool am],.agg #[.string lk,.int .i64 lt',.int .i64 ls',.slice la ll lc,.bool lm]] w1 fun e w'=>e= .returned (.int .i64 z)/\Bwz w1 w'):=fun w1=>by
      have:=KCO.out ⟨ak,at',as',(aa,al,ac),am⟩ ⟨lk,lt',ls',(la,ll,lc),lm⟩ w1
      unfold EM.ent at this
      dsimp only at this
      rw[hz]at this
      exact this
     clear x0 x1 x2 x3 x4 x5 y0 y1 y2 y3 y4 y5 hya hyl hal hll hlen hkk hz
     by_cases hzz:z=0
     ·have hKe:k=K:=HZ.out.1 hzz
      have KS:Hid (∀w1,Bwz w2 w1->Calls Tryz.prog 22 #[.slice aa al ac,.slice la ll lc] w1 fun e w'=>e= .returned (.bool true)/\Bwz w1 w'):=fun w1 hb=>by
       obtain⟨q1,q2,q3⟩:=HAL.out
       have er:ar=lr:=HROW.out hKe
       have:=vl.SI aa la ac lc ar lr w1 (vl.Ac HX5.out hb) (vl.Ac HY5.out hb) (by rw[er];omega) (by omega)
       rw[q1,q2,decide_eq_true er]at this
       exact this
      have HC1:Hid ((if K<k then(1:Int)else 0)=0):=if_neg (by omega)
      have HC2:Hid ((if K<k+1 then(1:Int)else 0)=1):=if_pos (by omega)
      rw[HC1.out]
      subst hzz
      clear HKK HK HZ HROW HC1 hKe
      go_upto_region 11 with fail
      refine gr.B8 (S:=fun w'=>w'.cell? ⟨ab,ao+k * 5,none⟩=some (.string ak)/\w'.cell? ⟨ab,ao+k * 5+1,none⟩=some (.int .i64 at')/\w'.cell? ⟨ab,ao+k * 5+1+1,none⟩=some (.int .i64 as')/\w'.cell? ⟨ab,ao+k * 5+1+1+1,none⟩=some (.slice aa al ac)/\w'.cell? ⟨ab,ao+k * 5+1+1+1+1,none⟩=some (.bool am)/\w'.cell? ⟨lb,lo+i * 5,none⟩=some (.string lk)/\w'.cell? ⟨lb,lo+i * 5+1,none⟩=some (.int .i64 lt')/\w'.cell? ⟨lb,lo+i * 5+1+1,none⟩=some (.int .i64 ls')/\w'.cell? ⟨lb,lo+i * 5+1+1+1,none⟩=some (.slice la ll lc)/\w'.cell? ⟨lb,lo+i * 5+1+1+1+1,none⟩=some (.bool lm)) 23 rfl hmx ⟨cLz bR.drew f0,cLz bR.drew f1,cLz bR.drew f2,cLz bR.drew f3,cLz bR.drew f4,cLz bR.drew f5,cLz bR.drew f6,cLz bR.drew f7,cLz bR.drew f8,cLz bR.drew f9⟩ ?_
      intro hHz
      refine tkz 0 36 hHz ?_;refine tkz 1 37 hHz ?_;refine tkz 2 38 hHz ?_;refine tkz 3 39 hHz ?_;refine tkz 4 40 hHz ?_;refine tkz 5 41 hHz ?_;refine tkz 6 42 hHz ?_;refine tkz 7 43 hHz ?_
      refine wpAnyH_ready (rs:=[8]) (by kernel_rfl) (by simp) ?_
      refine AllReadyH.cons rfl (fun K hK=>?_) AllReadyH.nil
      go_simp
      go_at_call 55
      refine(KC.out _).mono ?_
      rintro e w4 ⟨rfl,hb4⟩
      have hn4:Bwz w2 w4:=hnx.drew.trans (hb4.mono hnx.drew.size)
      go_wp2_with fail
      refine hK.out _ _ ⟨cLz hb4 hHz.1,cLz hb4 hHz.2.1,cLz hb4 hHz.2.2.1,cLz hb4 hHz.2.2.2.1,cLz hb4 hHz.2.2.2.2.1,cLz hb4 hHz.2.2.2.2.2.1,cLz hb4 hHz.2.2.2.2.2.2.1,cLz hb4 hHz.2.2.2.2.2.2.2.1,cLz hb4 hHz.2.2.2.2.2.2.2.2.1,cLz hb4 hHz.2.2.2.2.2.2.2.2.2⟩ (fun hHz=>?_)
      clear hK K
      try simp only[Act.put,sI,sZ,sS]
      refine tkz 9 45 hHz ?_;refine tkz 10 46 hHz ?_;refine tkz 11 47 hHz ?_;refine tkz 12 48 hHz ?_;refine tkz 13 49 hHz ?_;refine tkz 14 50 hHz ?_;refine tkz 15 51 hHz ?_;refine tkz 16 52 hHz ?_;refine tkz 17 53 hHz ?_;refine tkz 18 54 hHz ?_;refine tkz 19 55 hHz ?_;refine tkz 20 56 hHz ?_
      refine wpAnyH_ready (rs:=[21]) (by kernel_rfl) (by simp) ?_
      refine AllReadyH.cons rfl (fun K hK=>?_) AllReadyH.nil
      go_simp
      go_at_call 22
      refine(KS.out _ hn4).mono ?_
      rintro e w5 ⟨rfl,hb5⟩
      have hn5:Bwz w2 w5:=hn4.trans (hb5.mono hn4.size)
      go_wp2_with fail
      refine hK.out _ _ ⟨cLz hb5 hHz.1,cLz hb5 hHz.2.1,cLz hb5 hHz.2.2.1,cLz hb5 hHz.2.2.2.1,cLz hb5 hHz.2.2.2.2.1,cLz hb5 hHz.2.2.2.2.2.1,cLz hb5 hHz.2.2.2.2.2.2.1,cLz hb5 hHz.2.2.2.2.2.2.2.1,cLz hb5 hHz.2.2.2.2.2.2.2.2.1,cLz hb5 hHz.2.2.2.2.2.2.2.2.2⟩ (fun hHz=>?_)
      clear hK K
      try simp only[Act.put,sI,sZ,sS]
      refine tkz 22 58 hHz ?_
      refine wpAnyH_done (by kernel_rfl) ?_ _
      go_wp2
      go_roundw
      case rel=>exact⟨k+1,by omega,by go_num,by rw[HC2.out],hn5⟩
      case measure=>simp[intOf];omega
     ·have hKe:k≠K:=fun e=>hzz (HZ.out.2 e)
      have hz':(z==0)=false:=by simpa using hzz
      obtain⟨cc,hcc⟩:=nM (if K<k then(1:Int)else 0)
      have HC2:Hid ((if K<k+1 then(1:Int)else 0)=cc):=by
       show _=_
       rw[<-hcc]
       by_cases hq:K<k
       ·rw[if_pos hq,if_pos (by omega)]
       ·rw[if_neg hq,if_neg (by omega)]
      rw[hcc]
      clear HKK HK HZ HROW hKe hcc
      go_upto_region 11 with fail
      refine gr.B8 (S:=fun w'=>w'.cell? ⟨ab,ao+k * 5,none⟩=some (.string ak)/\w'.cell? ⟨ab,ao+k * 5+1,none⟩=some (.int .i64 at')/\w'.cell? ⟨ab,ao+k * 5+1+1,none⟩=some (.int .i64 as')/\w'.cell? ⟨ab,ao+k * 5+1+1+1,none⟩=some (.slice aa al ac)/\w'.cell? ⟨ab,ao+k * 5+1+1+1+1,none⟩=some (.bool am)/\w'.cell? ⟨lb,lo+i * 5,none⟩=some (.string lk)/\w'.cell? ⟨lb,lo+i * 5+1,none⟩=some (.int .i64 lt')/\w'.cell? ⟨lb,lo+i * 5+1+1,none⟩=some (.int .i64 ls')/\w'.cell? ⟨lb,lo+i * 5+1+1+1,none⟩=some (.slice la ll lc)/\w'.cell? ⟨lb,lo+i * 5+1+1+1+1,none⟩=some (.bool lm)) 23 rfl hmx ⟨cLz bR.drew f0,cLz bR.drew f1,cLz bR.drew f2,cLz bR.drew f3,cLz bR.drew f4,cLz bR.drew f5,cLz bR.drew f6,cLz bR.drew f7,cLz bR.drew f8,cLz bR.drew f9⟩ ?_
      intro hHz
      refine tkz 0 36 hHz ?_;refine tkz 1 37 hHz ?_;refine tkz 2 38 hHz ?_;refine tkz 3 39 hHz ?_;refine tkz 4 40 hHz ?_;refine tkz 5 41 hHz ?_;refine tkz 6 42 hHz ?_;refine tkz 7 43 hHz ?_
      refine wpAnyH_ready (rs:=[8]) (by kernel_rfl) (by simp) ?_
      refine AllReadyH.cons rfl (fun K hK=>?_) AllReadyH.nil
      go_simp
      go_at_call 55
      refine(KC.out _).mono ?_
      rintro e w4 ⟨rfl,hb4⟩
      have hn4:Bwz w2 w4:=hnx.drew.trans (hb4.mono hnx.drew.size)
      go_wp2_with fail
      refine hK.out _ _ ⟨cLz hb4 hHz.1,cLz hb4 hHz.2.1,cLz hb4 hHz.2.2.1,cLz hb4 hHz.2.2.2.1,cLz hb4 hHz.2.2.2.2.1,cLz hb4 hHz.2.2.2.2.2.1,cLz hb4 hHz.2.2.2.2.2.2.1,cLz hb4 hHz.2.2.2.2.2.2.2.1,cLz hb4 hHz.2.2.2.2.2.2.2.2.1,cLz hb4 hHz.2.2.2.2.2.2.2.2.2⟩ (fun hHz=>?_)
      clear hK K
      try simp only[Act.put,sI,sZ,sS]
      refine tkz 9 45 hHz ?_;refine tkz 10 46 hHz ?_;refine sk 11 47 hHz ?_;refine sk 12 48 hHz ?_;refine sk 13 49 hHz ?_;refine sk 14 50 hHz ?_;refine sk 15 51 hHz ?_;refine sk 16 52 hHz ?_;refine sk 17 53 hHz ?_;refine sk 18 54 hHz ?_;refine sk 19 55 hHz ?_;refine sk 20 56 hHz ?_;refine sk 21 57 hHz ?_;refine tkz 22 58 hHz ?_
      refine wpAnyH_done (by kernel_rfl) ?_ _
      go_wp2
      go_roundw
      case rel=>exact⟨k+1,by omega,by go_num,by rw[HC2.out],hn4⟩
      case measure=>simp[intOf];omega
    ·have hke:k=n:=by omega
     subst hke
     have HC1:Hid ((if K<k then(1:Int)else 0)=1):=if_pos hKn
     rw[HC1.out]
     clear HC1 hKn HK HKK
     go_wp2
     go_roundw
     case rel=>exact⟨i+1,by omega,by go_num,hnx⟩
     case measure=>simp[intOf];omega
  ·have hie:i=n:=by omega
   subst hie
   go_wp2
   go_ret
   exact⟨rfl,bw2.trans (hnx.mono bw2.size)⟩
theorem Xd(a b:Int):(if b<a then b else a)=min a b:=by omega
theorem TZ{p:pl.Pln}{l:List Ev}{S:Jn}{T:List ch.Chg}{N:List Int}(h:Cw p l=(0,S,T,N)):pl.Ai p=0/\l.length<=120/\(playJ p (startJ p) l 0).1=S/\(playJ p (startJ p) l 0).2.2=N:=by
 unfold Cw at h
 split at h
 ·rename_i h0
  have:=congrArg Prod.fst h
  exact absurd this h0
 ·rename_i h0
  unfold D9 at h
  split at h
  ·have:=congrArg Prod.fst h
   cases this
  ·rename_i h1
   have e:=congrArg Prod.snd h
   dsimp only at e
   exact⟨by simpa using h0,by omega,by rw[e],by rw[e]⟩
theorem Qt{w:World}{b:Buf}{x:BX}(h:bufAt w b x):x.m.1.2.1=b.mem.length:=by
 have h1:=(h.len x.m (List.mem_cons_self ..)).1
 exact h1.trans h.mem.1
theorem RW(p:pl.Pln)(x:pl.PA)(la:Option Addr)(lc:Nat)(l:List Ev)(xs:List RX)(w:World)(hw:pl.wfPlan p)(hp:pl.planAt w p x)(hv:DH w la l xs)(hn:l.length<=9223372036854775807):
 Calls Tryz.prog 7 #[pl.As p x,.slice la l.length lc] w fun e w'=>e= .returned (.bool true)/\Bwz w w':=by
 have hmx:Tryz.prog.follows .mixedOrders=true:=rfl
 have KP:Hid (∀w1,Bwz w w1->Calls Tryz.prog 19 #[pl.As p x,.slice la l.length lc] w1 fun e w'=>(∃y t na nc,e= .returned (.tuple #[joinV (Cw p l).2.1 y,t,.slice na (Cw p l).2.2.2.length nc,.int .i64 (Cw p l).1])/\joinAt w' (Cw p l).2.1 y/\pl.A4 w' na (Cw p l).2.2.2)/\Bwz w1 w'):=fun w1 hb=>by
  refine(Ny p x l xs la lc w1 hw (pl.Ah hp hb) (Ef hv hb) hn).mono ?_
  rintro e w' ⟨⟨y,t,L,nv,rfl,_,hj,_,hni⟩,hb'⟩
  have hni':w'.ownsRow w1.heap.size 3 1 nv (Cw p l).2.2.2.length ((Cw p l).2.2.2.map pl.GF):=hni
  have e1:=Gx hni'
  rw[e1]at hni⊢
  exact⟨⟨y,t,_,_,rfl,hj,(pl.Mz hni).1⟩,hb'⟩
 have HG:Hid ((Cw p l).1=0->pl.Ai p=0/\goodJ p (Cw p l).2.1):=fun h=>Pc (Fm hv) h
 obtain⟨PA,hPA⟩:=nM (Cw p l)
 rw[hPA]at KP HG
 obtain⟨E,S,T,N⟩:=PA
 dsimp only at KP HG
 have HPA:Hid (Cw p l=(E,S,T,N)):=hPA
 have HW:Hid (pl.wfPlan p/\pl.planAt w p x/\DH w la l xs):=⟨hw,hp,hv⟩
 obtain⟨ln,hln⟩:=nM l.length
 have HLN:Hid (l.length=ln):=hln
 rw[hln]at KP⊢
 have HPV:Hid (pl.As p x= .agg #[.int .i64 p.kind,.int .i64 p.mode,.int .i64 p.low,.int .i64 p.high,.int .i64 p.size,.int .i64 p.limit,.slice x.l p.left.length x.lc,.slice x.r p.right.length x.rc,.slice x.lk p.lkeys.length x.lkc,.slice x.rk p.rkeys.length x.rkc,.bool p.grouped,.slice x.g p.group.length x.gc,.slice x.a p.aggs.length x.ac]):=rfl
 rw[HPV.out]at KP⊢
 clear hPA hln hw hp hv hn
 go_enter func7,ntmps7
 go_wp2_with fail
 generalize hV:(World.alloc w _)=V
 have hb0:Bwz w V:=by rw[<-hV];exact bR.alloc nR _
 have HB:Hid (BB V w.heap.size p x):=by
  subst hV
  exact CH ..
 clear hV
 refine(KP.out _ hb0).mono ?_
 rintro e w1 ⟨⟨y,t0,na,nc,rfl,hj,hni⟩,hb1⟩
 have hbw:Bwz w w1:=hb0.trans (hb1.mono hb0.size)
 replace HB:Hid (BB w1 w.heap.size p x):=Al HB.out hb1
 have HJ:Hid (joinAt w1 S y):=hj
 have HNI:Hid (pl.A4 w1 na N):=hni
 clear KP hj hni hb0 hb1
 rw[AK]
 go_upto_region 2 with fail
 generalize hV:(World.alloc w1 _)=w2
 have hb2:Bwz w1 w2:=by rw[<-hV];exact bR.alloc nR _
 have HBJ:Hid (BT w2 w1.heap.size S y):=by
  subst hV
  exact BI ..
 clear hV
 have hbw2:Bwz w w2:=hbw.trans (hb2.mono hbw.size)
 by_cases h0:E=0
 ·subst h0
  obtain⟨hp0,hg0⟩:=HG.out (by trivial)
  obtain⟨_,hl120,hS,hNN⟩:=TZ HPA.out
  obtain⟨hw,hp,hv⟩:=HW.out
  have lean:∀side,pl.A0 side=true->leanJ p S side (A3 p side (startJ p) l):=fun side hs=>by
   have:=FX hp0 hs l (startJ p) 0 [] (good_start hp0) (Fm hv) (JU hp0 side)
   rw[List.nil_append,hS]at this
   exact this
  have stay:∀side w3,pl.A0 side=true->Bwz w2 w3->Calls Tryz.prog 25 #[pl.As p x,.slice la l.length lc,.slice na N.length nc,.int .i64 side,.int .i64 (markOf S (3 - side)),.int .i64 (Bq S)] w3 fun e w'=>(∃ad cap,e= .returned (.slice ad ((A3 p side (startJ p) l).filter (Bx p S side (A3 p side (startJ p) l))).length cap)/\Cl w' ad ((A3 p side (startJ p) l).filter (Bx p S side (A3 p side (startJ p) l))))/\Bwz w3 w':=fun side w3 hs hb=>by
   have bw3:Bwz w w3:=hbw2.trans (hb.mono hbw2.size)
   exact Po p x la lc l xs na nc side S N w3 hw (pl.Ah hp bw3) (Ef hv bw3) hs hp0 hl120 hS hNN (pl.At HNI.out (hb2.trans (hb.mono hb2.size)))
  have KS1:Hid (∀w3,Bwz w2 w3->Calls Tryz.prog 25 #[pl.As p x,.slice la ln lc,.slice na N.length nc,.int .i64 1,.int .i64 S.rm,.int .i64 (Bq S)] w3 fun e w'=>(∃ad cap,e= .returned (.slice ad ((A3 p 1 (startJ p) l).filter (Bx p S 1 (A3 p 1 (startJ p) l))).length cap)/\Cl w' ad ((A3 p 1 (startJ p) l).filter (Bx p S 1 (A3 p 1 (startJ p) l))))/\Bwz w3 w'):=fun w3 hb=>by
   have:=stay 1 w3 (by decide) hb
   rw[HLN.out]at this
   exact this
  have KS2:Hid (∀w3,Bwz w2 w3->Calls Tryz.prog 25 #[pl.As p x,.slice la ln lc,.slice na N.length nc,.int .i64 2,.int .i64 S.lm,.int .i64 (Bq S)] w3 fun e w'=>(∃ad cap,e= .returned (.slice ad ((A3 p 2 (startJ p) l).filter (Bx p S 2 (A3 p 2 (startJ p) l))).length cap)/\Cl w' ad ((A3 p 2 (startJ p) l).filter (Bx p S 2 (A3 p 2 (startJ p) l))))/\Bwz w3 w'):=fun w3 hb=>by
   have:=stay 2 w3 (by decide) hb
   rw[HLN.out]at this
   exact this
  have KK1:Hid (∀ad cap w3,Bwz w2 w3->Cl w3 ad ((A3 p 1 (startJ p) l).filter (Bx p S 1 (A3 p 1 (startJ p) l)))->Calls Tryz.prog 24 #[.agg #[.int .i64 S.L.lim,.slice y.l.m.1.1 y.l.m.1.2.1 y.l.m.1.2.2,.slice y.l.ra y.l.rs.length y.l.rc],.slice ad ((A3 p 1 (startJ p) l).filter (Bx p S 1 (A3 p 1 (startJ p) l))).length cap] w3 fun e w'=>e= .returned (.bool true)/\Bwz w3 w'):=fun ad cap w3 hb he=>DA S.L y.l ad cap _ w3 (Ak HJ.out.l (hb2.trans (hb.mono hb2.size))) hg0.ok.L (fun z hz=>hg0.wf z (List.mem_append.2 (.inl hz))) he (lean 1 (by decide)).st.1
  have KK2:Hid (∀ad cap w3,Bwz w2 w3->Cl w3 ad ((A3 p 2 (startJ p) l).filter (Bx p S 2 (A3 p 2 (startJ p) l)))->Calls Tryz.prog 24 #[.agg #[.int .i64 S.R.lim,.slice y.r.m.1.1 y.r.m.1.2.1 y.r.m.1.2.2,.slice y.r.ra y.r.rs.length y.r.rc],.slice ad ((A3 p 2 (startJ p) l).filter (Bx p S 2 (A3 p 2 (startJ p) l))).length cap] w3 fun e w'=>e= .returned (.bool true)/\Bwz w3 w'):=fun ad cap w3 hb he=>DA S.R y.r ad cap _ w3 (Ak HJ.out.r (hb2.trans (hb.mono hb2.size))) hg0.ok.R (fun z hz=>hg0.wf z (List.mem_append.2 (.inr hz))) he (lean 2 (by decide)).st.1
  have m1:¬((y.l.m.1.2.1:Nat):Int)>p.limit:=by
   rw[Qt HJ.out.l,<-hg0.ok.ll]
   have:=hg0.ok.L.mem
   omega
  have m2:¬((y.r.m.1.2.1:Nat):Int)>p.limit:=by
   rw[Qt HJ.out.r,<-hg0.ok.rl]
   have:=hg0.ok.R.mem
   omega
  obtain⟨O1,hO1⟩:=nM ((A3 p 1 (startJ p) l).filter (Bx p S 1 (A3 p 1 (startJ p) l)))
  obtain⟨O2,hO2⟩:=nM ((A3 p 2 (startJ p) l).filter (Bx p S 2 (A3 p 2 (startJ p) l)))
  rw[hO1]at KS1 KK1
  rw[hO2]at KS2 KK2
  have hlow1:(if S.rm<S.lm then S.rm else S.lm)=Bq S:=Xd _ _
  have hlow2:min S.lm S.rm=Bq S:=rfl
  obtain⟨low,hlow⟩:=nM (Bq S)
  rw[hlow]at KS1 KS2 hlow1 hlow2
  obtain⟨m,hm⟩:=nM N.length
  rw[hm]at KS1 KS2⊢
  obtain⟨v0,v1,v2,v3,v4,v5,v6,v7,v8,v9,v10,v11,v12⟩:=Al HB.out hb2
  obtain⟨u0,u1,u2,u3,u4,u5,u6,u7,u8⟩:=HBJ.out
  obtain⟨lm,hlm⟩:=nM S.lm
  obtain⟨rm,hrm⟩:=nM S.rm
  rw[hlm]at KS2 hlow1 hlow2 u6
  rw[hrm]at KS1 hlow1 hlow2 u7
  clear hp0 hg0 hl120 hS hNN hw hp hv lean stay hO1 hO2 hlow hm hlm hrm HB HBJ HG HW HPA
  have SK:Hid (∀w',Bwz w2 w'->w'.cell? ⟨w.heap.size,0,none⟩=some (.int .i64 p.kind)/\w'.cell? ⟨w.heap.size,1,none⟩=some (.int .i64 p.mode)/\w'.cell? ⟨w.heap.size,2,none⟩=some (.int .i64 p.low)/\w'.cell? ⟨w.heap.size,3,none⟩=some (.int .i64 p.high)/\w'.cell? ⟨w.heap.size,4,none⟩=some (.int .i64 p.size)/\w'.cell? ⟨w.heap.size,5,none⟩=some (.int .i64 p.limit)/\w'.cell? ⟨w.heap.size,6,none⟩=some (.slice x.l p.left.length x.lc)/\w'.cell? ⟨w.heap.size,7,none⟩=some (.slice x.r p.right.length x.rc)/\w'.cell? ⟨w.heap.size,8,none⟩=some (.slice x.lk p.lkeys.length x.lkc)/\w'.cell? ⟨w.heap.size,9,none⟩=some (.slice x.rk p.rkeys.length x.rkc)/\w'.cell? ⟨w.heap.size,10,none⟩=some (.bool p.grouped)/\w'.cell? ⟨w.heap.size,11,none⟩=some (.slice x.g p.group.length x.gc)/\w'.cell? ⟨w.heap.size,12,none⟩=some (.slice x.a p.aggs.length x.ac)/\w'.cell? ⟨w1.heap.size,0,none⟩=some (.int .i64 S.L.lim)/\w'.cell? ⟨w1.heap.size,1,none⟩=some (.slice y.l.m.1.1 y.l.m.1.2.1 y.l.m.1.2.2)/\w'.cell? ⟨w1.heap.size,2,none⟩=some (.slice y.l.ra y.l.rs.length y.l.rc)/\w'.cell? ⟨w1.heap.size,3,none⟩=some (.int .i64 S.R.lim)/\w'.cell? ⟨w1.heap.size,4,none⟩=some (.slice y.r.m.1.1 y.r.m.1.2.1 y.r.m.1.2.2)/\w'.cell? ⟨w1.heap.size,5,none⟩=some (.slice y.r.ra y.r.rs.length y.r.rc)/\w'.cell? ⟨w1.heap.size,6,none⟩=some (.int .i64 lm)/\w'.cell? ⟨w1.heap.size,7,none⟩=some (.int .i64 rm)/\w'.cell? ⟨w1.heap.size,8,none⟩=some (.int .i64 S.seq)):=fun w' hz=>⟨cLz hz v0,cLz hz v1,cLz hz v2,cLz hz v3,cLz hz v4,cLz hz v5,cLz hz v6,cLz hz v7,cLz hz v8,cLz hz v9,cLz hz v10,cLz hz v11,cLz hz v12,cLz hz u0,cLz hz u1,cLz hz u2,cLz hz u3,cLz hz u4,cLz hz u5,cLz hz u6,cLz hz u7,cLz hz u8⟩
  go_upto_region 7 with fail
  refine gr.B8 (S:=fun w'=>w'.cell? ⟨w.heap.size,0,none⟩=some (.int .i64 p.kind)/\w'.cell? ⟨w.heap.size,1,none⟩=some (.int .i64 p.mode)/\w'.cell? ⟨w.heap.size,2,none⟩=some (.int .i64 p.low)/\w'.cell? ⟨w.heap.size,3,none⟩=some (.int .i64 p.high)/\w'.cell? ⟨w.heap.size,4,none⟩=some (.int .i64 p.size)/\w'.cell? ⟨w.heap.size,5,none⟩=some (.int .i64 p.limit)/\w'.cell? ⟨w.heap.size,6,none⟩=some (.slice x.l p.left.length x.lc)/\w'.cell? ⟨w.heap.size,7,none⟩=some (.slice x.r p.right.length x.rc)/\w'.cell? ⟨w.heap.size,8,none⟩=some (.slice x.lk p.lkeys.length x.lkc)/\w'.cell? ⟨w.heap.size,9,none⟩=some (.slice x.rk p.rkeys.length x.rkc)/\w'.cell? ⟨w.heap.size,10,none⟩=some (.bool p.grouped)/\w'.cell? ⟨w.heap.size,11,none⟩=some (.slice x.g p.group.length x.gc)/\w'.cell? ⟨w.heap.size,12,none⟩=some (.slice x.a p.aggs.length x.ac)/\w'.cell? ⟨w1.heap.size,0,none⟩=some (.int .i64 S.L.lim)/\w'.cell? ⟨w1.heap.size,1,none⟩=some (.slice y.l.m.1.1 y.l.m.1.2.1 y.l.m.1.2.2)/\w'.cell? ⟨w1.heap.size,2,none⟩=some (.slice y.l.ra y.l.rs.length y.l.rc)/\w'.cell? ⟨w1.heap.size,3,none⟩=some (.int .i64 S.R.lim)/\w'.cell? ⟨w1.heap.size,4,none⟩=some (.slice y.r.m.1.1 y.r.m.1.2.1 y.r.m.1.2.2)/\w'.cell? ⟨w1.heap.size,5,none⟩=some (.slice y.r.ra y.r.rs.length y.r.rc)/\w'.cell? ⟨w1.heap.size,6,none⟩=some (.int .i64 lm)/\w'.cell? ⟨w1.heap.size,7,none⟩=some (.int .i64 rm)/\w'.cell? ⟨w1.heap.size,8,none⟩=some (.int .i64 S.seq)) 26 rfl hmx (SK.out _ bR.drew) ?_
  intro hHz
  refine wpAnyH_ready (rs:=[0]) (by kernel_rfl) (by simp) ?_
  refine AllReadyH.cons rfl (fun K hK=>?_) AllReadyH.nil
  go_simp
  go_at_call 12
  refine(Lv _).mono ?_
  rintro e x1 ⟨rfl,hx1⟩
  have nx1:Bwz w2 x1:=(Below.refl w2.heap.size w2).drew.trans (hx1.mono (Below.refl w2.heap.size w2).drew.size)
  go_wp2_with fail
  refine hK.out _ _ (SK.out _ nx1) (fun hHz=>?_)
  clear hK K
  try simp only[Act.put,sI,sZ,sS]
  refine tkz 1 43 hHz ?_;refine tkz 2 44 hHz ?_;refine tkz 3 45 hHz ?_;refine tkz 4 46 hHz ?_;refine tkz 5 47 hHz ?_;refine tkz 6 48 hHz ?_;refine tkz 7 49 hHz ?_;refine tkz 8 50 hHz ?_;refine tkz 9 51 hHz ?_
  refine wpAnyH_ready (rs:=[10]) (by kernel_rfl) (by simp) ?_
  refine AllReadyH.cons rfl (fun K hK=>?_) AllReadyH.nil
  go_simp
  go_at_call 25
  refine(KS1.out _ nx1).mono ?_
  rintro e x2 ⟨⟨ad2,cap2,rfl,he2⟩,hx2⟩
  have HE2:Hid (Cl x2 ad2 O1):=he2
  clear he2
  have nx2:Bwz w2 x2:=nx1.trans (hx2.mono nx1.size)
  go_wp2_with fail
  refine hK.out _ _ (SK.out _ nx2) (fun hHz=>?_)
  clear hK K
  try simp only[Act.put,sI,sZ,sS]
  refine wpAnyH_ready (rs:=[11]) (by kernel_rfl) (by simp) ?_
  refine AllReadyH.cons rfl (fun K hK=>?_) AllReadyH.nil
  go_simp
  go_at_call 24
  refine(KK1.out _ _ _ nx2 HE2.out).mono ?_
  rintro e x3 ⟨rfl,hx3⟩
  have nx3:Bwz w2 x3:=nx2.trans (hx3.mono nx2.size)
  go_wp2_with fail
  refine hK.out _ _ (SK.out _ nx3) (fun hHz=>?_)
  clear hK K
  try simp only[Act.put,sI,sZ,sS]
  refine tkz 12 54 hHz ?_;refine tkz 13 55 hHz ?_;refine tkz 14 56 hHz ?_;refine tkz 15 57 hHz ?_;refine tkz 16 58 hHz ?_;refine tkz 17 59 hHz ?_;refine tkz 18 60 hHz ?_;refine tkz 19 61 hHz ?_;refine tkz 20 62 hHz ?_;refine tkz 21 63 hHz ?_
  refine wpAnyH_ready (rs:=[22]) (by kernel_rfl) (by simp) ?_
  refine AllReadyH.cons rfl (fun K hK=>?_) AllReadyH.nil
  go_simp
  go_at_call 25
  refine(KS2.out _ nx3).mono ?_
  rintro e x4 ⟨⟨ad4,cap4,rfl,he4⟩,hx4⟩
  have HE4:Hid (Cl x4 ad4 O2):=he4
  clear he4
  have nx4:Bwz w2 x4:=nx3.trans (hx4.mono nx3.size)
  go_wp2_with fail
  refine hK.out _ _ (SK.out _ nx4) (fun hHz=>?_)
  clear hK K
  try simp only[Act.put,sI,sZ,sS]
  refine wpAnyH_ready (rs:=[23]) (by kernel_rfl) (by simp) ?_
  refine AllReadyH.cons rfl (fun K hK=>?_) AllReadyH.nil
  go_simp
  go_at_call 24
  refine(KK2.out _ _ _ nx4 HE4.out).mono ?_
  rintro e x5 ⟨rfl,hx5⟩
  have nx5:Bwz w2 x5:=nx4.trans (hx5.mono nx4.size)
  go_wp2_with fail
  refine hK.out _ _ (SK.out _ nx5) (fun hHz=>?_)
  clear hK K
  try simp only[Act.put,sI,sZ,sS]
  refine tkz 24 66 hHz ?_;refine tkz 25 4 hHz ?_
  refine wpAnyH_done (by kernel_rfl) ?_ _
  go_wp2
  go_ret
  exact⟨rfl,hbw2.trans (nx5.mono hbw2.size)⟩
 ·have hne:(E !=0)=true:=by simpa using h0
  go_wp2_with fail
  refine(Lv _).mono ?_
  rintro e w5 ⟨rfl,hb5⟩
  go_wp2
  go_ret
  exact⟨rfl,hbw2.trans (hb5.mono hbw2.size)⟩
end jn
end Go.Proofs.YtdohnkkbkfhphaaGreat
