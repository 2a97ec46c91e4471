import Derived.Test.YtdohnkkbkfhphaaGreatPc42
set_option linter.all false
set_option maxHeartbeats 8000000
set_option maxRecDepth 100000
namespace Go.Proofs.YtdohnkkbkfhphaaGreat
open Go.Proofs.Tryz
namespace bf
open Go.ChangeShapes Go.WideShapes Go.ChangeAt Go.RowKit
open vl
attribute [local go_sem] Oper.semAt_some
variable {b : Buf} {k : Nat}
theorem PV{w:World}{x:BX}(h:bufAt w b x)(hk:k<(partsB b).length):
 ((x.m::x.rs).getD k default).1.2.1=((partsB b).getD k default).length/\BD w ((x.m::x.rs).getD k default).1.1 ((x.m::x.rs).getD k default).2/\ERs w ((x.m::x.rs).getD k default).2 ((partsB b).getD k default):=by
 have hk2:k<(x.m::x.rs).length:=by
  have:(partsB b).length=(x.m::x.rs).length:=by simp[partsB,h.rlen]
  omega
 have hm:(x.m::x.rs).getD k default∈x.m::x.rs:=A1 hk2
 have he:ERs w ((x.m::x.rs).getD k default).2 ((partsB b).getD k default):=by
  cases k with
  |zero=>exact h.mem
  |succ k=>
   have hi':k<b.runs.length:=by simpa[partsB]using hk
   simpa[partsB]using h.runs k hi'
 exact⟨by rw[(h.len _ hm).1,he.1],h.ems _ hm,he⟩
theorem U3{j:Nat}(hk:k<(partsB b).length)(hj:j<((partsB b).getD k default).length):((partsB b).getD k default).getD j default∈Ab b:=
 List.mem_flatten.2 ⟨_,A1 hk,A1 hj⟩
theorem Jg(b:Buf)(x:BX)(w:World)(h:bufAt w b x)(hs:(Ab b).length<=100000)(hrow:∀y∈Ab b,y.row.length<=2000000):
 Calls Tryz.prog 81 #[AN b x] w fun r w'=>(∃(hh:Hdr) (es:List EM) (l:List Ent) (f:Bool),r= .returned (.tuple #[hdV hh,.bool f])/\OE w' (w.heap.size+1) (hdV hh) es l/\ES (Ab b) l f)/\Bwz w w':=by
 have HP:Hid (∀k,k<(partsB b).length->((x.m::x.rs).getD k default).1.2.1=((partsB b).getD k default).length/\BD w ((x.m::x.rs).getD k default).1.1 ((x.m::x.rs).getD k default).2/\ERs w ((x.m::x.rs).getD k default).2 ((partsB b).getD k default)):=fun k hk=>PV h hk
 have HROW:Hid (∀k j,k<(partsB b).length->j<((partsB b).getD k default).length->(((partsB b).getD k default).getD j default).row.length<=2000000):=fun k j hk hj=>hrow _ (U3 hk hj)
 have HD:Hid (EU w x.ra (x.rs.map (·.1))):=h.hds
 have hfew:=h.few
 have HPN:Hid ((partsB b).length=x.rs.length+1):=by show _=_;simp[partsB,h.rlen]
 have HS:Hid ((partsB b).flatten.length<=100000):=hs
 have HEB:Hid (Ab b=(partsB b).flatten):=rfl
 clear h hs hrow
 obtain⟨EB,hEB⟩:=nM (Ab b)
 rw[hEB]at HEB⊢
 obtain⟨PB,hPB⟩:=nM (partsB b)
 rw[hPB]at HP HROW HPN HS HEB
 clear hEB hPB
 obtain⟨ra,rc,⟨⟨m1,m2,m3⟩,ml⟩,rs⟩:=x
 obtain⟨lim,mem,runs⟩:=b
 unfold AN hdV
 dsimp only at HP HD hfew HPN⊢
 obtain⟨n,hn⟩:∃n,rs.length=n:=⟨_,rfl⟩
 have HN:Hid (rs.length=n):=hn
 rw[hn]at HPN hfew
 rw[hn]
 clear hn
 have hb0:Bwz w (w.alloc (.cells #[.int .i64 lim,.slice m1 m2 m3,.slice ra n rc] 29)):=bR.alloc nR _
 have k0:(w.alloc (.cells #[.int .i64 lim,.slice m1 m2 m3,.slice ra n rc] 29)).cell? ⟨w.heap.size,0,none⟩=some (.int .i64 lim):=by go_simp
 have k1:(w.alloc (.cells #[.int .i64 lim,.slice m1 m2 m3,.slice ra n rc] 29)).cell? ⟨w.heap.size,1,none⟩=some (.slice m1 m2 m3):=by go_simp
 have k2:(w.alloc (.cells #[.int .i64 lim,.slice m1 m2 m3,.slice ra n rc] 29)).cell? ⟨w.heap.size,2,none⟩=some (.slice ra n rc):=by go_simp
 have hW0s:(w.alloc (.cells #[.int .i64 lim,.slice m1 m2 m3,.slice ra n rc] 29)).heap.size=w.heap.size+1:=by simp
 go_enter func81,ntmps81
 go_wp2
 generalize w.alloc (.cells #[.int .i64 lim,.slice m1 m2 m3,.slice ra n rc] 29)=W0 at *
 go_loopw [4,5,6,7,8,9] (fun o fi ii _ _ _ wr=> ∃(k:Nat) (hh:Hdr) (es:List EM) (l:List Ent) (f:Bool),o=hdV hh/\fi= .bool f/\ii= .int .i64 ((k:Int) - 1)/\k<=n+1/\OE wr W0.heap.size (hdV hh) es l/\ES ((PB.take k).flatten) l f/\Bwz W0 wr) (fun _ _ ii _ _ _ _=>n+1 - (intOf ii+1).toNat)
 case atStart=>exact⟨0,(none,0,0),[],[],true,rfl,rfl,rfl,Nat.zero_le _,CA nR,ES.nil,bR⟩
 case round=>
  obtain⟨k,hh,es,l,f,rfl,rfl,rfl,hk,hoe,hes,hnx⟩:=hrel
  have HOE:Hid (OE wr W0.heap.size (hdV hh) es l):=hoe
  have HES:Hid (ES ((PB.take k).flatten) l f):=hes
  have hbr:Bwz w wr:=hb0.trans (hnx.mono (by omega))
  have c0:=cLz hnx k0
  have c1:=cLz hnx k1
  have c2:=cLz hnx k2
  have lw:w.heap.size<wr.heap.size:=bLt _ _ c0
  clear hoe hes
  by_cases hlt:k<n+1
  ·have hkp:k<PB.length:=by rw[HPN.out];exact hlt
   cases k with
   |zero=>
    obtain⟨K,HK⟩:∃z:Nat,Hid (z=0):=⟨0,rfl⟩
    have HPK:=HP.out 0 (by rw[HPN.out];omega)
    obtain⟨pl,hpl⟩:=nM ((PB.getD K default).length)
    have HPL:Hid ((PB.getD K default).length=pl):=hpl
    have hm2:pl=m2:=by rw[<-hpl,HK.out,<-HPK.1];rfl
    have HEM:Hid (BD w m1 ml):=HPK.2.1
    have HER:Hid (ERs w ml (PB.getD K default)):=by rw[HK.out];exact HPK.2.2
    have hkp:K<PB.length:=by rw[HK.out];exact hkp
    have HES:Hid (ES ((PB.take K).flatten) l f):=by rw[HK.out];exact HES.out
    obtain⟨pt,hpt⟩:=nM ml
    rw[hpt]at HEM HER
    subst hm2
    have hbig:pl<=9223372036854775807:=by
     have h1:=Hm (ps:=PB) (i:=K) (k:=pl) hkp
     unfold Fc at h1
     rw[lAp,List.length_take,hpl]at h1
     have:=HS.out
     omega
    clear HPK hpl hpt
    obtain⟨o1,o2,o3⟩:=hh
    unfold hdV
    dsimp only
    go_wp2
    go_loopw [4,5,8,9] (fun o fi jj _ wr=> ∃(j:Nat) (hh:Hdr) (es:List EM) (l:List Ent) (f:Bool),o=hdV hh/\fi= .bool f/\jj= .int .i64 j/\j<=pl/\OE wr W0.heap.size (hdV hh) es l/\ES (Fc PB K j) l f/\Bwz W0 wr) (fun _ _ jj _ _=>pl - (intOf jj).toNat)
    case atStart=>exact⟨0,(o1,o2,o3),es,l,f,rfl,rfl,rfl,Nat.zero_le _,HOE.out,by rw[Ml];exact HES.out,hnx⟩
    case round=>
     obtain⟨j,hh2,es2,l2,f2,rfl,rfl,rfl,hj,hoe2,hes2,hny⟩:=hrel
     have HOE2:Hid (OE wr W0.heap.size (hdV hh2) es2 l2):=hoe2
     have HES2:Hid (ES (Fc PB K j) l2 f2):=hes2
     have hbr2:Bwz w wr:=hb0.trans (hny.mono (by omega))
     have e0:=cLz hny k0
     have e1:=cLz hny k1
     have e2:=cLz hny k2
     have lw2:w.heap.size<wr.heap.size:=bLt _ _ e0
     have hl2:l2.length<=100000:=Nat.le_trans hes2.len (Nat.le_trans (Hm hkp) HS.out)
     obtain⟨h1,h2,h3⟩:=hh2
     have hform:h2=es2.length:=by
      obtain⟨ad,cp,e⟩:=hoe2.form
      unfold hdV at e
      cases e;rfl
     subst hform
     unfold hdV at HOE2⊢
     dsimp only at HOE2⊢
     by_cases hjl:j<pl
     ·have hjl2:j<(PB.getD K default).length:=by rw[HPL.out];exact hjl
      obtain⟨b1,o1,ee,z1,z2,z3,z4,z5⟩:=Bk HEM.out hbr2 j (by rw[HER.out.1,HPL.out];exact hjl)
      subst ee
      have her:=HER.out.2 j hjl2
      have KI:Hid (CTz 46 #[.slice h1 es2.length h3,(pt.getD j default).val] wr fun r w'=>(∃(hh:Hdr) (es':List EM) (l':List Ent),r= .returned (.tuple #[hdV hh,.bool (!hasB l2 (Ay ((PB.getD K default).getD j default)))])/\OE w' W0.heap.size (hdV hh) es' l'/\(hasB l2 (Ay ((PB.getD K default).getD j default))=true->l'=l2)/\(hasB l2 (Ay ((PB.getD K default).getD j default))=false->l'.Perm (((PB.getD K default).getD j default)::l2)/\C9 l')/\(∀g,(hdV hh).ownBlock=some g->(Value.slice h1 es2.length h3).ownBlock=some g\/wr.heap.size<=g))/\Below W0.heap.size wr w'/\Left wr w' W0.heap.size (.slice h1 es2.length h3)):=
       It W0.heap.size h1 h3 es2 l2 (pt.getD j default) ((PB.getD K default).getD j default) wr HOE2.out (fun w1 hb1=>her.below (hbr2.trans (hb1.mono (by omega)))) HES2.out.rise hl2 (HROW.out K j hkp hjl2)
      have HNX:Hid (Fc PB K (j+1)=Fc PB K j++[(PB.getD K default).getD j default]):=Mj hjl2
      obtain⟨⟨fk,ft,fs,⟨f1,f3,f4⟩,fm⟩,hz⟩:∃z,pt.getD j default=z:=⟨_,rfl⟩
      rw[hz]at z1 z2 z3 z4 z5 KI
      unfold EM.val at KI
      unfold hdV at z4
      dsimp only at z1 z2 z3 z4 z5 KI
      rw[show hdV (f1,f3,f4)= .slice f1 f3 f4 from rfl]at KI
      obtain⟨HB,hHB⟩:=nM (hasB l2 (Ay ((PB.getD K default).getD j default)))
      have HHB:Hid (hasB l2 (Ay ((PB.getD K default).getD j default))=HB):=hHB
      rw[hHB]at KI
      have i1:(0:Int)<=(j:Int):=by omega
      have i2:(j:Int)<(pl:Int):=by omega
      have lb1:b1<wr.heap.size:=bLt _ _ z1
      clear hz hHB her hoe2 hes2 hl2
      cases f2 with
      |true=>
       go_wp2_with (go_at_call 46;refine KI.out.mono ?_;rintro e6 w6 ⟨⟨⟨q1,q2,q3⟩,es6,l6,rfl,hoe6,ht6,hf6,_⟩,hb6,_⟩;unfold hdV at hoe6⊢;dsimp only at hoe6⊢;have HO6:Hid (OE w6 W0.heap.size (.slice q1 q2 q3) es6 l6/\(HB=true->l6=l2)/\(HB=false->l6.Perm (((PB.getD K default).getD j default)::l2)/\C9 l6)):=⟨hoe6,ht6,hf6⟩;clear hoe6 ht6 hf6;cases HB)
       all_goals
        go_roundw
        case rel=>exact⟨j+1,(q1,q2,q3),es6,l6,_,rfl,rfl,by go_num,by omega,HO6.out.1,by rw[HNX.out];first|exact HES2.out.more HHB.out (HO6.out.2.2 rfl).1 (HO6.out.2.2 rfl).2|(rw[HO6.out.2.1 rfl];exact HES2.out.there HHB.out),hny.trans hb6⟩
        case measure=>simp[intOf];omega
      |false=>
       go_wp2_with (go_at_call 46;refine KI.out.mono ?_;rintro e6 w6 ⟨⟨⟨q1,q2,q3⟩,es6,l6,rfl,hoe6,ht6,hf6,_⟩,hb6,_⟩;unfold hdV at hoe6⊢;dsimp only at hoe6⊢;have HO6:Hid (OE w6 W0.heap.size (.slice q1 q2 q3) es6 l6/\(HB=true->l6=l2)/\(HB=false->l6.Perm (((PB.getD K default).getD j default)::l2)/\C9 l6)):=⟨hoe6,ht6,hf6⟩;clear hoe6 ht6 hf6;cases HB)
       all_goals
        go_roundw
        case rel=>exact⟨j+1,(q1,q2,q3),es6,l6,_,rfl,rfl,by go_num,by omega,HO6.out.1,by rw[HNX.out];first|exact HES2.out.more HHB.out (HO6.out.2.2 rfl).1 (HO6.out.2.2 rfl).2|(rw[HO6.out.2.1 rfl];exact HES2.out.there HHB.out),hny.trans hb6⟩
        case measure=>simp[intOf];omega
     ·have hje:j=pl:=by omega
      subst hje
      go_wp2
      go_roundw
      case rel=>exact⟨K+1,(h1,es2.length,h3),es2,l2,f2,rfl,rfl,(by have hK:=HK.out;subst hK;first|rfl|go_num|(congr 1;omega)),by have:=HK.out;omega,HOE2.out,by rw[<-ID hkp,HPL.out];exact HES2.out,hny⟩
      case measure=>(have hK:=HK.out;subst hK;simp[intOf]<;>omega)
   |succ k=>
    obtain⟨K,HK⟩:∃z:Nat,Hid (z=k+1):=⟨k+1,rfl⟩
    obtain⟨b2,o4,e4,x4⟩:=HD.out k (by rw[lMp,HN.out];omega)
    subst e4
    have z0:=cLz hbr x4
    have ee1:(rs.map (·.1)).getD k (none,0,0)=(rs.getD k default).1:=by rw[gDe,List.getElem?_map,gEe (by rw[HN.out];omega),gDe,gEe (by rw[HN.out];omega)];rfl
    rw[ee1]at z0
    have HPK:Hid ((rs.getD k default).1.2.1=(PB.getD (k+1) default).length/\BD w (rs.getD k default).1.1 (rs.getD k default).2/\ERs w (rs.getD k default).2 (PB.getD (k+1) default)):=HP.out (k+1) hkp
    obtain⟨⟨⟨m4,m5,m6⟩,pt⟩,hz⟩:∃z,rs.getD k default=z:=⟨_,rfl⟩
    rw[hz]at z0 HPK
    unfold hdV at z0
    dsimp only at z0 HPK
    obtain⟨pl,hpl⟩:=nM ((PB.getD K default).length)
    have HPL:Hid ((PB.getD K default).length=pl):=hpl
    have hm2:pl=m5:=by rw[<-hpl,HK.out,<-HPK.out.1]
    have HEM:Hid (BD w m4 pt):=HPK.out.2.1
    have HER:Hid (ERs w pt (PB.getD K default)):=by rw[HK.out];exact HPK.out.2.2
    have hkp:K<PB.length:=by rw[HK.out];exact hkp
    have HES:Hid (ES ((PB.take K).flatten) l f):=by rw[HK.out];exact HES.out
    subst hm2
    have hbig:pl<=9223372036854775807:=by
     have h1:=Hm (ps:=PB) (i:=K) (k:=pl) hkp
     unfold Fc at h1
     rw[lAp,List.length_take,hpl]at h1
     have:=HS.out
     omega
    have hsm:((k+1:Nat):Int) - 1=(k:Int):=by omega
    have i3:(0:Int)<=(k:Int):=by omega
    have i4:(k:Int)<(n:Int):=by omega
    clear HPK hpl hz ee1 x4
    obtain⟨o1,o2,o3⟩:=hh
    unfold hdV
    dsimp only
    rw[hsm]
    clear hsm
    go_wp2
    go_loopw [4,5,8,9] (fun o fi jj _ wr=> ∃(j:Nat) (hh:Hdr) (es:List EM) (l:List Ent) (f:Bool),o=hdV hh/\fi= .bool f/\jj= .int .i64 j/\j<=pl/\OE wr W0.heap.size (hdV hh) es l/\ES (Fc PB K j) l f/\Bwz W0 wr) (fun _ _ jj _ _=>pl - (intOf jj).toNat)
    case atStart=>exact⟨0,(o1,o2,o3),es,l,f,rfl,rfl,rfl,Nat.zero_le _,HOE.out,by rw[Ml];exact HES.out,hnx⟩
    case round=>
     obtain⟨j,hh2,es2,l2,f2,rfl,rfl,rfl,hj,hoe2,hes2,hny⟩:=hrel
     have HOE2:Hid (OE wr W0.heap.size (hdV hh2) es2 l2):=hoe2
     have HES2:Hid (ES (Fc PB K j) l2 f2):=hes2
     have hbr2:Bwz w wr:=hb0.trans (hny.mono (by omega))
     have e0:=cLz hny k0
     have e1:=cLz hny k1
     have e2:=cLz hny k2
     have lw2:w.heap.size<wr.heap.size:=bLt _ _ e0
     have hl2:l2.length<=100000:=Nat.le_trans hes2.len (Nat.le_trans (Hm hkp) HS.out)
     obtain⟨h1,h2,h3⟩:=hh2
     have hform:h2=es2.length:=by
      obtain⟨ad,cp,e⟩:=hoe2.form
      unfold hdV at e
      cases e;rfl
     subst hform
     unfold hdV at HOE2⊢
     dsimp only at HOE2⊢
     by_cases hjl:j<pl
     ·have hjl2:j<(PB.getD K default).length:=by rw[HPL.out];exact hjl
      obtain⟨b1,o1,ee,z1,z2,z3,z4,z5⟩:=Bk HEM.out hbr2 j (by rw[HER.out.1,HPL.out];exact hjl)
      subst ee
      have her:=HER.out.2 j hjl2
      have KI:Hid (CTz 46 #[.slice h1 es2.length h3,(pt.getD j default).val] wr fun r w'=>(∃(hh:Hdr) (es':List EM) (l':List Ent),r= .returned (.tuple #[hdV hh,.bool (!hasB l2 (Ay ((PB.getD K default).getD j default)))])/\OE w' W0.heap.size (hdV hh) es' l'/\(hasB l2 (Ay ((PB.getD K default).getD j default))=true->l'=l2)/\(hasB l2 (Ay ((PB.getD K default).getD j default))=false->l'.Perm (((PB.getD K default).getD j default)::l2)/\C9 l')/\(∀g,(hdV hh).ownBlock=some g->(Value.slice h1 es2.length h3).ownBlock=some g\/wr.heap.size<=g))/\Below W0.heap.size wr w'/\Left wr w' W0.heap.size (.slice h1 es2.length h3)):=
       It W0.heap.size h1 h3 es2 l2 (pt.getD j default) ((PB.getD K default).getD j default) wr HOE2.out (fun w1 hb1=>her.below (hbr2.trans (hb1.mono (by omega)))) HES2.out.rise hl2 (HROW.out K j hkp hjl2)
      have HNX:Hid (Fc PB K (j+1)=Fc PB K j++[(PB.getD K default).getD j default]):=Mj hjl2
      obtain⟨⟨fk,ft,fs,⟨f1,f3,f4⟩,fm⟩,hz⟩:∃z,pt.getD j default=z:=⟨_,rfl⟩
      rw[hz]at z1 z2 z3 z4 z5 KI
      unfold EM.val at KI
      unfold hdV at z4
      dsimp only at z1 z2 z3 z4 z5 KI
      rw[show hdV (f1,f3,f4)= .slice f1 f3 f4 from rfl]at KI
      obtain⟨HB,hHB⟩:=nM (hasB l2 (Ay ((PB.getD K default).getD j default)))
      have HHB:Hid (hasB l2 (Ay ((PB.getD K default).getD j default))=HB):=hHB
      rw[hHB]at KI
      have i1:(0:Int)<=(j:Int):=by omega
      have i2:(j:Int)<(pl:Int):=by omega
      have lb1:b1<wr.heap.size:=bLt _ _ z1
      clear hz hHB her hoe2 hes2 hl2
      cases f2 with
      |true=>
       go_wp2_with (go_at_call 46;refine KI.out.mono ?_;rintro e6 w6 ⟨⟨⟨q1,q2,q3⟩,es6,l6,rfl,hoe6,ht6,hf6,_⟩,hb6,_⟩;unfold hdV at hoe6⊢;dsimp only at hoe6⊢;have HO6:Hid (OE w6 W0.heap.size (.slice q1 q2 q3) es6 l6/\(HB=true->l6=l2)/\(HB=false->l6.Perm (((PB.getD K default).getD j default)::l2)/\C9 l6)):=⟨hoe6,ht6,hf6⟩;clear hoe6 ht6 hf6;cases HB)
       all_goals
        go_roundw
        case rel=>exact⟨j+1,(q1,q2,q3),es6,l6,_,rfl,rfl,by go_num,by omega,HO6.out.1,by rw[HNX.out];first|exact HES2.out.more HHB.out (HO6.out.2.2 rfl).1 (HO6.out.2.2 rfl).2|(rw[HO6.out.2.1 rfl];exact HES2.out.there HHB.out),hny.trans hb6⟩
        case measure=>simp[intOf];omega
      |false=>
       go_wp2_with (go_at_call 46;refine KI.out.mono ?_;rintro e6 w6 ⟨⟨⟨q1,q2,q3⟩,es6,l6,rfl,hoe6,ht6,hf6,_⟩,hb6,_⟩;unfold hdV at hoe6⊢;dsimp only at hoe6⊢;have HO6:Hid (OE w6 W0.heap.size (.slice q1 q2 q3) es6 l6/\(HB=true->l6=l2)/\(HB=false->l6.Perm (((PB.getD K default).getD j default)::l2)/\C9 l6)):=⟨hoe6,ht6,hf6⟩;clear hoe6 ht6 hf6;cases HB)
       all_goals
        go_roundw
        case rel=>exact⟨j+1,(q1,q2,q3),es6,l6,_,rfl,rfl,by go_num,by omega,HO6.out.1,by rw[HNX.out];first|exact HES2.out.more HHB.out (HO6.out.2.2 rfl).1 (HO6.out.2.2 rfl).2|(rw[HO6.out.2.1 rfl];exact HES2.out.there HHB.out),hny.trans hb6⟩
        case measure=>simp[intOf];omega
     ·have hje:j=pl:=by omega
      subst hje
      go_wp2
      go_roundw
      case rel=>exact⟨K+1,(h1,es2.length,h3),es2,l2,f2,rfl,rfl,(by have hK:=HK.out;subst hK;first|rfl|go_num|(congr 1;omega)),by have:=HK.out;omega,HOE2.out,by rw[<-ID hkp,HPL.out];exact HES2.out,hny⟩
      case measure=>(have hK:=HK.out;subst hK;simp[intOf]<;>omega)
  ·have hke:k=n+1:=by omega
   subst hke
   obtain⟨o1,o2,o3⟩:=hh
   unfold hdV
   dsimp only
   have hnot:¬(((n+1:Nat):Int) - 1<(n:Int)):=by omega
   have hsm:((n+1:Nat):Int) - 1=(n:Int):=by omega
   rw[hsm]
   clear hsm hnot
   go_wp2
   go_ret2
   refine⟨⟨(o1,o2,o3),es,l,f,rfl,?_,?_⟩,hbr⟩
   ·rw[<-hW0s];exact HOE.out
   ·rw[HEB.out]
    have:=HES.out
    rw[List.take_of_length_le (by rw[HPN.out];exact Nat.le_refl _)]at this
    exact this
theorem S3(e:EM)(x:Ent)(w:World)(h:ER w e x)(hw:wfE x)(hms:x.key.size<=140737488355328):
 Calls Tryz.prog 82 #[e.val] w fun r w'=>r= .returned (.bool (Ct x))/\Bwz w w':=by
 obtain⟨k1,t1,s1,⟨a1,b1,c1⟩,m1⟩:=e
 obtain⟨h1,h2,h3,h4,h5,h6⟩:=h
 obtain⟨xk,xt,xs,xr,xm⟩:=x
 obtain⟨w1,w2,w3⟩:=hw
 dsimp only at h1 h2 h3 h4 h5 h6 w1 w2 w3 hms
 subst h1 h2 h3 h4 h5
 obtain⟨R,hR⟩:=nM (Ct ⟨k1,t1,s1,xr,m1⟩)
 have HRt:Hid (DH ⟨k1,t1,s1,xr,m1⟩->true=R):=fun h=>by rw[<-hR,Ei h]
 have HRf:Hid (¬DH ⟨k1,t1,s1,xr,m1⟩->false=R):=fun h=>by rw[<-hR,Kr h]
 have KK:=hIz (fun(w1:World) (hb:Bwz w w1)=>Cy a1 c1 xr w1 (vl.Ac h6 hb) w2 w3)
 have KF:=hIz (fun(w1:World)=>tm.Bg t1 w1)
 rw[hR]
 obtain⟨ke,hke⟩:=nM (Au xr)
 rw[hke]at KK
 have HKE:Hid (Au xr=ke):=hke
 obtain⟨n,hn⟩:=nM xr.length
 rw[hn]at KK
 unfold EM.val hdV
 dsimp only
 rw[hn]
 clear hR hke hn h6 w2 w3 w1
 have hb0:Bwz w (w.alloc (.cells #[.string k1,.int .i64 t1,.int .i64 s1,.slice a1 n c1,.bool m1] 63)):=bR.alloc nR _
 cases hf:tm.Bb t1 with
 |false=>
  have HE:Hid (false=R):=HRf.out (fun h=>by have:=h.2.2.1;rw[hf]at this;cases this)
  rw[hf]at KF
  go_enter func82,ntmps82
  go_wp2_with (go_at_call 66;refine(KF.out _).mono ?_;rintro e w' ⟨rfl,hww⟩;subst hww)
  go_ret
  exact⟨Aa HE.out,hb0⟩
 |true=>
  rw[hf]at KF
  by_cases s0:s1<0
  ·have HE:Hid (false=R):=HRf.out (fun h=>by have:=h.2.2.2.1;dsimp only at this;omega)
   go_enter func82,ntmps82
   go_wp2_with (go_at_call 66;refine(KF.out _).mono ?_;rintro e w' ⟨rfl,hww⟩;subst hww)
   go_ret
   exact⟨Aa HE.out,hb0⟩
  ·by_cases s2:s1>1099511627776
   ·have HE:Hid (false=R):=HRf.out (fun h=>by have:=h.2.2.2.2;dsimp only at this;omega)
    go_enter func82,ntmps82
    go_wp2_with (go_at_call 66;refine(KF.out _).mono ?_;rintro e w' ⟨rfl,hww⟩;subst hww)
    go_ret
    exact⟨Aa HE.out,hb0⟩
   ·by_cases h0:ke=0
    ·subst h0
     obtain⟨IB,hIB⟩:∃IB:Bool,(IB=true↔isKey k1):=by
      rcases Classical.em (isKey k1)with h|h
      ·exact⟨true,by simp[h]⟩
      ·exact⟨false,by simp[h]⟩
     have KB:Hid (∀w1,CTz 140 #[.string k1] w1 fun e w'=>(∃ad len cap,e= .returned (.tuple #[.slice ad len cap,.bool IB]))/\Bwz w1 w'):=fun w1=>by
      cases hI:IB with
      |true=>
       obtain⟨r0,hr0,hk0⟩:=hIB.1 hI
       exact(TZ k1 r0 w1 hms hr0 hk0).mono (fun e w' ⟨⟨ad,cap,he,_⟩,hb⟩=>⟨⟨ad,_,cap,he⟩,hb⟩)
      |false=>
       have hno:¬isKey k1:=fun h=>by have:=hIB.2 h;rw[hI]at this;cases this
       exact(Wm k1 w1 hms (UA hno)).mono (fun e w' ⟨he,hb⟩=>⟨⟨_,_,_,he⟩,hb⟩)
     have HE:Hid (IB=R):=by
      show IB=R
      cases hI:IB with
      |true=>exact HRt.out ⟨hIB.1 hI,HKE.out,hf,by dsimp only;omega,by dsimp only;omega⟩
      |false=>exact HRf.out (fun h=>by have:=hIB.2 h.1;rw[hI]at this;cases this)
     clear hIB
     go_enter func82,ntmps82
     go_wp2_with
      (first
       |(go_at_call 66;refine(KF.out _).mono ?_;rintro e w' ⟨rfl,hww⟩;subst hww)
       |(go_at_call 83;refine(KK.out _ hb0).mono ?_;rintro e wa ⟨rfl,hb1⟩;have hba:Bwz w wa:=hb0.trans (hb1.mono hb0.size);have c0:wa.cell? ⟨w.heap.size,0,none⟩=some (.string k1):=(by rw[hb1.cell (p:=⟨w.heap.size,0,none⟩) (by simp)];go_simp))
       |(go_at_call 140;refine(KB.out _).mono ?_;rintro e wb ⟨⟨ad,len,cap,rfl⟩,hb2⟩))
     go_ret
     exact⟨Aa HE.out,hba.trans (hb2.mono hba.size)⟩
    ·have h0':(ke !=0)=true:=by simpa using h0
     have HE:Hid (false=R):=HRf.out (fun h=>h0 (by rw[<-HKE.out];exact h.2.1))
     have KB:Hid True:=trivial
     go_enter func82,ntmps82
     go_wp2_with (first
      |(go_at_call 66;refine(KF.out _).mono ?_;rintro e w' ⟨rfl,hww⟩;subst hww)
      |(go_at_call 83;refine(KK.out _ hb0).mono ?_;rintro e wa ⟨rfl,hb1⟩;have hba:Bwz w wa:=hb0.trans (hb1.mono hb0.size)))
     go_ret
     exact⟨Aa HE.out,hba⟩
def upB(l:List Ent):Bool:=allB (l.length - 1) fun i=>decide (ltP (l.getD i default) (l.getD (i+1) default))
theorem J8{l:List Ent}:upB l=true↔C9 l:=by
 unfold upB
 rw[A9]
 constructor
 ·exact fun h=>GZ fun i hi=>of_decide_eq_true (h i (by omega))
 ·exact fun h i hi=>decide_eq_true (Lx h i (by omega))
theorem Kd(x:Int):IntKind.i64.wrap x=(x+9223372036854775808) % 18446744073709551616 - 9223372036854775808:=by
 simp only[IntKind.wrap,IntKind.signed,IntKind.bits]
 simp
 split<;>omega
theorem Mr(a:Option Addr)(c:Nat)(es:List EM)(l:List Ent)(w:World)(ha:BD w a es)(hr:ERs w es l)(hl:l.length<=1000000):
 Calls Tryz.prog 80 #[.slice a l.length c] w fun e w'=>e= .returned (.bool (upB l))/\Bwz w w':=by
 have HA:Hid (BD w a es):=ha
 have HR:Hid (ERs w es l):=hr
 obtain⟨R,hR⟩:=nM (upB l)
 have HF:Hid (∀k,k+1<l.length->¬ltP (l.getD k default) (l.getD (k+1) default)->false=R):=fun k hk h=>by
  rw[<-hR];unfold upB;exact(Dc (by omega) (decide_eq_false h)).symm
 have HT:Hid ((∀k,k+1<l.length->ltP (l.getD k default) (l.getD (k+1) default))->true=R):=fun h=>by
  rw[<-hR];exact(J8.2 (GZ h)).symm
 rw[hR]
 obtain⟨n,hn⟩:∃n,l.length=n:=⟨_,rfl⟩
 have HN:Hid (l.length=n):=hn
 rw[hn]at hl HF HT⊢
 clear hn ha hr hR
 go_enter func80,ntmps80
 go_wp2
 go_loopw [3] (fun i wr=> ∃k:Nat,(k=0\/k+1<=n)/\i= .int .i64 ((k:Int)+1)/\Bwz w wr/\∀j,j<k->ltP (l.getD j default) (l.getD (j+1) default)) (fun i _=>n - (intOf i).toNat)
 case atStart=>exact⟨0,.inl rfl,rfl,bR,fun j hj=>absurd hj (Nat.not_lt_zero j)⟩
 case round=>
  obtain⟨k,hk,rfl,hnx,hall⟩:=hrel
  have HAL:Hid (∀j,j<k->ltP (l.getD j default) (l.getD (j+1) default)):=hall
  clear hall
  by_cases hlt:k+1<n
  ·obtain⟨b1,o1,e1,x1,x2,x3,x4,x5⟩:=HA.out k (by rw[HR.out.1,HN.out];omega)
   obtain⟨b2,o2,e2,y1,y2,y3,y4,y5⟩:=HA.out (k+1) (by rw[HR.out.1,HN.out];exact hlt)
   rw[e1]at e2
   cases e2
   subst e1
   have z1:=cLz hnx x1
   have z2:=cLz hnx x2
   have z3:=cLz hnx x3
   have z4:=cLz hnx x4
   have z5:=cLz hnx x5
   have u1:=cLz hnx y1
   have u2:=cLz hnx y2
   have u3:=cLz hnx y3
   have u4:=cLz hnx y4
   have u5:=cLz hnx y5
   clear x1 x2 x3 x4 x5 y1 y2 y3 y4 y5
   have h1:=HR.out.2 k (by rw[HN.out];omega)
   have h2:=HR.out.2 (k+1) (by rw[HN.out];exact hlt)
   have KC:Hid (∀w1,CTz 55 #[(es.getD k default).val,(es.getD (k+1) default).val] w1 fun r w'=>r= .returned (.int .i64 (DG (l.getD k default) (l.getD (k+1) default)))/\Bwz w1 w'):=fun w1=>by
    have k0:=Ja (es.getD k default) (es.getD (k+1) default) w1
    rwa[Hx h1 h2]at k0
   obtain⟨cv,hcv⟩:=nM (DG (l.getD k default) (l.getD (k+1) default))
   have HCV:Hid (DG (l.getD k default) (l.getD (k+1) default)=cv):=hcv
   rw[hcv]at KC
   obtain⟨⟨ek,et,es1,⟨r1,r2,r3⟩,em⟩,hz⟩:∃z,es.getD k default=z:=⟨_,rfl⟩
   obtain⟨⟨fk,ft,fs,⟨q1,q2,q3⟩,fm⟩,hz'⟩:∃z,es.getD (k+1) default=z:=⟨_,rfl⟩
   rw[hz]at z1 z2 z3 z4 z5 KC
   rw[hz']at u1 u2 u3 u4 u5 KC
   unfold EM.val hdV at KC
   unfold hdV at z4 u4
   dsimp only at z1 z2 z3 z4 z5 u1 u2 u3 u4 u5 KC
   clear hz hz' hcv h1 h2
   have i1:(0:Int)<=(k:Int):=by omega
   have i2:(k:Int)<(n:Int):=by omega
   have i3:(0:Int)<=(k:Int)+1:=by omega
   have i4:(k:Int)+1<(n:Int):=by omega
   have hw1:IntKind.i64.wrap ((k:Int)+1 - 1)=(k:Int):=by rw[Kd];omega
   have hw3:(k:Int)+1 - 1=(k:Int):=by omega
   have hw4:IntKind.i64.wrap (k:Int)=(k:Int):=by rw[Kd];omega
   have hw5:IntKind.i64.wrap ((k:Int)+1)=(k:Int)+1:=by rw[Kd];omega
   have hw2:((k:Int)+1).toNat=k+1:=by omega
   by_cases v1:cv<0
   ·have v1':¬cv≥0:=by omega
    have HLT:Hid (ltP (l.getD k default) (l.getD (k+1) default)):=Fm.1 (by rw[HCV.out];exact v1)
    go_wp2
    go_region_held3
     (fun w'=>w'.cell? ⟨b1,o1+k * 5,none⟩=some (.string ek)/\w'.cell? ⟨b1,o1+k * 5+1,none⟩=some (.int .i64 et)/\w'.cell? ⟨b1,o1+k * 5+1+1,none⟩=some (.int .i64 es1)/\w'.cell? ⟨b1,o1+k * 5+1+1+1,none⟩=some (.slice r1 r2 r3)/\w'.cell? ⟨b1,o1+k * 5+1+1+1+1,none⟩=some (.bool em)/\w'.cell? ⟨b1,o1+(k+1) * 5,none⟩=some (.string fk)/\w'.cell? ⟨b1,o1+(k+1) * 5+1,none⟩=some (.int .i64 ft)/\w'.cell? ⟨b1,o1+(k+1) * 5+1+1,none⟩=some (.int .i64 fs)/\w'.cell? ⟨b1,o1+(k+1) * 5+1+1+1,none⟩=some (.slice q1 q2 q3)/\w'.cell? ⟨b1,o1+(k+1) * 5+1+1+1+1,none⟩=some (.bool fm))
     (first|go_keep|exact⟨cLz hbq z1,cLz hbq z2,cLz hbq z3,cLz hbq z4,cLz hbq z5,cLz hbq u1,cLz hbq u2,cLz hbq u3,cLz hbq u4,cLz hbq u5⟩)
     (first|(go_at_call 55;refine(KC.out _).mono ?_;rintro e wq ⟨rfl,hbq0⟩;have hbq:Bwz wr wq:=bR.drew.trans hbq0))
    all_goals
     go_wp2
     go_roundw
     case rel=>exact⟨k+1,.inr (by omega),by go_num,hnx.trans (hbq.mono hnx.size),fun j hj=>by
      rcases Nat.lt_succ_iff_lt_or_eq.1 hj with h|h
      ·exact HAL.out j h
      ·rw[h];exact HLT.out⟩
     case measure=>simp[intOf];omega
   ·have v1':cv≥0:=by omega
    have HE:Hid (false=R):=HF.out k hlt (fun h=>v1 (by rw[<-HCV.out];exact Fm.2 h))
    go_wp2
    go_region_held3
     (fun w'=>w'.cell? ⟨b1,o1+k * 5,none⟩=some (.string ek)/\w'.cell? ⟨b1,o1+k * 5+1,none⟩=some (.int .i64 et)/\w'.cell? ⟨b1,o1+k * 5+1+1,none⟩=some (.int .i64 es1)/\w'.cell? ⟨b1,o1+k * 5+1+1+1,none⟩=some (.slice r1 r2 r3)/\w'.cell? ⟨b1,o1+k * 5+1+1+1+1,none⟩=some (.bool em)/\w'.cell? ⟨b1,o1+(k+1) * 5,none⟩=some (.string fk)/\w'.cell? ⟨b1,o1+(k+1) * 5+1,none⟩=some (.int .i64 ft)/\w'.cell? ⟨b1,o1+(k+1) * 5+1+1,none⟩=some (.int .i64 fs)/\w'.cell? ⟨b1,o1+(k+1) * 5+1+1+1,none⟩=some (.slice q1 q2 q3)/\w'.cell? ⟨b1,o1+(k+1) * 5+1+1+1+1,none⟩=some (.bool fm))
     (first|go_keep|exact⟨cLz hbq z1,cLz hbq z2,cLz hbq z3,cLz hbq z4,cLz hbq z5,cLz hbq u1,cLz hbq u2,cLz hbq u3,cLz hbq u4,cLz hbq u5⟩)
     (first|(go_at_call 55;refine(KC.out _).mono ?_;rintro e wq ⟨rfl,hbq0⟩;have hbq:Bwz wr wq:=bR.drew.trans hbq0))
    all_goals
     go_wp2
     go_ret
     exact⟨Aa HE.out,hnx.trans (hbq.mono hnx.size)⟩
  ·have HE:Hid (true=R):=HT.out (fun j hj=>HAL.out j (by omega))
   have i5:¬(k:Int)+1<(n:Int):=by omega
   go_wp2
   go_ret
   exact⟨Aa HE.out,hnx⟩
end bf
end Go.Proofs.YtdohnkkbkfhphaaGreat
