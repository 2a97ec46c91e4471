import Derived.Test.YtdohnkkbkfhphaaGreatPc4
set_option linter.all false
set_option maxHeartbeats 4000000
namespace Go.Proofs.YtdohnkkbkfhphaaGreat
open Go.Proofs.Tryz
namespace bf
open Go.ChangeShapes Go.WideShapes Go.ChangeAt Go.RowKit Go.Shelf
attribute [local go_sem] Oper.semAt_some
variable {i : Nat}
structure EM where
 key:ByteArray
 time:Int
 seq:Int
 row:Hdr
 met:Bool
instance:Inhabited EM:=⟨⟨⟨#[]⟩,0,0,(none,0,0),false⟩⟩
def EM.val(e:EM):Value:=.agg #[.string e.key,.int .i64 e.time,.int .i64 e.seq,hdV e.row,.bool e.met]
def BD(w:World)(a:Option Addr)(l:List EM):Prop:=
 ∀i,i<l.length->∃b off,a=some ⟨b,off,none⟩/\w.cell? ⟨b,off+i * 5,none⟩=some (.string (l.getD i default).key)/\w.cell? ⟨b,off+i * 5+1,none⟩=some (.int .i64 (l.getD i default).time)/\
  w.cell? ⟨b,off+i * 5+1+1,none⟩=some (.int .i64 (l.getD i default).seq)/\w.cell? ⟨b,off+i * 5+1+1+1,none⟩=some (hdV (l.getD i default).row)/\w.cell? ⟨b,off+i * 5+1+1+1+1,none⟩=some (.bool (l.getD i default).met)
theorem Bk{w w':World}{a:Option Addr}{l:List EM}(h:BD w a l)(hb:Bwz w w'):BD w' a l:=by
 intro i hi
 obtain⟨b,o,e,x1,x2,x3,x4,x5⟩:=h i hi
 exact⟨b,o,e,cell_later hb x1,cell_later hb x2,cell_later hb x3,cell_later hb x4,cell_later hb x5⟩
abbrev Part:=Hdr×List EM
def ems(p:List Part):List EM:=p.flatMap (·.2)
def E8(p:List Part)(i:Nat):Nat:=(ems (p.take i)).length
theorem MV(p q:List Part):ems (p++q)=ems p++ems q:=by unfold ems;rw[List.flatMap_append]
theorem PN{p:List Part}(h:i<p.length):p=p.take i++(p[i]::p.drop (i+1)):=by
 rw[List.getElem_cons_drop];exact(List.take_append_drop i p).symm
theorem Mp{p:List Part}(h:i<p.length):E8 p (i+1)=E8 p i+(p[i]).2.length:=by
 unfold E8
 rw[List.take_succ_eq_append_getElem h,MV,List.length_append]
 simp[ems]
theorem Kb(p:List Part):E8 p p.length=(ems p).length:=by unfold E8;rw[List.take_length]
theorem Yx{p:List Part}{k:Nat}(h:i<p.length)(hk:k<(p[i]).2.length):(ems p)[E8 p i+k]? =some ((p[i]).2.getD k default):=by
 have e:ems p=ems (p.take i)++((p[i]).2++ems (p.drop (i+1))):=by
  have h1:ems p=ems (p.take i++(p[i]::p.drop (i+1))):=by rw[<-PN h]
  rw[h1,MV];rfl
 rw[e]
 unfold E8
 rw[List.getElem?_append_right (by omega),Nat.add_sub_cancel_left,List.getElem?_append_left hk,List.getElem?_eq_getElem hk,List.getD_eq_getElem?_getD,List.getElem?_eq_getElem hk];rfl
theorem Gg(v1 v2 v3:Value)(h1:v1.oneCell'=true)(h2:v2.oneCell'=true)(h3:v3.oneCell'=true)(w:World):
 Calls Tryz.prog 136 #[.agg #[v1,v2,v3]] w fun e w'=>e= .returned (.func (.func 180) #[] #[.pointer (some ⟨w.heap.size,0,none⟩)])/\w'=w.alloc (.cells #[v1,v2,v3] 29):=by
 go_enter func136,ntmps136
 go_wp2
 go_ret
 exact⟨rfl,rfl⟩
theorem Gh(v1 v2 v3:Value)(h1:v1.oneCell'=true)(h2:v2.oneCell'=true)(h3:v3.oneCell'=true)(w:World):
 Calls Tryz.prog 113 #[.agg #[v1,v2,v3]] w fun e w'=>e= .returned (.func (.func 161) #[] #[.pointer (some ⟨w.heap.size,0,none⟩)])/\w'=w.alloc (.cells #[v1,v2,v3] 29):=by
 go_enter func113,ntmps113
 go_wp2
 go_ret
 exact⟨rfl,rfl⟩
structure boxAt(w:World)(BX:Nat)(lim:Int)(ra:Option Addr)(rc:Nat)(m:Part)(rs:List Part):Prop where
 lim:w.cell? ⟨BX,0,none⟩=some (.int .i64 lim)
 mem:w.cell? ⟨BX,1,none⟩=some (hdV m.1)
 runs:w.cell? ⟨BX,2,none⟩=some (.slice ra rs.length rc)
 hds:EU w ra (rs.map (·.1))
 len:∀p∈m::rs,p.1.2.1=p.2.length/\p.2.length<=9223372036854775807
 ems:∀p∈m::rs,BD w p.1.1 p.2
 few:rs.length<=9223372036854775807
theorem Uz(BX:Nat)(lim:Int)(ra:Option Addr)(rc:Nat)(m:Part)(rs:List Part)(Pr:Nat->Obj->Prop)(w:World)(h:boxAt w BX lim ra rc m rs)
 (hS:names Pr w BX) (hS2:∀x,0<rs.length->ra=some x->names Pr w x.block) (hS3:∀p∈m::rs,∀x,0<p.2.length->p.1.1=some x->names Pr w x.block)
 (hP1:∀b c f,w.heap.size<=b->Pr b (.cells c 29 f)) (hP2:∀b c f,w.heap.size<=b->Pr b (.cells c 110 f)):
 Wo Tryz.prog 161 #[.pointer (some ⟨BX,0,none⟩)] ((ems (m::rs)).map fun e=>#[e.val]) (Ao Pr) w:=by
 intro l J Jx W hb hJ hJx hY h0
 have k0:=cell_later hb h.lim
 have k1:=cell_later hb h.mem
 have k2:=cell_later hb h.runs
 obtain⟨⟨m1,m2,m3⟩,ml⟩:=m
 unfold hdV at k1
 dsimp only at k1
 have lX:BX<W.heap.size:=World.block_lt_of_cell? _ _ k0
 obtain⟨n,hn⟩:∃n,rs.length=n:=⟨_,rfl⟩
 have HN:Hid (rs.length=n):=hn
 rw[hn]at k2
 clear hn
 obtain⟨xs,hxs⟩:=nM ((ems ((((m1,m2,m3):Hdr),ml)::rs)).map (fun e=>#[e.val]))
 have HX:Hid ((ems ((((m1,m2,m3):Hdr),ml)::rs)).map (fun e=>#[e.val])=xs):=hxs
 rw[hxs]at hY⊢
 clear hxs
 refine callsIn_of_wp_marks func161 rfl trivial ?_ rfl
 simp only[ntmps161,List.size_toArray,List.length_cons,List.length_nil,Nat.reduceAdd,Nat.reduceSub,Array.replicate_succ,Array.replicate_zero,List.push_toArray,List.append_toArray,List.nil_append,List.cons_append]
 gi_wp2_with (refine⟨trivial,rfl,?_⟩;gi_at_call 136;refine(callsIn_wide.2 (Gg _ _ _ rfl rfl rfl _)).mono ?_;rintro e w' ⟨rfl,rfl⟩)
 have HI:Hid (boxAt w BX lim ra rc ((m1,m2,m3),ml) rs/\names Pr w BX/\(∀x,0<rs.length->ra=some x->names Pr w x.block)/\(∀p∈((m1,m2,m3),ml)::rs,∀x,0<p.2.length->p.1.1=some x->names Pr w x.block)):=⟨h,hS,hS2,hS3⟩
 have HP:Hid ((∀b c f,w.heap.size<=b->Pr b (.cells c 29 f))/\(∀b c f,w.heap.size<=b->Pr b (.cells c 110 f))):=⟨hP1,hP2⟩
 have HJ:Hid (OwnFrom W.heap.size J/\OwnFrom W.heap.size Jx):=⟨hJ,hJx⟩
 have HY:Hid (∀k x W1,xs[k]? =some x->J k W1->YieldAt Fence.wide 0 Tryz.prog l x W1 fun e W'=>KeepsFrom W.heap.size W1 W'/\((e= .returned (.bool true)/\J (k+1) W'/\Ao Pr W1 W')\/(e= .returned (.bool false)/\Jx () W'))):=hY
 have c2:((W.alloc (.cells #[.func (.yield l) #[] #[]] 110)).alloc (.cells #[.int .i64 lim,.slice m1 m2 m3,.slice ra n rc] 29)).cell? ⟨W.heap.size,0,none⟩=some (.func (.yield l) #[] #[]):=by go_simp
 have d1:((W.alloc (.cells #[.func (.yield l) #[] #[]] 110)).alloc (.cells #[.int .i64 lim,.slice m1 m2 m3,.slice ra n rc] 29)).cell? ⟨W.heap.size+1,1,none⟩=some (.slice m1 m2 m3):=by go_simp
 have d2:((W.alloc (.cells #[.func (.yield l) #[] #[]] 110)).alloc (.cells #[.int .i64 lim,.slice m1 m2 m3,.slice ra n rc] 29)).cell? ⟨W.heap.size+1,2,none⟩=some (.slice ra n rc):=by go_simp
 have hbV:Bwz W ((W.alloc (.cells #[.func (.yield l) #[] #[]] 110)).alloc (.cells #[.int .i64 lim,.slice m1 m2 m3,.slice ra n rc] 29)):=((Below.refl _ _).alloc (Nat.le_refl _) _).alloc (by simp) _
 have hsV:((W.alloc (.cells #[.func (.yield l) #[] #[]] 110)).alloc (.cells #[.int .i64 lim,.slice m1 m2 m3,.slice ra n rc] 29)).heap.size=W.heap.size+2:=by simp
 have nB:names Pr ((W.alloc (.cells #[.func (.yield l) #[] #[]] 110)).alloc (.cells #[.int .i64 lim,.slice m1 m2 m3,.slice ra n rc] 29)) (W.heap.size+1):=fun o ho=>by
  have h:=World.alloc_heap_new (W.alloc (.cells #[.func (.yield l) #[] #[]] 110)) (.cells #[.int .i64 lim,.slice m1 m2 m3,.slice ra n rc] 29)
  rw[World.size_alloc]at h
  rw[h]at ho;cases ho
  exact hP1 _ _ _ (by have:=hb.size;omega)
 have nY:names Pr ((W.alloc (.cells #[.func (.yield l) #[] #[]] 110)).alloc (.cells #[.int .i64 lim,.slice m1 m2 m3,.slice ra n rc] 29)) W.heap.size:=fun o ho=>by
  have h:=(Below.heap_alloc (W.alloc (.cells #[.func (.yield l) #[] #[]] 110)) (.cells #[.int .i64 lim,.slice m1 m2 m3,.slice ra n rc] 29) W.heap.size (by simp)).trans (World.alloc_heap_new W _)
  rw[h]at ho;cases ho
  exact hP2 _ _ _ hb.size
 have hJV:J 0 ((W.alloc (.cells #[.func (.yield l) #[] #[]] 110)).alloc (.cells #[.int .i64 lim,.slice m1 m2 m3,.slice ra n rc] 29)):=hJ.alloc _ (hJ.alloc _ h0)
 clear hY hJ hJx h hS hS2 hS3 hP1 hP2 k0 k1 k2 h0
 generalize (W.alloc (.cells #[.func (.yield l) #[] #[]] 110)).alloc (.cells #[.int .i64 lim,.slice m1 m2 m3,.slice ra n rc] 29)=V at *
 have hbw:Bwz w V:=hb.trans (hbV.mono hb.size)
 obtain⟨P,hP⟩:∃z:List Part,(((m1,m2,m3),ml)::rs)=z:=⟨_,rfl⟩
 have HPL:Hid (P.length=n+1):=by show _=_;rw[<-hP,List.length_cons,HN.out]
 have HPM:Hid (∀p∈P,p.1.2.1=p.2.length/\p.2.length<=9223372036854775807/\BD V p.1.1 p.2/\∀x,0<p.2.length->p.1.1=some x->names Pr V x.block):=fun p hp=>by
  rw[<-hP]at hp
  refine⟨(HI.out.1.len p hp).1,(HI.out.1.len p hp).2,Bk (HI.out.1.ems p hp) hbw,fun x h0 hx=>?_⟩
  obtain⟨b,o,e,y,_⟩:=HI.out.1.ems p hp 0 h0
  rw[hx]at e;cases e
  exact ET hbw (World.block_lt_of_cell? _ _ y) (HI.out.2.2.2 p hp _ h0 hx)
 have HXP:Hid ((((m1,m2,m3):Hdr)::rs.map (·.1)).map (fun h=>#[hdV h])=P.map fun p=>#[hdV p.1]):=by
  show _=_
  rw[<-hP];simp
 have HE:Hid ((ems P).map (fun e=>#[e.val])=xs):=by show _=_;rw[<-hP];exact HX.out
 have hrl:(rs.map (·.1)).length=n:=by rw[List.length_map,HN.out]
 have hit:=LG (W.heap.size+1) lim (m1,m2,m3) ra rc (rs.map (·.1)) Pr V (by rw[hrl,<-HN.out];exact HI.out.1.few) d1 (by rw[hrl];exact d2) (fun i hi=>by obtain⟨b,o,e,x⟩:=HI.out.1.hds i hi;exact⟨b,o,e,cell_later hbw x⟩) nB (fun x h0 hx=>by
  obtain⟨b,o,e,y⟩:=HI.out.1.hds 0 h0
  rw[hx]at e;cases e
  exact ET hbw (World.block_lt_of_cell? _ _ y) (HI.out.2.2.1 _ (by simpa using h0) hx))
 rw[HXP.out]at hit
 refine C8 (gf:=180) (lb:=#[.pointer (some ⟨W.heap.size+1,0,none⟩)]) rfl (enters_of func180 (by kernel_rfl) rfl) hit (Below.refl _ _) (fun x hx=>by obtain⟨p,_,rfl⟩:=List.mem_map.1 hx;rfl) (fun h k=>Ao.trans h k) (fun W l o o' _ h ho=>Ao.put W l o o' h ho)
  (fun i X=>J (E8 P i) X/\Ao Pr V X) (fun c X=>c= .ret/\Jx () X)
  (fun i X X' row hs hg hr=>⟨(Wp HJ.out.1 (by omega)) _ X X' row hs.1 hg hr,hs.2.grown hg (fun r e=>(hr r e).2)⟩)
  (fun c X X' row hs hg hr=>⟨hs.1,(Wp HJ.out.2 (by omega)) _ X X' row hs.2 hg hr⟩)
  ⟨hJV,Ao.refl _ _⟩
  (fun i a' X=>a'={tmps:=#[.func (.yield l) #[] #[],.pointer (some ⟨BX,0,none⟩),.pointer (some ⟨W.heap.size,0,none⟩),hdV (P.getD i default).1,undef,undef,.agg #[.int .i64 lim,.slice m1 m2 m3,.slice ra n rc],.func (.func 180) #[] #[.pointer (some ⟨W.heap.size+1,0,none⟩)],hdV (P.getD i default).1,undef,undef,undef,undef,undef,undef,undef,undef,undef,undef,undef],defers:=[]})
  (fun i a' u X X' row hs hg hr=>hs) ?assign ?body ?done ?stop
 case assign=>
  intro l' k x X K hx hi hK
  obtain⟨hk,hxe⟩:=List.getElem?_eq_some_iff.1 hx
  rw[List.length_map]at hk
  rw[List.getElem_map]at hxe
  subst hxe
  have hd:P.getD k default=P[k]:=by rw[List.getD_eq_getElem?_getD,List.getElem?_eq_getElem hk];rfl
  have hK2:=fun W' h1 h2 h3=>hK _ W' h1 h2 h3 rfl
  rw[hd]at hK2
  clear hK hd hx
  obtain⟨⟨⟨z1,z2,z3⟩,zl⟩,hz⟩:∃z,P[k]=z:=⟨_,rfl⟩
  rw[hz]at hK2⊢
  unfold hdV at hK2⊢
  dsimp only at hK2⊢
  gi_wp2
  exact hK2 X (KeepsFrom.refl _ _) (Ao.refl _ _) hi
 case body=>
  intro l' i x a' X hx hl' hrec hIi hax
  obtain⟨hJi,hki⟩:=hIi
  obtain⟨hi,hxe⟩:=List.getElem?_eq_some_iff.1 hx
  rw[List.length_map]at hi
  have hd:P.getD i default=P[i]:=by rw[List.getD_eq_getElem?_getD,List.getElem?_eq_getElem hi];rfl
  rw[hd]at hax
  subst hax
  have hpm:=HPM.out P[i] (List.getElem_mem hi)
  have HAT:Hid (∀j,j<(P[i]).2.length->xs[E8 P i+j]? =some #[((P[i]).2.getD j default).val]):=fun j hj=>by
   rw[<-HE.out,List.getElem?_map,Yx hi hj];rfl
  have HNX:Hid (E8 P (i+1)=E8 P i+(P[i]).2.length):=Mp hi
  clear hx hxe hd
  obtain⟨⟨⟨z1,z2,z3⟩,zl⟩,hz⟩:∃z,P[i]=z:=⟨_,rfl⟩
  rw[hz]at hpm HAT HNX⊢
  dsimp only at hpm HAT HNX⊢
  obtain⟨hz2,hzl,hem,hnm⟩:=hpm
  subst hz2
  have HEM:Hid (BD V z1 zl/\∀x,0<zl.length->z1=some x->names Pr V x.block):=⟨hem,hnm⟩
  obtain⟨q,hq⟩:∃q,zl.length=q:=⟨_,rfl⟩
  have HQ:Hid (zl.length=q):=hq
  rw[hq]at hzl HAT HNX
  unfold hdV
  dsimp only
  rw[hq]
  clear hz hem hnm hq
  obtain⟨O,hO⟩:∃O,E8 P i=O:=⟨_,rfl⟩
  rw[hO]at hJi HAT HNX
  have lV:W.heap.size<X.heap.size:=by
   have:=World.block_lt_of_cell? _ _ (hki.cell nY c2);exact this
  gi_wp2
  gi_loopw [11] (fun t wr=> ∃j:Nat,j<=q/\t= .int .i64 j/\J (O+j) wr/\Ao Pr V wr/\Ao Pr X wr/\KeepsFrom V.heap.size X wr) (fun t _=>q - (intOf t).toNat)
  case atStart=>exact⟨0,Nat.zero_le _,rfl,hJi,hki,Ao.refl _ _,KeepsFrom.refl _ _⟩
  case round=>
   obtain⟨j,hj,rfl,hJj,hkj,hkx,hkf⟩:=hrel
   have y2:=hkj.cell nY c2
   have ly:W.heap.size<wr.heap.size:=World.block_lt_of_cell? _ _ y2
   by_cases hlt:j<q
   ·obtain⟨b,o,e,x1,x2,x3,x4,x5⟩:=HEM.out.1 j (by rw[HQ.out];exact hlt)
    subst e
    have hn:=HEM.out.2 _ (by rw[HQ.out];omega) rfl
    have q1:=hkj.cell hn x1
    have q2:=hkj.cell hn x2
    have q3:=hkj.cell hn x3
    have q4:=hkj.cell hn x4
    have q5:=hkj.cell hn x5
    have hat:=HAT.out j hlt
    obtain⟨⟨ek,et,es,⟨r1,r2,r3⟩,em⟩,he⟩:∃z,zl.getD j default=z:=⟨_,rfl⟩
    rw[he]at q1 q2 q3 q4 q5 hat
    unfold hdV at q4
    unfold EM.val hdV at hat
    dsimp only at q1 q2 q3 q4 q5 hat
    have lb:b<wr.heap.size:=World.block_lt_of_cell? _ _ q1
    have i1:(0:Int)<=(j:Int):=by omega
    have i2:(j:Int)<(q:Int):=by omega
    have hyk:=HY.out (O+j) _ (wr.alloc (.cells #[.string ek,.int .i64 et,.int .i64 es,.slice r1 r2 r3,.bool em] 63)) hat (HJ.out.1.alloc _ hJj)
    obtain⟨fn2,tmps2,assign2,body2,hy2,hR2⟩:=hyk
    clear he x1 x2 x3 x4 x5 hat
    gi_wp2
    refine⟨rfl,RoundIn.mono (F:=Fence.wide.inRound l') hR2 ?_⟩
    rintro e W2 ⟨hf2,(⟨rfl,hJ2,hk2⟩|⟨rfl,hJx2⟩)⟩
    ·have hk3:Ao Pr wr W2:=(Ao.alloc wr _).trans hk2
     have hf3:KeepsFrom V.heap.size X W2:=hkf.trans (((KeepsOthers.alloc _ _).from _).trans (F5 hf2 (by omega)))
     gi_wp2
     go_roundw
     case rel=>exact⟨j+1,by omega,by go_num,hJ2,hkj.trans hk3,hkx.trans hk3,hf3⟩
     case measure=>simp[intOf];omega
    ·have hf3:KeepsFrom V.heap.size X W2:=hkf.trans (((KeepsOthers.alloc _ _).from _).trans (F5 hf2 (by omega)))
     gi_wp2
     exact⟨hf3,rfl,hJx2⟩
   ·have hjq:j=q:=by omega
    subst hjq
    gi_wp2
    exact⟨hkf,hkx,by rw[HNX.out];exact hJj,hkj⟩
 case done=>
  rintro D X hD ⟨hJe,hke⟩ hK
  gi_wp2
  refine⟨by simp,.inl ⟨_,_,rfl,run_takeDeferred hK,?_⟩⟩
  have hJ2:=HJ.out.1.putObj (.deferred none) hJe (by omega) hK rfl
  rw[List.length_map,Kb,<-List.length_map (f:=fun e:EM=>#[e.val]),HE.out]at hJ2
  exact⟨_,results_none rfl _ _ _,⟨_,rfl⟩,.inl hJ2⟩
 case stop=>
  rintro D c X hD ⟨rfl,hJe⟩ hK
  gi_wp2
  refine⟨by simp,.inl ⟨_,_,rfl,run_takeDeferred hK,?_⟩⟩
  exact⟨_,results_none rfl _ _ _,⟨_,rfl⟩,.inr (HJ.out.2.putObj (.deferred none) hJe (by omega) hK rfl)⟩
end bf
namespace vl
variable {a b : UInt8}
theorem Do(l x y:List UInt8):Lib.compareBytes (l++x) (l++y)=Lib.compareBytes x y:=by
 induction l with
 |nil=>rfl
 |cons a l ih=>
  rw[List.cons_append,List.cons_append,Lib.compareBytes,if_neg (UInt8.lt_irrefl a),if_neg (UInt8.lt_irrefl a)]
  exact ih
theorem Gi(x y:List UInt8)(h:a<b):Lib.compareBytes (a::x) (b::y)= -1:=by rw[Lib.compareBytes,if_pos h]
theorem Gj(x y:List UInt8)(h:b<a):Lib.compareBytes (a::x) (b::y)=1:=by
 rw[Lib.compareBytes,if_neg (fun h'=>absurd (UInt8.lt_trans h h') (UInt8.lt_irrefl b)),if_pos h]
theorem fold_acc(l:List UInt8)(a:Nat):l.foldl (fun u b=>u * 256+b.toNat) a=a * 256 ^ l.length+AX l:=by
 induction l generalizing a with
 |nil=>simp[AX]
 |cons b l ih=>
  have e:AX (b::l)=(b::l).foldl (fun u b=>u * 256+b.toNat) 0:=rfl
  rw[e,List.foldl_cons,List.foldl_cons,ih,ih (0 * 256+b.toNat),List.length_cons,Nat.pow_succ]
  rw[Nat.add_mul,Nat.mul_assoc,Nat.mul_comm 256,Nat.zero_mul,Nat.zero_add]
  omega
theorem Kc(b:UInt8)(l:List UInt8):AX (b::l)=b.toNat * 256 ^ l.length+AX l:=by
 have e:AX (b::l)=l.foldl (fun u b=>u * 256+b.toNat) (0 * 256+b.toNat):=rfl
 rw[e,fold_acc];simp
theorem WH(l m x y:List UInt8)(h:l.length=m.length):
 Lib.compareBytes (l++x) (m++y)=if AX l<AX m then -1 else if AX m<AX l then 1 else Lib.compareBytes x y:=by
 induction l generalizing m with
 |nil=>
  cases m with
  |nil=>simp[AX]
  |cons b m=>simp at h
 |cons a l ih=>
  cases m with
  |nil=>simp at h
  |cons b m=>
   have hl:l.length=m.length:=by simpa using h
   have b1:=EG l
   have b2:=EG m
   rw[List.cons_append,List.cons_append,Kc,Kc]
   rw[hl]at b1⊢
   by_cases h1:a<b
   ·have h1':a.toNat+1<=b.toNat:=UInt8.lt_iff_toNat_lt.1 h1
    have:=Nat.mul_le_mul_right (256 ^ m.length) h1'
    rw[Nat.add_mul]at this
    rw[Gi _ _ h1,if_pos (by omega)]
   ·by_cases h2:b<a
    ·have h2':b.toNat+1<=a.toNat:=UInt8.lt_iff_toNat_lt.1 h2
     have:=Nat.mul_le_mul_right (256 ^ m.length) h2'
     rw[Nat.add_mul]at this
     rw[Gj _ _ h2,if_neg (by omega),if_pos (by omega)]
    ·have h3:a=b:=UInt8.le_antisymm (UInt8.not_lt.1 h2) (UInt8.not_lt.1 h1)
     subst h3
     rw[Lib.compareBytes,if_neg h1,if_neg h1,ih m hl]
     simp only[Nat.add_lt_add_iff_left]
theorem Gk(h:b≠0):(0:UInt8)<b:=by
 rcases Nat.eq_zero_or_pos b.toNat with h0|h0
 ·exact absurd (Hy h0) h
 ·exact UInt8.lt_iff_toNat_lt.2 h0
theorem Sw(s t x y:List UInt8):
 Lib.compareBytes (AZ s++0::1::x) (AZ t++0::1::y)=if Lib.compareBytes s t=0 then Lib.compareBytes x y else Lib.compareBytes s t:=by
 induction s generalizing t with
 |nil=>
  cases t with
  |nil=>simp[AZ,Lib.compareBytes]
  |cons b t=>
   rw[Cc]
   by_cases hb:b=0
   ·rw[if_pos hb];simp[AZ,Lib.compareBytes]
   ·have:=Gk hb
    rw[if_neg hb];simp[AZ,Lib.compareBytes,this]
 |cons a s ih=>
  cases t with
  |nil=>
   rw[Cc]
   by_cases ha:a=0
   ·rw[if_pos ha];simp[AZ,Lib.compareBytes]
   ·have:=Gk ha
    have h2:¬a<0:=fun h=>absurd (UInt8.lt_trans this h) (UInt8.lt_irrefl 0)
    rw[if_neg ha];simp[AZ,Lib.compareBytes,this,h2]
  |cons b t=>
   rw[Cc,Cc]
   by_cases hab:a=b
   ·subst hab
    rw[List.append_assoc,List.append_assoc,Do,ih t,Lib.compareBytes,if_neg (UInt8.lt_irrefl a),if_neg (UInt8.lt_irrefl a)]
   ·by_cases h1:a<b
    ·have e:Lib.compareBytes (a::s) (b::t)= -1:=Gi _ _ h1
     have hb:b≠0:=fun h=>by subst h;exact absurd (UInt8.lt_iff_toNat_lt.1 h1) (Nat.not_lt_zero _)
     rw[e,if_neg (show¬((-1:Int)=0) by decide),if_neg hb]
     by_cases ha:a=0
     ·rw[if_pos ha]
      exact Gi _ _ (Gk hb)
     ·rw[if_neg ha]
      exact Gi _ _ h1
    ·have h2:b<a:=by
      rcases Nat.lt_trichotomy a.toNat b.toNat with h|h|h
      ·exact absurd (UInt8.lt_iff_toNat_lt.2 h) h1
      ·exact absurd (Hy h) hab
      ·exact UInt8.lt_iff_toNat_lt.2 h
     have e:Lib.compareBytes (a::s) (b::t)=1:=Gj _ _ h2
     have ha:a≠0:=fun h=>by subst h;exact absurd (UInt8.lt_iff_toNat_lt.1 h2) (Nat.not_lt_zero _)
     rw[e,if_neg (show¬((1:Int)=0) by decide),if_neg ha]
     by_cases hb:b=0
     ·rw[if_pos hb]
      exact Gj _ _ (Gk ha)
     ·rw[if_neg hb]
      exact Gj _ _ h2
theorem WI(c d:Cel):GC c d=if Cs c.k d.k=0 then(if Cs c.n d.n=0 then Lib.compareBytes c.s.data.toList d.s.data.toList else Cs c.n d.n)else Cs c.k d.k:=by
 unfold GC NI AF AF AF AF
 by_cases h1:Cs c.k d.k=0
 ·rw[if_pos h1,if_pos h1]
  by_cases h2:Cs c.n d.n=0
  ·rw[if_pos h2,if_pos h2]
   split
   ·rename_i h;exact h.symm
   ·rfl
  ·rw[if_neg h2,if_neg h2]
 ·rw[if_neg h1,if_neg h1]
theorem Sx{c d:Cel}(hc:c.ok)(hd:d.ok)(wc:c.wf)(wd:d.wf)(x y:List UInt8):
 Lib.compareBytes (Cb c++x) (Cb d++y)=if GC c d=0 then Lib.compareBytes x y else GC c d:=by
 rw[WI]
 rcases encC_cases hc with⟨rfl,e⟩|⟨rfl,e⟩|⟨rfl,e⟩|⟨n,rfl,e⟩|⟨s,rfl,hs,e⟩<;>
 rcases encC_cases hd with⟨rfl,e'⟩|⟨rfl,e'⟩|⟨rfl,e'⟩|⟨m,rfl,e'⟩|⟨t,rfl,ht,e'⟩<;>
 simp only[e,e',List.cons_append,List.nil_append]
 all_goals try (rw[Gi _ _ (by decide)];rfl)
 all_goals try (rw[Gj _ _ (by decide)];rfl)
 ·exact Do [0] x y
 ·exact Do [1,0] x y
 ·have:=Do [1] (0::x) (1::y)
  simp only[List.cons_append,List.nil_append]at this
  rw[this,Gi _ _ (by decide)];rfl
 ·have:=Do [1] (1::x) (0::y)
  simp only[List.cons_append,List.nil_append]at this
  rw[this,Gj _ _ (by decide)];rfl
 ·exact Do [1,1] x y
 ·obtain⟨⟨n1,n2⟩,_⟩:=wc
  obtain⟨⟨m1,m2⟩,_⟩:=wd
  dsimp only at n1 n2 m1 m2⊢
  have:=Do [2] (be8 (n+9223372036854775808).toNat 8++x) (be8 (m+9223372036854775808).toNat 8++y)
  simp only[List.cons_append,List.nil_append]at this
  rw[this,WH _ _ _ _ (by rw[DC,DC]),Gl _ (by omega),Gl _ (by omega)]
  have e0:Cs 2 2=0:=by decide
  rw[e0,if_pos rfl]
  unfold Cs
  by_cases h1:n<m
  ·rw[if_pos (by omega),if_pos h1];rfl
  ·rw[if_neg (by omega),if_neg h1]
   by_cases h2:m<n
   ·rw[if_pos (by omega),if_pos h2];rfl
   ·rw[if_neg (by omega),if_neg h2];rfl
 ·have:=Do [3] (AZ s.data.toList++[0,1]++x) (AZ t.data.toList++[0,1]++y)
  simp only[List.cons_append,List.nil_append,List.append_assoc]at this⊢
  rw[this,Sw]
  rfl
theorem Mq(a b:List Cel)(ha:∀c∈a,c.ok/\c.wf)(hb:∀c∈b,c.ok/\c.wf):Lib.compareBytes (encR a) (encR b)=Bc a b:=by
 induction a generalizing b with
 |nil=>
  cases b with
  |nil=>rfl
  |cons d b=>
   have e:encR (d::b)=Cb d++encR b:=rfl
   rw[e]
   have:=Fu (hb d (List.mem_cons_self ..)).1
   cases h:Cb d with
   |nil=>exact absurd h this
   |cons z zs=>rfl
 |cons c a ih=>
  have ec:encR (c::a)=Cb c++encR a:=rfl
  have hc:=ha c (List.mem_cons_self ..)
  cases b with
  |nil=>
   rw[ec]
   cases h:Cb c with
   |nil=>exact absurd h (Fu hc.1)
   |cons z zs=>rfl
  |cons d b=>
   have ed:encR (d::b)=Cb d++encR b:=rfl
   have hd:=hb d (List.mem_cons_self ..)
   rw[ec,ed,Sx hc.1 hd.1 hc.2 hd.2,ih b (fun x hx=>ha x (List.mem_cons_of_mem _ hx)) (fun x hx=>hb x (List.mem_cons_of_mem _ hx)),Bc]
end vl
namespace vl
open Go.ChangeShapes Go.WideShapes Go.ChangeAt Go.RowKit
variable {s : ByteArray} {t : List UInt8} {k : Nat}
def R4:List Cel:=[⟨2, -1,⟨#[]⟩⟩,⟨3,0,⟨#[97,0]⟩⟩,⟨1,1,⟨#[]⟩⟩,⟨0,0,⟨#[]⟩⟩]
theorem Ob(w:World)(B:Nat)(hB:w.heap.size=B)(b:UInt8):(convert 204 9 (.slice (some ⟨B,0,none⟩) 1 1)).run Tryz.prog (w.alloc (.cells #[.int .u8 (b.toNat:Int)] 5))= .ok (.string ⟨#[b]⟩) (w.alloc (.cells #[.int .u8 (b.toNat:Int)] 5)):=by
 subst hB
 exact run_convert_bytes_back (w.alloc (.cells #[.int .u8 (b.toNat:Int)] 5)) 204 9 5 ⟨w.heap.size,0,none⟩ 1 [b] underlying204 underlying5 underlying9 (fun j hj=>by
  have:j=0:=by simp at hj;omega
  subst this
  simp[Addr.add])
theorem Ep(w:World)(B:Nat)(hB:w.heap.size=B)(x:Int)(b:UInt8)(hx:(b.toNat:Int)=x):(convert 204 9 (.slice (some ⟨B,0,none⟩) 1 1)).run Tryz.prog (w.alloc (.cells #[.int .u8 x] 5))= .ok (.string ⟨#[b]⟩) (w.alloc (.cells #[.int .u8 x] 5)):=by
 subst hx;exact Ob w B hB b
theorem PO(u j:Nat):((u:Int)/2 ^ (56 - 8 * j) % 256)=((CN u j).toNat:Int):=by
 have:=MM u j
 unfold Fl at this
 injection this
theorem U0(a:ByteArray)(l:List UInt8)(h:a=⟨l.toArray⟩)(b:UInt8):a++(⟨#[b]⟩:ByteArray)=⟨(l++[b]).toArray⟩:=by
 subst h
 apply str_eq
 rw[Joins.data_append]
theorem Sy(n:Int)(u:Nat)(w:World)(hu:IntKind.u64.wrap n=(u:Int))(hu2:u<=18446744073709551615):
 Calls Tryz.prog 188 #[.int .i64 n] w fun e w'=>e= .returned (.string ⟨(be8 u 8).toArray⟩)/\Bwz w w':=by
 go_enter func188,ntmps188
 go_wp2
 go_loopw [3,4] (fun t i wr=> ∃j:Nat,j<=8/\i= .int .i64 (56 - 8 * (j:Int))/\t= .string ⟨(be8 u j).toArray⟩/\Bwz w wr) (fun _ i _=>(intOf i+8).toNat)
 case atStart=>exact⟨0,by omega,rfl,rfl,bR⟩
 case round=>
  obtain⟨j,hj,rfl,rfl,hnx⟩:=hrel
  by_cases hlt:j<8
  ·have hb:=PO u j
   have hcv:=fun wx=>Ob wx wx.heap.size rfl (CN u j)
   have hl:=DC u j
   go_wp2
   go_roundw
   case rel=>exact⟨j+1,by omega,by go_num,by rw[U0 _ _ rfl,<-Py],hnx.alloc hnx.size _⟩
   case measure=>simp[intOf];omega
  ·have h8:j=8:=by omega
   subst h8
   go_wp2
   go_ret
   exact⟨rfl,hnx⟩
theorem U1(b:UInt8)(l:List UInt8):(⟨#[b]⟩:ByteArray)++(⟨l.toArray⟩:ByteArray)=⟨(b::l).toArray⟩:=by
 apply str_eq
 rw[Joins.data_append]
 rfl
theorem Oc(s:ByteArray)(k:Nat)(h:k<s.size):s.extract k (k+1)=⟨#[s[k]]⟩:=by
 apply str_eq
 have h1:s.data.toList.drop k=s[k]::s.data.toList.drop (k+1):=Bl s k h
 simp only[ByteArray.data_extract,Array.toList_extract]
 rw[List.extract_eq_take_drop,h1]
 simp
theorem Hr{a b:ByteArray}(h:a=b):Ending.returned (.string a)= .returned (.string b):=by rw[h]
theorem Od(k n:Int)(s:ByteArray)(w:World)(n1: -9223372036854775808<=n)(n2:n<=9223372036854775807)(hc:chk k n s=0):
 Calls Tryz.prog 142 #[.agg #[.int .i64 k,.int .i64 n,.string s]] w fun e w'=>e= .returned (.string ⟨(Cb ⟨k,n,s⟩).toArray⟩)/\Bwz w w':=by
 obtain⟨hs,hk⟩:=Ej hc
 clear hc
 rcases hk with⟨rfl,rfl,hs0⟩|⟨rfl,rfl,hs0⟩|⟨rfl,rfl,hs0⟩|⟨rfl,hs0⟩|⟨rfl,rfl⟩
 ·have hcv:=Ep (w.alloc (.cells #[.int .i64 0,.int .i64 0,.string s] 103)) (w.heap.size+1) (by simp) 0 0 rfl
  go_enter func142,ntmps142
  go_wp2
  go_ret
  exact⟨rfl,(bR.alloc nR _).alloc (by simp) _⟩
 ·have hcv:=Ep (w.alloc (.cells #[.int .i64 1,.int .i64 0,.string s] 103)) (w.heap.size+1) (by simp) 1 1 rfl
  have hcv2:=Ep ((w.alloc (.cells #[.int .i64 1,.int .i64 0,.string s] 103)).alloc (.cells #[.int .u8 1] 5)) (w.heap.size+1+1) (by simp) 0 0 rfl
  go_enter func142,ntmps142
  go_wp2
  go_ret
  exact⟨rfl,((bR.alloc nR _).alloc (by simp) _).alloc (by simp;omega) _⟩
 ·have hcv:=Ep (w.alloc (.cells #[.int .i64 1,.int .i64 1,.string s] 103)) (w.heap.size+1) (by simp) 1 1 rfl
  have hcv2:=Ep ((w.alloc (.cells #[.int .i64 1,.int .i64 1,.string s] 103)).alloc (.cells #[.int .u8 1] 5)) (w.heap.size+1+1) (by simp) 1 1 rfl
  go_enter func142,ntmps142
  go_wp2
  go_ret
  exact⟨rfl,((bR.alloc nR _).alloc (by simp) _).alloc (by simp;omega) _⟩
 ·have hcv:=Ep (w.alloc (.cells #[.int .i64 2,.int .i64 n,.string s] 103)) (w.heap.size+1) (by simp) 2 2 rfl
  have hx:=TV n n1 n2
  have HX:Hid (IntKind.u64.wrap (bits BinOp.xor IntKind.i64 n (-9223372036854775808))=(((n+9223372036854775808).toNat:Nat):Int)):=hx
  clear hx
  have hl:=DC (n+9223372036854775808).toNat 8
  go_enter func142,ntmps142
  go_wp2_with (go_at_call 188;refine(Sy _ (n+9223372036854775808).toNat _ HX.out (by omega)).mono ?_;rintro e w1 ⟨rfl,hb1⟩)
  go_ret
  exact⟨Hr (U1 2 _),((bR.alloc nR _).alloc (by simp) _).trans (hb1.mono (by simp;omega))⟩
 ·have hcv:=Ep (w.alloc (.cells #[.int .i64 3,.int .i64 0,.string s] 103)) (w.heap.size+1) (by simp) 3 3 rfl
  go_enter func142,ntmps142
  have hbl:Bwz w ((w.alloc (.cells #[.int .i64 3,.int .i64 0,.string s] 103)).alloc (.cells #[.int .u8 3] 5)):=(bR.alloc nR _).alloc (by simp) _
  go_wp2
  go_loop [3,4] (fun t i=> ∃(k:Nat) (q:ByteArray),k<=s.size/\i= .int .i64 k/\t= .string q/\q.data.toList=3::AZ (s.data.toList.take k)) (fun _ i=>s.size - (intOf i).toNat)
  case atStart=>exact⟨0,_,by omega,rfl,rfl,rfl⟩
  case round=>
   obtain⟨k,q,hk,rfl,rfl,hq⟩:=hrel
   have HQ:Hid (q.data.toList=3::AZ (s.data.toList.take k)):=hq
   have hqs:q.size<=129:=by
    rw[<-A4,hq]
    have h1:=L7 (s.data.toList.take k)
    have h2:(s.data.toList.take k).length<=k:=List.length_take_le _ _
    simp only[List.length_cons];omega
   clear hq
   by_cases hlt:k<s.size
   ·have hex:=Oc s k hlt
    have HS:Hid (AZ (s.data.toList.take (k+1))=AZ (s.data.toList.take k)++(if s[k]=0 then [0,255]else [s[k]])):=by
     show AZ (s.data.toList.take (k+1))=_
     rw[Dn s k hlt,Gx]
    by_cases hz:((s[k].toNat:Int)==0)=true
    ·have hz1:s[k]=0:=of_decide_eq_true ((byte_zero s[k]).symm.trans hz)
     have HZ:Hid (s[k]=0):=hz1
     clear hz1
     go_wp2
     go_round
     case rel=>exact⟨k+1,_,by omega,by go_num,rfl,by rw[Joins.data_append,Joins.data_append,HQ.out,HS.out,if_pos HZ.out,HZ.out];simp⟩
     case measure=>simp[intOf];omega
    ·have hz':((s[k].toNat:Int)==0)=false:=by simpa using hz
     have HZ:Hid (¬s[k]=0):=of_decide_eq_false ((byte_zero s[k]).symm.trans hz')
     go_wp2
     go_round
     case rel=>exact⟨k+1,_,by omega,by go_num,rfl,by rw[Joins.data_append,HQ.out,HS.out,if_neg HZ.out];simp⟩
     case measure=>simp[intOf];omega
   ·have HE:Hid (s.data.toList.take k=s.data.toList):=List.take_of_length_le (by rw[A4];omega)
    go_wp2
    go_ret
    exact⟨Hr (by apply str_eq;rw[Joins.data_append,HQ.out,HE.out];rfl),hbl⟩
theorem FG(a:Option Addr)(cap:Nat)(r:List Cel)(w:World)(hr:rowAt w a r)(hok:rowOk r):
 Calls Tryz.prog 85 #[.slice a r.length cap] w fun e w'=>e= .returned (.string ⟨(encR r).toArray⟩)/\Bwz w w':=by
 obtain⟨n,hn⟩:∃n,r.length=n:=⟨_,rfl⟩
 have HN:Hid (r.length=n):=hn
 have h8:=hok.1
 rw[hn]at h8⊢
 clear hn
 go_enter func85,ntmps85
 go_wp2
 go_loopw [3,4] (fun t i wr=> ∃(k:Nat) (q:ByteArray),k<=n/\i= .int .i64 k/\t= .string q/\q.data.toList=encR (r.take k)/\Bwz w wr) (fun _ i _=>n - (intOf i).toNat)
 case atStart=>exact⟨0,_,by omega,rfl,rfl,rfl,bR⟩
 case round=>
  obtain⟨k,q,hk,rfl,rfl,hq,hnx⟩:=hrel
  have HQ:Hid (q.data.toList=encR (r.take k)):=hq
  have hqs:q.size<=1048:=by
   rw[<-A4,hq]
   have h1:=FQ (r.take k) (fun c hc=>(hok.2 c (List.mem_of_mem_take hc)).1)
   have h2:(r.take k).length<=k:=List.length_take_le _ _
   omega
  clear hq
  by_cases hlt:k<n
  ·obtain⟨b1,o1,e1,x1,x2,x3⟩:=hr k (by rw[HN.out];exact hlt)
   subst e1
   have q1:=cLz hnx x1
   have q2:=cLz hnx x2
   have q3:=cLz hnx x3
   clear x1 x2 x3 hr
   have hw:=hok.2 (r.getD k default) (by simp[gDe,show k<r.length by rw[HN.out];exact hlt])
   have HT:Hid (encR (r.take (k+1))=encR (r.take k)++Cb (r.getD k default)):=by
    show encR (r.take (k+1))=_
    rw[IL r k (by rw[HN.out];exact hlt),IK]
   obtain⟨⟨ka,na,sa⟩,hca⟩:∃c,r.getD k default=c:=⟨_,rfl⟩
   rw[hca]at q1 q2 q3 hw
   have HCA:Hid (r.getD k default=⟨ka,na,sa⟩):=hca
   clear hca
   have HC:Hid (chk ka na sa=0):=hw.1
   have hcl:(Cb ⟨ka,na,sa⟩).length<=131:=Oq _ hw.1
   obtain⟨_,⟨w1,w2⟩,w3⟩:=hw
   dsimp only at q1 q2 q3 w1 w2 w3
   have i1:(0:Int)<=(k:Int):=by omega
   have i2:(k:Int)<(n:Int):=by omega
   go_wp2_with (go_at_call 142;refine(Od _ _ _ _ w1 w2 HC.out).mono ?_;rintro e wc ⟨rfl,hbc⟩)
   go_roundw
   case rel=>exact⟨k+1,_,by omega,by go_num,rfl,by rw[Joins.data_append,HQ.out,HT.out,HCA.out],hnx.trans (hbc.mono hnx.size)⟩
   case measure=>simp[intOf];omega
  ·have HE:Hid (r.take k=r):=List.take_of_length_le (by rw[HN.out];omega)
   go_wp2
   go_ret
   exact⟨Hr (by apply str_eq;rw[HQ.out,HE.out]),hnx⟩
def reads(l:List UInt8)(c:Cel)(m:Nat):Prop:=∀(d:Cel) t,d.ok->d.wf->l=Cb d++t->c=d/\m=(Cb d).length
def D3(s:ByteArray)(e:Ending):Prop:=∃(c:Cel) (m:Nat),e= .returned (.tuple #[.agg #[.int .i64 c.k,.int .i64 c.n,.string c.s],.int .i64 (m:Int)])/\m<=s.size/\c.wf/\reads s.data.toList c m
theorem reads_nil(c:Cel)(m:Nat):reads [] c m:=fun d t hd _ h=>absurd (List.append_eq_nil_iff.1 h.symm).1 (Fu hd)
theorem FH{l:List UInt8}(h:noCell l)(c:Cel)(m:Nat):reads l c m:=fun d t hd hw e=>absurd e (h d t hd hw)
theorem PP(l:List UInt8):reads (0::l) ⟨0,0,⟨#[]⟩⟩ 1:=fun d t hd hw h=>by
 obtain⟨rfl,_⟩:=H4 (c:=⟨0,0,⟨#[]⟩⟩) (x:=l) (Lb _ _ _ (by decide)) hd (wf0 _ _ (by decide) (by decide)) hw h
 exact⟨rfl,rfl⟩
theorem PQ(b:UInt8)(l:List UInt8):reads (1::b::l) ⟨1,(b.toNat:Int),⟨#[]⟩⟩ 2:=by
 by_cases hb:b=0\/b=1
 ·intro d t hd hw h
  obtain⟨h1,h2⟩:=O6 b hb
  have hlt:=b.toNat_lt
  obtain⟨rfl,_⟩:=H4 (c:=⟨1,(b.toNat:Int),⟨#[]⟩⟩) (x:=l) h1 hd (wf0 _ _ (by omega) (by omega)) hw (by rw[h2];exact h)
  exact⟨rfl,by rw[h2];rfl⟩
 ·exact FH (RJ (fun h=>hb (.inl h)) (fun h=>hb (.inr h))) _ _
theorem Sz(l:List UInt8)(hl:8<=l.length):reads (2::l) ⟨2,(AX (l.take 8):Int) - 9223372036854775808,⟨#[]⟩⟩ 9:=fun d t hd hw h=>by
 have hlt:=Hz (l.take 8) (by rw[List.length_take];omega)
 obtain⟨rfl,_⟩:=H4 (c:=⟨2,(AX (l.take 8):Int) - 9223372036854775808,⟨#[]⟩⟩) (x:=l.drop 8) (Vb _) hd (wf0 _ _ (by omega) (by omega)) hw (by rw[<-O5 l hl];exact h)
 refine⟨rfl,?_⟩
 have e2:Cb ⟨2,(AX (l.take 8):Int) - 9223372036854775808,⟨#[]⟩⟩=2::be8 (((AX (l.take 8):Int) - 9223372036854775808)+9223372036854775808).toNat 8:=rfl
 rw[e2,List.length_cons,DC]
def Er(s:ByteArray)(t:List UInt8)(k:Nat):Prop:=∀t0 rest,s.data.toList.drop 1=AZ t0++0::1::rest->∃t2,t0=t++t2/\s.data.toList.drop k=AZ t2++0::1::rest
theorem good_start(s:ByteArray):Er s [] 1:=fun t0 rest h=>⟨t0,rfl,h⟩
theorem S0(h:Er s t k)(hk:k<s.size)(hb:s[k]≠0):Er s (t++[s[k]]) (k+1):=fun t0 rest h0=>by
 obtain⟨t2,e1,e2⟩:=h t0 rest h0
 rw[Bl s k hk]at e2
 cases t2 with
 |nil=>simp[AZ]at e2;exact absurd e2.1 hb
 |cons c t2=>
  rw[Cc]at e2
  by_cases hc:c=0
  ·rw[if_pos hc]at e2;simp at e2;exact absurd e2.1 hb
  ·rw[if_neg hc]at e2
   simp only[List.cons_append,List.nil_append,List.cons.injEq]at e2
   exact⟨t2,by rw[e1,e2.1];simp,e2.2⟩
theorem S1(h:Er s t k)(hk:k+1<s.size)(hb:s[k]=0)(hc1:s[k+1]≠1):Er s (t++[0]) (k+1+1):=fun t0 rest h0=>by
 obtain⟨t2,e1,e2⟩:=h t0 rest h0
 rw[Bl s k (by omega),Bl s (k+1) hk,hb]at e2
 cases t2 with
 |nil=>simp[AZ]at e2;exact absurd e2.1 hc1
 |cons c t2=>
  rw[Cc]at e2
  by_cases hc:c=0
  ·rw[if_pos hc]at e2
   simp only[List.cons_append,List.nil_append,List.cons.injEq]at e2
   exact⟨t2,by rw[e1,hc];simp,e2.2.2⟩
  ·rw[if_neg hc]at e2;simp at e2;exact absurd e2.1.symm hc
theorem U2(h:Er s t k)(hk:k+1<s.size)(hb:s[k]=0)(hc1:s[k+1]=1)(t0 rest:List UInt8)
 (h0:s.data.toList.drop 1=AZ t0++0::1::rest):t0=t/\k=1+(AZ t0).length:=by
 obtain⟨t2,e1,e2⟩:=h t0 rest h0
 have hl1:=congrArg List.length h0
 have hl2:=congrArg List.length e2
 rw[Bl s k (by omega),Bl s (k+1) hk,hb,hc1]at e2
 have:t2=[]:=by
  cases t2 with
  |nil=>rfl
  |cons c t2=>
   rw[Cc]at e2
   by_cases hc:c=0
   ·rw[if_pos hc]at e2;simp at e2
   ·rw[if_neg hc]at e2;simp at e2;exact absurd e2.1.symm hc
 subst this
 rw[List.append_nil]at e1
 refine⟨e1,?_⟩
 simp only[List.length_drop,lAp,List.length_cons,A4,AZ,List.flatMap_nil,List.length_nil]at hl1 hl2
 unfold AZ
 omega
theorem S2(h:Er s t k)(hk:s.size<=k+1):Eu (s.data.toList.drop 1):=fun t0 rest _ h0=>by
 obtain⟨t2,e1,e2⟩:=h t0 rest h0
 have:=congrArg List.length e2
 simp only[List.length_drop,lAp,List.length_cons,A4]at this
 omega
theorem PU(s:ByteArray)(hs:0<s.size)(h0:s[0]=3)(t:List UInt8)(k:Nat)(hk:k+1<s.size)(h:Er s t k)(hb:s[k]=0)(hc1:s[k+1]=1):reads s.data.toList ⟨3,0,⟨t.toArray⟩⟩ (k+2):=fun d r hd hw e=>by
 have e0:s.data.toList=s[0]::s.data.toList.drop 1:=by have:=Bl s 0 hs;simpa using this
 rw[e0,h0]at e
 rcases encC_cases hd with⟨_,e'⟩|⟨_,e'⟩|⟨_,e'⟩|⟨n,_,e'⟩|⟨q,rfl,hq,e'⟩<;>rw[e']at e<;>simp only[List.cons_append,List.nil_append,List.cons.injEq]at e
 ·exact absurd e.1 (by decide)
 ·exact absurd e.1 (by decide)
 ·exact absurd e.1 (by decide)
 ·exact absurd e.1 (by decide)
 ·obtain⟨h1,h2⟩:=U2 h hk hb hc1 q.data.toList r (by simpa using e.2)
  refine⟨by rw[<-h1],?_⟩
  rw[e']
  simp only[List.length_cons,lAp,List.length_nil]
  omega
theorem DL(s:ByteArray)(hs:0<s.size):s.data.toList=s[0]::s.data.toList.drop 1:=by have:=Bl s 0 hs;simpa using this
end vl
end Go.Proofs.YtdohnkkbkfhphaaGreat
