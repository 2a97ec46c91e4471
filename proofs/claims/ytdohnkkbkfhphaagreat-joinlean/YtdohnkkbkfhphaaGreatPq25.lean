import Derived.Test.YtdohnkkbkfhphaaGreatPq24
import Derived.Deep.DeepCutAuto
set_option linter.all false
set_option maxHeartbeats 8000000
set_option maxRecDepth 100000
namespace Go.Proofs.YtdohnkkbkfhphaaGreat
namespace jn
open Go.RowKit
open vl bf
variable {p : pl.Pln} {s : Jn} {qs : List Int} {y : Ent} {side : Int} {b : Buf} {r : List Cel} {v : Ev}
structure okJ(p:pl.Pln)(s:Jn):Prop where
 L:okB s.L
 R:okB s.R
 lm:Cb s.lm=true
 rm:Cb s.rm=true
 sq:0<=s.seq/\s.seq<=1099511627776
 ll:s.L.lim=p.limit
 rl:s.R.lim=p.limit
 below:∀y∈Ab s.L++Ab s.R,y.seq<s.seq
 once:((Ab s.L++Ab s.R).map (·.seq)).Nodup
 rowL:∀y∈Ab s.L,F2 p 1 y=true
 rowR:∀y∈Ab s.R,F2 p 2 y=true
theorem Dc(h:B7 p s=0):pl.Ai p=0/\okJ p s:=by
 unfold B7 at h
 by_cases h1:pl.Ai p=0
 ·rw[if_neg (by simp[h1])]at h
  by_cases h2:Ez s.L=0
  ·rw[if_neg (by simp[h2])]at h
   by_cases h3:Ez s.R=0
   ·rw[if_neg (by simp[h3])]at h
    cases h4:D5 s with
    |false=>rw[h4]at h;simp at h
    |true=>
     rw[h4,if_neg (by simp)]at h
     cases h5:F3 p s with
     |false=>rw[h5]at h;simp at h
     |true=>
      unfold D5 at h4
      unfold F3 at h5
      simp only[Bool.and_eq_true]at h4 h5
      obtain⟨⟨a1,a2⟩,a3⟩:=h4
      obtain⟨⟨⟨⟨b1,b2⟩,b3⟩,b4⟩,b5⟩:=h5
      unfold JD DF at b3
      unfold I7 at b4 b5
      have b3:=of_decide_eq_true b3
      unfold Br at a3
      exact⟨h1,E8 h2,E8 h3,a1,a2,by simpa using a3,of_decide_eq_true b1,of_decide_eq_true b2,b3.1,b3.2,List.all_eq_true.1 b4,List.all_eq_true.1 b5⟩
   ·rw[if_pos h3]at h;exact absurd h h3
  ·rw[if_pos h2]at h;exact absurd h h2
 ·rw[if_pos h1]at h;exact absurd h h1
theorem okJ.none(hp:pl.Ai p=0)(h:okJ p s):B7 p s=0:=by
 have h4:D5 s=true:=by
  unfold D5 Br
  simp only[Bool.and_eq_true]
  exact⟨⟨h.lm,h.rm⟩,by simpa using h.sq⟩
 have h5:F3 p s=true:=by
  unfold F3 JD DF I7
  simp only[Bool.and_eq_true]
  exact⟨⟨⟨⟨decide_eq_true h.ll,decide_eq_true h.rl⟩,decide_eq_true ⟨h.below,h.once⟩⟩,List.all_eq_true.2 h.rowL⟩,List.all_eq_true.2 h.rowR⟩
 unfold B7
 rw[if_neg (by simp[hp]),if_neg (by simp[CV h.L]),if_neg (by simp[CV h.R]),h4,if_neg (by simp),h5,if_neg (by simp)]
theorem Se(qs:List Int)(y:Ent):AS (metE qs y)=AS y:=by unfold metE;split<;>rfl
theorem FE(qs:List Int)(y:Ent):(metE qs y).seq=y.seq:=by unfold metE;split<;>rfl
theorem GH(qs:List Int)(y:Ent):(metE qs y).key=y.key:=by unfold metE;split<;>rfl
theorem IY(qs:List Int)(y:Ent):(metE qs y).time=y.time:=by unfold metE;split<;>rfl
theorem IK(qs:List Int)(y:Ent):(metE qs y).row=y.row:=by unfold metE;split<;>rfl
theorem VU(qs:List Int)(a b:Ent):ltP (metE qs a) (metE qs b)↔ltP a b:=by
 unfold ltP
 rw[GH,GH,IY,IY,FE,FE]
theorem Sf(h:DJ y):DJ (metE qs y):=by
 unfold DJ at *
 rw[GH,IK,IY,FE]
 exact h
theorem Sg(h:wfE y/\wfP (AS y)):wfE (metE qs y)/\wfP (AS (metE qs y)):=by
 rw[Se]
 refine⟨⟨?_,?_,?_⟩,h.2⟩
 ·rw[GH];exact h.1.key
 ·rw[IK];exact h.1.row
 ·rw[IK];exact h.1.len
theorem M5(h:F2 p side y=true):F2 p side (metE qs y)=true:=by
 unfold F2 at *
 rw[GH,IK]
 exact h
theorem D8(qs:List Int)(b:Buf):Ab (BC qs b)=(Ab b).map (metE qs):=by
 unfold Ab partsB BC
 simp[List.map_flatten]
theorem KT(qs:List Int)(h:okB b):okB (BC qs b):=by
 refine Ol h.lim ?_ ?_ ?_ ?_ ?_ ?_
 ·show(((b.mem.map (metE qs)).length:Nat):Int)<=b.lim
  rw[lMp];exact h.mem
 ·rw[D8,lMp];exact h.all
 ·rw[D8]
  intro y hy
  obtain⟨z,hz,rfl⟩:=List.mem_map.1 hy
  exact Sf (h.entry hz)
 ·intro l hl
  have key:∀m∈partsB b,Gi (m.map (metE qs)):=fun m hm=>by
   have:=h.rises hm
   unfold Gi at *
   exact List.pairwise_map.2 (this.imp (fun {a b} k=>(VU qs a b).2 k))
  rcases List.mem_cons.1 hl with rfl|hl
  ·exact key b.mem (List.mem_cons_self ..)
  ·obtain⟨m,hm,rfl⟩:=List.mem_map.1 hl
   exact key m (List.mem_cons_of_mem _ hm)
 ·intro r hr
  obtain⟨m,hm,rfl⟩:=List.mem_map.1 hr
  rw[lMp];exact h.full m hm
 ·rw[D8,List.map_map]
  have:(AS∘metE qs)=AS:=funext (Se qs)
  rw[this];exact h.once
theorem KX(b:Buf)(y:Ent):(Ab (C7 b y)).Perm (y::Ab b):=MI (AU _)
theorem NX(h:okB b)(hf:DJ y)(hh:bf.hasB (Ab b) (AS y)=false)(hm:(Ab b).length≠4096):okB (C7 b y):=Q9 h hf hh hm (AU _) (GX _)
theorem Sh(b:Buf)(y:Ent):(C7 b y).lim=b.lim:=by unfold C7 Fl;split<;>rfl
structure goodJ(p:pl.Pln)(s:Jn):Prop where
 ok:okJ p s
 wf:∀y∈Ab s.L++Ab s.R,wfE y/\wfP (AS y)
theorem goodJ.of(h:goodJ p s)(side:Int):okB (Ae s side)/\(∀y∈Ab (Ae s side),wfE y/\wfP (AS y)):=by
 unfold Ae
 split
 ·exact⟨h.ok.R,fun y hy=>h.wf y (List.mem_append.2 (.inr hy))⟩
 ·exact⟨h.ok.L,fun y hy=>h.wf y (List.mem_append.2 (.inl hy))⟩
theorem EB{s':Jn}(h:goodJ p s)(hL:okB s'.L)(hR:okB s'.R)(lm:Cb s'.lm=true)(rm:Cb s'.rm=true)(hs:s'.seq=s.seq)(l1:s'.L.lim=s.L.lim)(l2:s'.R.lim=s.R.lim)
 (fL fR:Ent->Bool) (qL qR:List Int) (eL:Ab s'.L=((Ab s.L).filter fL).map (metE qL)) (eR:Ab s'.R=((Ab s.R).filter fR).map (metE qR)):goodJ p s':=by
 have h1:∀y∈Ab s'.L,∃z∈Ab s.L,metE qL z=y:=fun y hy=>by
  rw[eL]at hy
  obtain⟨z,hz,rfl⟩:=List.mem_map.1 hy
  exact⟨z,(List.mem_filter.1 hz).1,rfl⟩
 have h2:∀y∈Ab s'.R,∃z∈Ab s.R,metE qR z=y:=fun y hy=>by
  rw[eR]at hy
  obtain⟨z,hz,rfl⟩:=List.mem_map.1 hy
  exact⟨z,(List.mem_filter.1 hz).1,rfl⟩
 refine⟨⟨hL,hR,lm,rm,by rw[hs];exact h.ok.sq,by rw[l1];exact h.ok.ll,by rw[l2];exact h.ok.rl,fun y hy=>?_,?_,fun y hy=>?_,fun y hy=>?_⟩,fun y hy=>?_⟩
 ·rw[hs]
  rcases List.mem_append.1 hy with hy|hy
  ·obtain⟨z,hz,rfl⟩:=h1 y hy
   rw[FE];exact h.ok.below z (List.mem_append.2 (.inl hz))
  ·obtain⟨z,hz,rfl⟩:=h2 y hy
   rw[FE];exact h.ok.below z (List.mem_append.2 (.inr hz))
 ·have e1:∀q,((·.seq)∘metE q:Ent->Int)=(·.seq):=fun q=>funext (FE q)
  rw[eL,eR,List.map_append,List.map_map,List.map_map,e1,e1,<-List.map_append]
  exact h.ok.once.sublist ((List.filter_sublist.append List.filter_sublist).map _)
 ·obtain⟨z,hz,rfl⟩:=h1 y hy
  exact M5 (h.ok.rowL z hz)
 ·obtain⟨z,hz,rfl⟩:=h2 y hy
  exact M5 (h.ok.rowR z hz)
 ·rcases List.mem_append.1 hy with hy|hy
  ·obtain⟨z,hz,rfl⟩:=h1 y hy
   exact Sg (h.wf z (List.mem_append.2 (.inl hz)))
  ·obtain⟨z,hz,rfl⟩:=h2 y hy
   exact Sg (h.wf z (List.mem_append.2 (.inr hz)))
theorem PC(y:Ent):metE [] y=y:=by unfold metE;simp
theorem DQ(l:List Ent):(l.filter fun _=>true).map (metE [])=l:=by
 have:metE []=id:=funext PC
 rw[this,List.map_id]
 simp
theorem PD(qs:List Int)(l:List Ent):(l.filter fun _=>true).map (metE qs)=l.map (metE qs):=by
 have:(l.filter fun _=>true)=l:=List.filter_eq_self.2 (fun _ _=>rfl)
 rw[this]
theorem H8(f:Ent->Bool)(l:List Ent):(l.filter f).map (metE [])=l.filter f:=by
 have:metE []=id:=funext PC
 rw[this,List.map_id]
theorem GI(h:goodJ p s)(side:Int)(qs:List Int):goodJ p (Au s side (BC qs (Ae s side))):=by
 unfold Au Ae
 by_cases e:side=2
 ·rw[if_pos e,if_pos e]
  exact EB h h.ok.L (KT qs h.ok.R) h.ok.lm h.ok.rm rfl rfl rfl (fun _=>true) (fun _=>true) [] qs (DQ _).symm (by rw[PD];exact D8 qs _)
 ·rw[if_neg e,if_neg e]
  exact EB h (KT qs h.ok.L) h.ok.R h.ok.lm h.ok.rm rfl rfl rfl (fun _=>true) (fun _=>true) qs [] (by rw[PD];exact D8 qs _) (DQ _).symm
theorem LA(h:goodJ p s)(side time:Int)(ht:tm.AP time=true):goodJ p (AY s side time):=by
 have hm:Cb time=true:=by unfold Cb;rw[ht,Bool.or_true]
 unfold AY
 split
 ·exact EB h h.ok.L h.ok.R h.ok.lm hm rfl rfl rfl (fun _=>true) (fun _=>true) [] [] (DQ _).symm (DQ _).symm
 ·exact EB h h.ok.L h.ok.R hm h.ok.rm rfl rfl rfl (fun _=>true) (fun _=>true) [] [] (DQ _).symm (DQ _).symm
theorem H9(h:goodJ p s):goodJ p (C8 p s):=
 EB (s':=C8 p s) h (Gj _ h.ok.L) (Gj _ h.ok.R) h.ok.lm h.ok.rm rfl rfl rfl (Ci (Ay p s 1)) (Ci (Ay p s 2)) [] [] (by rw[H8];exact Dr _ _) (by rw[H8];exact Dr _ _)
theorem Si(h:goodJ p s):goodJ p (Jm s):=
 EB (s':=Jm s) h h.ok.L (Gj _ h.ok.R) h.ok.lm h.ok.rm rfl rfl rfl (fun _=>true) _ [] [] (DQ _).symm (by rw[H8];exact Dr _ _)
theorem I0(h:goodJ p s):goodJ p (Av p s):=by
 unfold Av
 split
 ·exact Si (H9 h)
 ·exact H9 h
structure wfV(v:Ev):Prop where
 row:Co v.row
 len:v.row.length<=9223372036854775807
theorem Uf(h:pl.hasB p side r=true):pl.AV p side r=0:=by
 unfold pl.hasB at h
 simp only[Bool.and_eq_true]at h
 exact of_decide_eq_true h.1
theorem M6{time seq:Int}{met:Bool}(hk:pl.hasB p side r=true)(hw:Co r)(ht:tm.AP time=true)(hs:0<=seq/\seq<=1099511627776):DJ ⟨pl.Am p side r,time,seq,r,met⟩/\(pl.Am p side r).size<=1048:=by
 have h:=pl.C2 (Uf hk)
 have hks:=pl.keys_in (side:=side) h.1
 have hok:rowOk (pl.Du p side r):=pl.Qe (by omega) (by rw[h.2.2.1];exact hks.1) h.2.2.2.1 hw
 have hcl:r.length<=8:=by
  rw[h.2.2.1]
  have:=pl.F5 (pl.BG h.1).2.2.1
  unfold pl.A1
  split<;>omega
 have he:encR (pl.Du p side r)=(pl.Am p side r).data.toList:=by unfold pl.Am;rw[if_pos hk]
 refine⟨⟨⟨_,hok,he⟩,?_,ht,hs⟩,?_⟩
 ·show AE r=0
  unfold AE
  rw[if_neg (by omega)]
  exact h.2.2.2.1
 ·have h1:=Nq hok
  have h2:=Hi hok
  have:(pl.Am p side r).size=(Eb (pl.Du p side r)).size:=by
   show(pl.Am p side r).data.size=(Eb (pl.Du p side r)).data.size
   rw[<-Array.length_toList,<-Array.length_toList,<-he,h2]
  omega
theorem KY{l:List Ent}{n:Int}{k:ByteArray}{t:Int}(h:∀y∈l,y.seq<n):bf.hasB l (k,t,n)=false:=by
 unfold bf.hasB
 rw[List.any_eq_false]
 intro y hy e
 have:=h y hy
 have e:=of_decide_eq_true e
 unfold AS at e
 injection e with _ e
 injection e with _ e
 omega
structure comeJ(p:pl.Pln)(s:Jn)(v:Ev):Prop where
 side:pl.A0 v.side=true
 time:tm.AP v.time=true
 err:pl.AV p v.side v.row=0
 late:markOf s v.side<v.time
 sq:s.seq≠1099511627776
 few:(Ab (Ae s v.side)).length≠4096
theorem IL(h:Az p s v=0)(hk:v.kind≠2):comeJ p s v:=by
 unfold Az at h
 by_cases h1:¬(v.kind=1\/v.kind=2)\/pl.A0 v.side=false
 ·rw[if_pos h1]at h;cases h
 ·rw[if_neg h1]at h
  have hs:pl.A0 v.side=true:=by
   cases e:pl.A0 v.side with
   |true=>rfl
   |false=>exact absurd (.inr e) h1
  cases h2:tm.AP v.time with
  |false=>rw[h2]at h;simp at h
  |true=>
   rw[h2,if_neg (by simp),if_neg hk]at h
   by_cases h3:pl.AV p v.side v.row=0
   ·rw[if_neg (by simp[h3])]at h
    by_cases h4:v.time<=markOf s v.side
    ·rw[if_pos h4]at h;cases h
    ·rw[if_neg h4]at h
     by_cases h5:s.seq=1099511627776\/(Ab (Ae s v.side)).length=4096
     ·rw[if_pos h5]at h;cases h
     ·exact⟨hs,h2,h3,by omega,fun e=>h5 (.inl e),fun e=>h5 (.inr e)⟩
   ·rw[if_pos h3]at h;exact absurd h h3
theorem LC(h:Az p s v=0)(hk:v.kind=2):pl.A0 v.side=true/\tm.AP v.time=true/\v.row.length=0/\markOf s v.side<=v.time:=by
 unfold Az at h
 by_cases h1:¬(v.kind=1\/v.kind=2)\/pl.A0 v.side=false
 ·rw[if_pos h1]at h;cases h
 ·rw[if_neg h1]at h
  have hs:pl.A0 v.side=true:=by
   cases e:pl.A0 v.side with
   |true=>rfl
   |false=>exact absurd (.inr e) h1
  cases h2:tm.AP v.time with
  |false=>rw[h2]at h;simp at h
  |true=>
   rw[h2,if_neg (by simp),if_pos hk]at h
   by_cases h3:0<v.row.length
   ·rw[if_pos h3]at h;cases h
   ·rw[if_neg h3]at h
    by_cases h4:v.time<markOf s v.side
    ·rw[if_pos h4]at h;cases h
    ·exact⟨hs,rfl,by omega,by omega⟩
theorem side_is(h:pl.A0 side=true):side=1\/side=2:=by unfold pl.A0 at h;simpa using h
theorem Ia(h:goodJ p s)(hc:comeJ p s v)(hv:wfV v)(met:Bool):goodJ p (Cm p s v met):=by
 have hs1:0<=s.seq+1/\s.seq+1<=1099511627776:=by have:=h.ok.sq;have:=hc.sq;omega
 unfold Cm
 by_cases hk:pl.hasB p v.side v.row=true/\Ay p s v.side<v.time
 ·rw[if_pos hk]
  obtain⟨hf,hsz⟩:=M6 (met:=met) hk.1 hv.row hc.time h.ok.sq
  have hwe:wfE ⟨pl.Am p v.side v.row,v.time,s.seq,v.row,met⟩/\wfP (AS ⟨pl.Am p v.side v.row,v.time,s.seq,v.row,met⟩):=by
   refine⟨⟨Nat.le_trans hsz (by decide),hv.row,hv.len⟩,?_⟩
   have ht:=hc.time
   unfold tm.AP at ht
   have ht:=of_decide_eq_true ht
   have:=h.ok.sq
   exact⟨Nat.le_trans hsz (by decide),⟨by show _<=v.time;omega,by show v.time<=_;omega⟩,⟨by show _<=s.seq;omega,by show s.seq<=_;omega⟩⟩
  have hrB:F2 p v.side ⟨pl.Am p v.side v.row,v.time,s.seq,v.row,met⟩=true:=by
   unfold F2
   simp only[Bool.and_eq_true]
   exact⟨⟨decide_eq_true hc.err,hk.1⟩,by simp⟩
  have hno:bf.hasB (Ab (Ae s v.side)) (pl.Am p v.side v.row,v.time,s.seq)=false:=KY (fun y hy=>h.ok.below y (by
   unfold Ae at hy
   split at hy
   ·exact List.mem_append.2 (.inr hy)
   ·exact List.mem_append.2 (.inl hy)))
  have hmr:=NX (h.of v.side).1 hf hno hc.few
  have hme:=KX (Ae s v.side) ⟨pl.Am p v.side v.row,v.time,s.seq,v.row,met⟩
  have hml:=Sh (Ae s v.side) ⟨pl.Am p v.side v.row,v.time,s.seq,v.row,met⟩
  have hnd:s.seq ∉ (Ab s.L++Ab s.R).map (·.seq):=fun hm=>by
   obtain⟨y,hy,e⟩:=List.mem_map.1 hm
   have:=h.ok.below y hy
   omega
  obtain⟨E,hE⟩:∃z:Ent,⟨pl.Am p v.side v.row,v.time,s.seq,v.row,met⟩=z:=⟨_,rfl⟩
  have hEs:E.seq=s.seq:=by rw[<-hE]
  rw[hE]at hf hwe hrB hmr hme hml⊢
  clear hE
  unfold Au
  rcases side_is hc.side with e|e
  ·rw[if_neg (by omega)]
   rw[e]at hrB hmr hme hml
   rw[e]
   have eb:Ae s 1=s.L:=by unfold Ae;rw[if_neg (by decide)]
   rw[eb]at hmr hme hml⊢
   have hperm:(Ab (C7 s.L E)++Ab s.R).Perm (E::(Ab s.L++Ab s.R)):=by
    have:=hme.append_right (Ab s.R)
    simpa using this
   refine⟨⟨hmr,h.ok.R,h.ok.lm,h.ok.rm,hs1,by rw[hml];exact h.ok.ll,h.ok.rl,fun y hy=>?_,?_,fun y hy=>?_,h.ok.rowR⟩,fun y hy=>?_⟩
   ·show y.seq<s.seq+1
    rcases List.mem_cons.1 (hperm.mem_iff.1 hy)with rfl|hy
    ·omega
    ·have:=h.ok.below y hy;omega
   ·refine((hperm.map (·.seq)).nodup_iff).2 ?_
    rw[List.map_cons,List.nodup_cons,hEs]
    exact⟨hnd,h.ok.once⟩
   ·rcases List.mem_cons.1 (hme.mem_iff.1 hy)with rfl|hy
    ·exact hrB
    ·exact h.ok.rowL y hy
   ·rcases List.mem_cons.1 (hperm.mem_iff.1 hy)with rfl|hy
    ·exact hwe
    ·exact h.wf y hy
  ·rw[if_pos e]
   rw[e]at hrB hmr hme hml
   rw[e]
   have eb:Ae s 2=s.R:=by unfold Ae;rw[if_pos rfl]
   rw[eb]at hmr hme hml⊢
   have hperm:(Ab s.L++Ab (C7 s.R E)).Perm (E::(Ab s.L++Ab s.R)):=by
    have:=hme.append_left (Ab s.L)
    exact this.trans List.perm_middle
   refine⟨⟨h.ok.L,hmr,h.ok.lm,h.ok.rm,hs1,h.ok.ll,by rw[hml];exact h.ok.rl,fun y hy=>?_,?_,h.ok.rowL,fun y hy=>?_⟩,fun y hy=>?_⟩
   ·show y.seq<s.seq+1
    rcases List.mem_cons.1 (hperm.mem_iff.1 hy)with rfl|hy
    ·omega
    ·have:=h.ok.below y hy;omega
   ·refine((hperm.map (·.seq)).nodup_iff).2 ?_
    rw[List.map_cons,List.nodup_cons,hEs]
    exact⟨hnd,h.ok.once⟩
   ·rcases List.mem_cons.1 (hme.mem_iff.1 hy)with rfl|hy
    ·exact hrB
    ·exact h.ok.rowR y hy
   ·rcases List.mem_cons.1 (hperm.mem_iff.1 hy)with rfl|hy
    ·exact hwe
    ·exact h.wf y hy
 ·rw[if_neg hk]
  exact⟨⟨h.ok.L,h.ok.R,h.ok.lm,h.ok.rm,hs1,h.ok.ll,h.ok.rl,fun y hy=>by have:=h.ok.below y hy;show y.seq<s.seq+1;omega,h.ok.once,h.ok.rowL,h.ok.rowR⟩,h.wf⟩
theorem EC(hc:comeJ p s v)(side:Int)(qs:List Int):comeJ p (Au s side (BC qs (Ae s side))) v:=by
 refine⟨hc.side,hc.time,hc.err,?_,?_,?_⟩
 ·have:=hc.late
  have e:markOf (Au s side (BC qs (Ae s side))) v.side=markOf s v.side:=by
   unfold Au
   split<;>rfl
  rw[e]
  exact this
 ·have:=hc.sq
  unfold Au
  split<;>exact this
 ·have:=hc.few
  unfold Au Ae at *
  by_cases e1:side=2<;>by_cases e2:v.side=2<;>simp only[e1,e2,if_true,if_false,D8,lMp]at this⊢ <;>first|exact this|(rw[D8,lMp];exact this)
theorem good_row(h:goodJ p s)(hc:comeJ p s v)(hv:wfV v):goodJ p (E6 p s v).1:=by
 unfold E6
 split
 ·split
  ·exact Ia h hc hv _
  ·have hb:Ae s 1=s.L:=by unfold Ae;rw[if_neg (by decide)]
   have h1:=GI h 1 ((CN p s v).map (·.seq))
   have h2:=EC hc 1 ((CN p s v).map (·.seq))
   rw[hb]at h1 h2
   exact Ia h1 h2 hv _
 ·exact Ia (GI h _ _) (EC hc _ _) hv _
theorem good_step(hw:∀y∈Ab s.L++Ab s.R,wfE y/\wfP (AS y))(hv:wfV v)(h0:(stepJ p s v).1=0):goodJ p (stepJ p s v).2.1:=by
 unfold stepJ at h0⊢
 by_cases h1:B7 p s=0
 ·rw[if_neg (by simp[h1])]at h0⊢
  have hg:goodJ p s:=⟨(Dc h1).2,hw⟩
  by_cases h2:Az p s v=0
  ·rw[if_neg (by simp[h2])]at h0⊢
   by_cases h3:v.kind=2
   ·rw[if_pos h3]
    exact I0 (LA hg v.side v.time (LC h2 h3).2.1)
   ·rw[if_neg h3]
    exact good_row hg (IL h2 h3) hv
  ·rw[if_pos h2]at h0;exact absurd h0 h2
 ·rw[if_pos h1]at h0;exact absurd h0 h1
end jn
namespace jn
open Go.ChangeShapes Go.WideShapes Go.ChangeAt Go.RowKit
open vl bf
attribute [local go_sem] Oper.semAt_some
variable {T e : TypeId} {w w' w0 w1 w2 : World} {b base g o rc rn : Nat} {t v : Value} {L : List CO} {p : pl.Pln} {x : pl.PA} {s : Jn} {y : JX} {ra : Option Addr} {row : List Cel} {side : Int}
def Bt(T:TypeId)(w w':World):Prop:=Below 0 w w'/\∀g e,An w g e->e≠T->e≠55->w'.heap[g]? =w.heap[g]?
theorem Bt.refl(T:TypeId)(w:World):Bt T w w:=⟨bR,fun _ _ _ _ _=>rfl⟩
theorem Bt.trans(h:Bt T w w1)(k:Bt T w1 w2):Bt T w w2:=⟨h.1.trans k.1,fun g e hg h1 h2=>(k.2 g e (AD hg (h.2 g e hg h1 h2)) h1 h2).trans (h.2 g e hg h1 h2)⟩
theorem Bl(h:Bwz w w'):Bt T w w':=⟨h.mono (Nat.zero_le _),fun g e hg _ _=>h.block g (Ba hg)⟩
theorem IZ(ho:N8 w w' b t)(hT:An w b T)(hc:CG w base t L):Bt T w w':=⟨ho.1,fun g e hg h1 h2=>Qj ho hT hc h1.symm h2 hg⟩
theorem Bt.cell(h:Bt T w w')(hg:An w g e)(h1:e≠T)(h2:e≠55)(hc:w.cell? ⟨g,o,none⟩=some v):w'.cell? ⟨g,o,none⟩=some v:=(cOb (w:=w) (a:=⟨g,o,none⟩) (h.2 g e hg h1 h2)).trans hc
theorem Bt.ty(h:Bt T w w')(hg:An w g e)(h1:e≠T)(h2:e≠55):An w' g e:=AD hg (h.2 g e hg h1 h2)
theorem Bt.oe{es:List EM}{l:List Ent}(h:Bt T w w')(hT:calmC T)(ho:OE w base v es l):OE w' base v es l:=ho.other h.1.size (fun g hg=>hg.elim (fun k=>h.2 g _ k hT.t.e.symm (by decide)) (fun k=>h.2 g _ k hT.t.v.symm (by decide)))
def Bg(T:TypeId)(w w':World):Prop:=Below 0 w w'/\∀g e,An w g e->e≠T->e≠55->e≠63->w'.heap[g]? =w.heap[g]?
theorem Bg.trans(h:Bg T w w1)(k:Bg T w1 w2):Bg T w w2:=⟨h.1.trans k.1,fun g e hg h1 h2 h3=>(k.2 g e (AD hg (h.2 g e hg h1 h2 h3)) h1 h2 h3).trans (h.2 g e hg h1 h2 h3)⟩
theorem Aq(h:Bwz w w'):Bg T w w':=⟨h.mono (Nat.zero_le _),fun g e hg _ _ _=>h.block g (Ba hg)⟩
theorem Bt.m(h:Bt T w w'):Bg T w w':=⟨h.1,fun g e hg h1 h2 _=>h.2 g e hg h1 h2⟩
theorem GY.m(h:GY w w'):Bg T w w':=⟨h.1,fun g e hg _ _ h3=>h.2 g e hg h3⟩
theorem Bg.cell(h:Bg T w w')(hg:An w g e)(h1:e≠T)(h2:e≠55)(h3:e≠63)(hc:w.cell? ⟨g,o,none⟩=some v):w'.cell? ⟨g,o,none⟩=some v:=(cOb (w:=w) (a:=⟨g,o,none⟩) (h.2 g e hg h1 h2 h3)).trans hc
theorem DM(h:JSt w0 w b T p x s y t L)(hT:calmC T)(hl:L.length<=1000000)(hb:Bwz w w1)(hv:AM w1 w.heap.size (.slice ra rn rc) row):
 Calls Tryz.prog 271 #[.pointer (some ⟨b,0,none⟩),.slice ra rn rc] w1 fun e w'=>e= .returned (.tuple #[])/\∃t',JSt w0 w' b T p x s y t' (L++[⟨1,.slice ra rn rc,row⟩])/\Bt T w1 w':=
 have h1:=h.below hb
 (Pf b p x s y t T ra rn rc row L w0.heap.size w w1 h1.box h1.ty hT.c hT.t.v h.cg hb hv hl).mono (by
  rintro e w' ⟨rfl,t',hb',hc',ho'⟩
  exact⟨rfl,t',h1.told hT hb' hc' ho',IZ ho' h1.ty h1.cg⟩)
theorem LD{sa:Option Addr}{sn sc:Nat}{srow:List Cel}(h:JSt w0 w b T p x s y t L)(hT:calmC T)(hl:L.length<=1000000)(hb1:Bwz w w1)(hv1:AM w1 w.heap.size (.slice sa sn sc) srow)(hb2:Bwz w1 w2)(hv2:AM w2 w1.heap.size (.slice ra rn rc) row):
 Calls Tryz.prog 269 #[.pointer (some ⟨b,0,none⟩),.slice ra rn rc,.slice sa sn sc] w2 fun e w'=>e= .returned (.tuple #[])/\∃t',JSt w0 w' b T p x s y t' (L++[⟨3,.slice ra rn rc,row⟩,⟨4,.slice sa sn sc,srow⟩])/\Bt T w2 w':=
 have hb:=hb1.trans (hb2.mono hb1.size)
 have h1:=h.below hb
 (T4 b p x s y t T ra sa rn rc sn sc row srow L w0.heap.size w2 h1.box h1.ty hT.c hT.t.v (h.cg.two2 hb1 hv1 hb2 hv2) hl).mono (by
  rintro e w' ⟨rfl,t',hb',hc',ho'⟩
  exact⟨rfl,t',h1.told hT hb' hc' ho',IZ ho' h1.ty h1.cg⟩)
def toldOf(p:pl.Pln)(v:Ev)(e:Ent):List ch.Chg:=if BW p.mode (3 - v.side)=true/\e.met=false then [⟨3,AH p (3 - v.side) e.row⟩,⟨4,AO v.side v.row e.row⟩]else [⟨1,AO v.side v.row e.row⟩]
def pairT(p:pl.Pln)(v:Ev)(l:List Ent):List ch.Chg:=l.flatMap (toldOf p v)++if l.isEmpty=true/\BW p.mode v.side=true then [⟨1,AH p v.side v.row⟩]else []
theorem M7(p:pl.Pln)(s:Jn)(v:Ev):BZ p s v=pairT p v (Bv p s v (Dg p v) (toJ p v)):=rfl
theorem Gg(h:pl.A0 side=true):pl.A0 (3 - side)=true/\3 - (3 - side)=side:=by
 rcases side_is h with rfl|rfl<;>exact⟨by decide,by decide⟩
theorem Ib{α β:Type}(f:α->List β){l:List α}{k:Nat}{d:α}(h:k<l.length):(l.take (k+1)).flatMap f=(l.take k).flatMap f++f (l.getD k d):=by
 rw[List.take_succ_eq_append_getElem h,List.flatMap_append,gDe,gEe h]
 simp
theorem Dq{r:List Cel}(h:pl.AV p side r=0):0<r.length/\r.length<=400:=by
 have h1:=pl.C2 h
 have h2:=SA h1.1 side
 rw[h1.2.2.1]
 omega
theorem Ec(h:goodJ p s)(hs:pl.A0 side=true){y:Ent}(hy:y∈Ab (Ae s side)):pl.AV p side y.row=0:=by
 have key:∀{sd:Int},F2 p sd y=true->pl.AV p sd y.row=0:=fun hr=>by
  unfold F2 at hr
  simp only[Bool.and_eq_true]at hr
  exact of_decide_eq_true hr.1.1
 rcases side_is hs with rfl|rfl
 ·exact key (h.ok.rowL y hy)
 ·exact key (h.ok.rowR y hy)
theorem M8(b:Nat)(T:TypeId)(p:pl.Pln)(x:pl.PA)(s:Jn)(y:JX)(v:Ev)(ra:Option Addr)(rc:Nat)(fr tO:Int)(w0 w:World)(h:JSt w0 w b T p x s y (.slice none 0 0) [])(hT:calmC T)(hTc:T≠92)(hg:goodJ p s)(hs:pl.A0 v.side=true)(hv:vl.rowAt w0 ra v.row)(he:pl.AV p v.side v.row=0):
 Calls Tryz.prog 262 #[.pointer (some ⟨b,0,none⟩),Bo p v ra rc,.int .i64 fr,.int .i64 tO] w fun e w'=>e= .returned (.bool (!(Bv p s v fr tO).isEmpty))/\∃y' t' L',JSt w0 w' b T p x (Au s (3 - v.side) (BC ((Bv p s v fr tO).map (·.seq)) (Ae s (3 - v.side)))) y' t' L'/\L'.map CO.chg=pairT p v (Bv p s v fr tO)/\Bg T w w':=by
 have hp:=(pl.C2 he).1
 have ho:=Gg hs
 have hsm:=Dq he
 have HJ:Hid (JSt w0 w b T p x s y (.slice none 0 0) []):=h
 have HG:Hid (goodJ p s/\okB (Ae s (3 - v.side))/\∀z∈Ab (Ae s (3 - v.side)),wfE z/\wfP (AS z)):=⟨hg,hg.of _⟩
 have KO:=hIz (fun(w1:World)=>FP v.side w1 hs)
 have hob:∀w1 s y t L,JSt w0 w1 b T p x s y t L->bufAt w1 (Ae s (3 - v.side)) (Bj y (3 - v.side)):=fun w1 s y t L hj=>by
  unfold Ae Bj
  split
  ·exact hj.r.at
  ·exact hj.l.at
 have KW:Hid (∀w1,Bwz w w1->Calls Tryz.prog 266 #[.pointer (some ⟨b,0,none⟩),Bo p v ra rc,.int .i64 fr,.int .i64 tO] w1 fun e w'=>(∃hh es,e= .returned (hdV hh)/\OE w' w1.heap.size (hdV hh) es (Bv p s v fr tO))/\Bwz w1 w'):=fun w1 hb=>Fo b p x s y _ v ra rc fr tO w1 hs (HJ.out.below hb).box (hob _ _ _ _ _ (HJ.out.below hb)) HG.out.2.1 HG.out.2.2
 have KP:=hIz (fun side (w1:World)=>Iu p.mode side w1)
 have KJ:=hIz (fun(q:List Cel) (qa:Option Addr) (qc:Nat) (w1:World) (h1:0<q.length) (h2:q.length<=400) (hb:Bwz w0 w1) (hq:vl.rowAt w1 qa q)=>C0 v.side ra qa rc qc v.row q w1 hsm.1 h1 hsm.2 h2 (vl.Ac hv hb) hq)
 have KA:=hIz (fun(q:List Cel) (qa:Option Addr) (qc:Nat) (w1:World) (h1:0<q.length) (h2:q.length<=400) (hb:BB w1 b p x) (hq:vl.rowAt w1 qa q)=>FJ b p x (3 - v.side) qa qc q w1 hp ho.1 hb hq h1 h2)
 have KA2:=hIz (fun(w1:World) (hb:BB w1 b p x) (hb0:Bwz w0 w1)=>FJ b p x v.side ra rc v.row w1 hp hs hb (vl.Ac hv hb0) hsm.1 hsm.2)
 have HES:Hid (∀k,k<(Bv p s v fr tO).length->(0<((Bv p s v fr tO).getD k default).row.length/\((Bv p s v fr tO).getD k default).row.length<=400)):=fun k hk=>Dq (Ec hg ho.1 (Ha (Bb hk)))
 have HQ:Hid ((Bv p s v fr tO).length<=4096/\∀z∈Bv p s v fr tO,pl.i64 z.seq):=⟨GZ HG.out.2.1,fun z hz=>(HG.out.2.2 z (Ha hz)).2.seq⟩
 have HI:Hid (∀z∈Ab (Ae s (3 - v.side)),pl.i64 z.seq):=fun z hz=>(HG.out.2.2 z hz).2.seq
 have HTO:Hid (∀e,toldOf p v e=if BW p.mode (3 - v.side)=true/\e.met=false then [⟨3,AH p (3 - v.side) e.row⟩,⟨4,AO v.side v.row e.row⟩]else [⟨1,AO v.side v.row e.row⟩]):=fun e=>rfl
 have HPT:Hid (pairT p v (Bv p s v fr tO)=(Bv p s v fr tO).flatMap (toldOf p v)++if (Bv p s v fr tO).isEmpty=true/\BW p.mode v.side=true then [⟨1,AH p v.side v.row⟩]else []):=rfl
 have hbw:=h.bl
 obtain⟨PS,hPS⟩:=nM (Bv p s v fr tO)
 rw[hPS]at KW HES HQ HPT⊢
 obtain⟨PT,hPT⟩:=nM (pairT p v PS)
 rw[hPT]at HPT⊢
 unfold Bo at KW⊢
 obtain⟨kb,h1⟩:=nM (pl.Am p v.side v.row)
 obtain⟨kh,h2⟩:=nM (pl.hasB p v.side v.row)
 obtain⟨rl,hrl⟩:=nM v.row.length
 have HRL:Hid (v.row.length=rl):=hrl
 rw[h1,h2,hrl]at KW⊢
 rw[hrl]at KJ KA2
 obtain⟨od,hod⟩:=nM (3 - v.side)
 have HOD:Hid (3 - v.side=od):=hod
 rw[hod]at KO KA HI HG HTO⊢
 obtain⟨sd,hsd⟩:=nM v.side
 obtain⟨md,hmd⟩:=nM p.mode
 have HMD:Hid (∀w1 s y t L,JSt w0 w1 b T p x s y t L->w1.cell? ⟨b,1,none⟩=some (.int .i64 md)):=fun w1 s y t L hj=>by rw[<-hmd];exact hj.box.plan.2.1
 obtain⟨c1,hc1⟩:=nM (BW p.mode od)
 obtain⟨c2,hc2⟩:=nM (BW p.mode v.side)
 have KP1:Hid (∀w1,Calls Tryz.prog 268 #[.int .i64 md,.int .i64 od] w1 fun e w'=>e= .returned (.bool c1)/\w'=w1):=fun w1=>by rw[<-hc1,<-hmd];exact KP.out od w1
 have KP2:Hid (∀w1,Calls Tryz.prog 268 #[.int .i64 md,.int .i64 v.side] w1 fun e w'=>e= .returned (.bool c2)/\w'=w1):=fun w1=>by rw[<-hc2,<-hmd];exact KP.out v.side w1
 rw[hc1]at HTO
 rw[hc2]at HPT
 rw[hsd]at KO KJ KA2 KW KP2 HTO HPT⊢
 obtain⟨tm',htm⟩:=nM v.time
 rw[htm]at KW⊢
 clear h hg hs hv he hp ho hsm hPS h1 h2 hrl hod hmd hc1 hc2 hsd htm hob KP hPT
 obtain⟨n,hn⟩:=nM PS.length
 have HN:Hid (PS.length=n):=hn
 have hnl:n<=4096:=by rw[<-hn];exact HQ.out.1
 clear hn
 go_enter Tryz.func262,Tryz.ntmps262
 go_wp2_with (first
  |(go_at_call 264;refine(KO.out _).mono ?_;rintro e w2 ⟨rfl,rfl⟩)
  |(go_at_call 266;refine(KW.out _ (bR.alloc nR _)).mono ?_;rintro e V ⟨⟨hh,es,rfl,ho⟩,hbV⟩;have q0:=cLz hbV (show(World.alloc w (.cells #[.int .i64 sd,.int .i64 tm',.slice ra rl rc,.string kb,.bool kh] 92)).cell? ⟨w.heap.size,0,none⟩=some (.int .i64 sd) by go_simp);have q2:=cLz hbV (show(World.alloc w (.cells #[.int .i64 sd,.int .i64 tm',.slice ra rl rc,.string kb,.bool kh] 92)).cell? ⟨w.heap.size,2,none⟩=some (.slice ra rl rc) by go_simp);have HQT:Hid (An V w.heap.size 92):=Af ⟨_,_,World.alloc_heap_new w _⟩ hbV;have hb0:Bwz w V:=(bR.alloc nR _).trans (hbV.mono (by simp));have HOE:Hid (OE V (w.heap.size+1) (hdV hh) es PS):=(by have:=ho;rw[World.size_alloc]at this;exact this);clear ho;have HLE:Hid (hh.2.1=n):=(by show _=_;rw[<-HN.out,<-HOE.out.len];exact(Cf (p:=(hh,es)) HOE.out).1.1);obtain⟨g1,g2,g3⟩:=hh;have hle:g2=n:=HLE.out;subst hle;unfold hdV;dsimp only))
 go_loopw [24] (fun i wr=> ∃(k:Nat) (t':Value) (L':List CO),k<=g2/\i= .int .i64 k/\Hid (JSt w0 wr b T p x s y t' L')/\Hid (L'.map CO.chg=(PS.take k).flatMap (toldOf p v))/\L'.length<=2 * k/\Hid (Bt T V wr)) (fun i _=>g2 - (intOf i).toNat)
 case atStart=>exact⟨0,_,[],Nat.zero_le _,rfl,HJ.out.below hb0,rfl,Nat.le_refl _,Bt.refl _ _⟩
 case round=>
  obtain⟨k,t',L',hk,rfl,HJR,HLC,hll,HKT⟩:=hrel
  have q0:=HKT.out.cell HQT.out hTc.symm (by decide) q0
  have q2:=HKT.out.cell HQT.out hTc.symm (by decide) q2
  have HQR:Hid (An wr w.heap.size 92):=HKT.out.ty HQT.out hTc.symm (by decide)
  have HOR:Hid (OE wr (w.heap.size+1) (hdV (g1,g2,g3)) es PS):=HKT.out.oe hT HOE.out
  have m1:=HMD.out _ _ _ _ _ HJR.out
  have lq:w.heap.size<wr.heap.size:=bLt _ _ q0
  have lb:b<wr.heap.size:=HJR.out.box.lt
  by_cases hlt:k<g2
  ·have hkl:k<PS.length:=by rw[HN.out];exact hlt
   obtain⟨gb,off,ea,x1,x2,x3,x4,x5⟩:=(Cf (p:=((g1,g2,g3),es)) HOR.out).2 k (by rw[HOR.out.len];exact hkl)
   dsimp only at ea
   subst ea
   have her:=HOR.out.ers.2 k hkl
   have hes:=HES.out k hkl
   have HTK:Hid ((PS.take (k+1)).flatMap (toldOf p v)=(PS.take k).flatMap (toldOf p v)++toldOf p v (PS.getD k default)):=Ib (toldOf p v) hkl
   have HTE:=HTO.out (PS.getD k default)
   obtain⟨E,hE⟩:=nM (PS.getD k default)
   rw[hE]at her hes HTK HTE
   obtain⟨⟨ek,et,es1,⟨r1,r2,r3⟩,em⟩,hz⟩:∃z,es.getD k default=z:=⟨_,rfl⟩
   rw[hz]at x1 x2 x3 x4 x5 her
   unfold hdV at x4
   dsimp only at x1 x2 x3 x4 x5
   have hem:em=E.met:=her.met
   have hrr:r2=E.row.length:=her.len
   have HRW:Hid (vl.rowAt wr r1 E.row):=her.row
   have KJk:Hid (∀w1,Bwz wr w1->Calls Tryz.prog 267 #[.int .i64 sd,.slice ra rl rc,.slice r1 r2 r3] w1 fun e w'=>(∃ad cap,e= .returned (.slice ad (AO sd v.row E.row).length cap)/\AM w' w1.heap.size (.slice ad (AO sd v.row E.row).length cap) (AO sd v.row E.row))/\Bwz w1 w'):=fun w1 hb=>by rw[hrr];exact KJ.out E.row r1 r3 w1 hes.1 hes.2 (HJR.out.bl.trans (hb.mono HJR.out.bl.size)) (vl.Ac HRW.out hb)
   have KAk:Hid (∀w1,Bwz wr w1->Calls Tryz.prog 270 #[.pointer (some ⟨b,0,none⟩),.int .i64 od,.slice r1 r2 r3] w1 fun e w'=>(∃ad cap,e= .returned (.slice ad (AH p od E.row).length cap)/\AM w' w1.heap.size (.slice ad (AH p od E.row).length cap) (AH p od E.row))/\Bwz w1 w'):=fun w1 hb=>by rw[hrr];exact KA.out E.row r1 r3 w1 hes.1 hes.2 (Al HJR.out.box.plan hb) (vl.Ac HRW.out hb)
   obtain⟨JR,hJR⟩:=nM (AO sd v.row E.row)
   obtain⟨AR,hAR⟩:=nM (AH p od E.row)
   rw[hJR]at KJk HTE
   rw[hAR]at KAk HTE
   obtain⟨jn,hjn⟩:=nM JR.length
   obtain⟨an,han⟩:=nM AR.length
   rw[hjn]at KJk
   rw[han]at KAk
   rw[<-hem]at HTE
   have i1:(0:Int)<=(k:Int):=by omega
   have i2:(k:Int)<(g2:Int):=by omega
   have HTE2:Hid (toldOf p v E=if c1=true/\em=false then [⟨3,AR⟩,⟨4,JR⟩]else [⟨1,JR⟩]):=HTE
   clear her hes hE hz hem hrr hJR hAR hjn han HTE
   have hnl6:L'.length<=1000000:=by omega
   by_cases hcm:c1=true/\em=false
   ·obtain⟨e1,e2⟩:=hcm
    have HTE:Hid (toldOf p v E=[⟨3,AR⟩,⟨4,JR⟩]):=by show _=_;rw[HTE2.out,if_pos ⟨e1,e2⟩]
    subst e1 e2
    go_wp2_with (first
     |(go_at_call 267;refine(KJk.out _ (bR.alloc nR _)).mono ?_;rintro e w5 ⟨⟨ad,cap,rfl,ho5⟩,hb5⟩;have hbx5:Bwz wr w5:=(bR.alloc nR _).trans (hb5.mono (by simp));have z3:=cLz hb5 (show(World.alloc wr (.cells #[.string ek,.int .i64 et,.int .i64 es1,.slice r1 r2 r3,.bool false] 63)).cell? ⟨wr.heap.size,3,none⟩=some (.slice r1 r2 r3) by go_simp);have z4:=cLz hb5 (show(World.alloc wr (.cells #[.string ek,.int .i64 et,.int .i64 es1,.slice r1 r2 r3,.bool false] 63)).cell? ⟨wr.heap.size,4,none⟩=some (.bool false) by go_simp);have m5:=cLz hbx5 m1;have HV5:Hid (AM w5 wr.heap.size (.slice ad jn cap) JR):=World.ownsRow.mono ho5 (by simp))
     |(go_at_call 268;refine(KP1.out _).mono ?_;rintro e w6 ⟨rfl,rfl⟩)
     |(go_at_call 270;refine(KAk.out _ hbx5).mono ?_;rintro e w7 ⟨⟨ad2,cap2,rfl,ho7⟩,hb7⟩)
     |(go_at_call 269;refine(LD HJR.out hT hnl6 hbx5 HV5.out hb7 ho7).mono ?_;rintro e w8 ⟨rfl,t8,hj8,hk8⟩))
    go_roundw
    case rel=>exact⟨k+1,t8,_,by omega,by go_num,hj8,by show _=_;rw[List.map_append,HLC.out,HTK.out,HTE.out];rfl,by rw[lAp];show _+2<=_;omega,HKT.out.trans ((Bl (hbx5.trans (hb7.mono hbx5.size))).trans hk8)⟩
    case measure=>simp[intOf];omega
   ·have HTE:Hid (toldOf p v E=[⟨1,JR⟩]):=by show _=_;rw[HTE2.out,if_neg hcm]
    have hcc:c1=false\/(c1=true/\em=true):=by
     cases c1<;>cases em<;>simp at hcm⊢
    clear hcm
    rcases hcc with e1|⟨e1,e2⟩
    ·subst e1
     go_wp2_with (first
      |(go_at_call 267;refine(KJk.out _ (bR.alloc nR _)).mono ?_;rintro e w5 ⟨⟨ad,cap,rfl,ho5⟩,hb5⟩;have hbx5:Bwz wr w5:=(bR.alloc nR _).trans (hb5.mono (by simp));have z4:=cLz hb5 (show(World.alloc wr (.cells #[.string ek,.int .i64 et,.int .i64 es1,.slice r1 r2 r3,.bool em] 63)).cell? ⟨wr.heap.size,4,none⟩=some (.bool em) by go_simp);have m5:=cLz hbx5 m1;have HV5:Hid (AM w5 wr.heap.size (.slice ad jn cap) JR):=World.ownsRow.mono ho5 (by simp))
      |(go_at_call 268;refine(KP1.out _).mono ?_;rintro e w6 ⟨rfl,rfl⟩)
      |(go_at_call 271;refine(DM HJR.out hT hnl6 hbx5 HV5.out).mono ?_;rintro e w8 ⟨rfl,t8,hj8,hk8⟩))
     go_roundw
     case rel=>exact⟨k+1,t8,_,by omega,by go_num,hj8,by show _=_;rw[List.map_append,HLC.out,HTK.out,HTE.out];rfl,by rw[lAp];show _+1<=_;omega,HKT.out.trans ((Bl hbx5).trans hk8)⟩
     case measure=>simp[intOf];omega
    ·subst e1 e2
     go_wp2_with (first
      |(go_at_call 267;refine(KJk.out _ (bR.alloc nR _)).mono ?_;rintro e w5 ⟨⟨ad,cap,rfl,ho5⟩,hb5⟩;have hbx5:Bwz wr w5:=(bR.alloc nR _).trans (hb5.mono (by simp));have z4:=cLz hb5 (show(World.alloc wr (.cells #[.string ek,.int .i64 et,.int .i64 es1,.slice r1 r2 r3,.bool true] 63)).cell? ⟨wr.heap.size,4,none⟩=some (.bool true) by go_simp);have m5:=cLz hbx5 m1;have HV5:Hid (AM w5 wr.heap.size (.slice ad jn cap) JR):=World.ownsRow.mono ho5 (by simp))
      |(go_at_call 268;refine(KP1.out _).mono ?_;rintro e w6 ⟨rfl,rfl⟩)
      |(go_at_call 271;refine(DM HJR.out hT hnl6 hbx5 HV5.out).mono ?_;rintro e w8 ⟨rfl,t8,hj8,hk8⟩))
     go_roundw
     case rel=>exact⟨k+1,t8,_,by omega,by go_num,hj8,by show _=_;rw[List.map_append,HLC.out,HTK.out,HTE.out];rfl,by rw[lAp];show _+1<=_;omega,HKT.out.trans ((Bl hbx5).trans hk8)⟩
     case measure=>simp[intOf];omega
  ·have hkn:k=g2:=by omega
   subst hkn
   have hkf:¬((k:Int)<(k:Int)):=by omega
   have HLE:Hid (L'.map CO.chg=PS.flatMap (toldOf p v)):=by
    show _=_
    rw[HLC.out,<-HN.out,List.take_length]
   have hnl6:L'.length<=1000000:=by omega
   have KM:Hid (Calls Tryz.prog 272 #[.pointer (some ⟨b,0,none⟩),.int .i64 od,.slice g1 k g3] wr fun e w'=>e= .returned (.tuple #[])/\∃y',JSt w0 w' b T p x (Au s od (BC (PS.map (·.seq)) (Ae s od))) y' t' L'/\GY wr w'):=Ph b T p x s y t' L' od (g1,k,g3) es PS (w.heap.size+1) w0 wr HJR.out hT HG.out.2.1 HI.out HOR.out (by have:=HQ.out.1;omega) HQ.out.2
   have hko:¬((k:Int)<(k:Int)):=by omega
   by_cases hz:k=0
   ·have HPT2:Hid (PT=if c2=true then [⟨1,AH p sd v.row⟩]else []):=by
     show _=_
     have:PS=[]:=List.length_eq_zero_iff.1 (by rw[HN.out,hz])
     rw[HPT.out,this]
     simp
    have HEM:Hid ((!PS.isEmpty)=false):=by
     show _=_
     have:PS=[]:=List.length_eq_zero_iff.1 (by rw[HN.out,hz])
     rw[this];rfl
    have HL0:Hid (L'.map CO.chg=[]):=by
     show _=_
     have:PS=[]:=List.length_eq_zero_iff.1 (by rw[HN.out,hz])
     rw[HLE.out,this];rfl
    subst hz
    go_wp2_with (go_at_call 272;refine KM.out.mono ?_;rintro e X ⟨rfl,y',hj',hke⟩;have HJX:Hid (JSt w0 X b T p x (Au s od (BC (PS.map (·.seq)) (Ae s od))) y' t' L'):=hj';have n0:=hke.cell HQR.out (by decide) q0;have n2:=hke.cell HQR.out (by decide) q2;have nm:=HMD.out _ _ _ _ _ HJX.out;have HSS:Hid (∀w',Bwz X w'->w'.cell? ⟨b,1,none⟩=some (.int .i64 md)/\w'.cell? ⟨w.heap.size,0,none⟩=some (.int .i64 sd)):=fun w' hz=>⟨cLz hz nm,cLz hz n0⟩;have HKM:Hid (Bg T w X):=((Aq hb0).trans HKT.out.m).trans hke.m;clear hj' hke)
    refine gr.B8 13 rfl (by kernel_rfl) (S:=fun w'=>w'.cell? ⟨b,1,none⟩=some (.int .i64 md)/\w'.cell? ⟨w.heap.size,0,none⟩=some (.int .i64 sd)) (HSS.out _ bR.drew) (fun hHz=>?_)
    refine tkz 0 63 hHz ?_;refine tkz 1 64 hHz ?_;refine tkz 2 65 hHz ?_;refine tkz 3 66 hHz ?_;refine tkz 4 67 hHz ?_;refine tkz 5 68 hHz ?_;refine tkz 6 69 hHz ?_;refine tkz 7 70 hHz ?_;refine tkz 8 71 hHz ?_;refine tkz 9 72 hHz ?_;refine tkz 10 73 hHz ?_
    refine wpAnyH_ready (rs:=[11]) (by kernel_rfl) (by simp) ?_
    refine AllReadyH.cons rfl (fun K hK=>?_) AllReadyH.nil
    go_simp
    go_at_call 268
    refine(KP2.out _).mono ?_
    rintro e wk ⟨rfl,rfl⟩
    go_wp2_with fail
    refine hK.out _ _ hHz (fun hHz=>?_)
    clear hK K
    try simp only[Act.put,sI,sZ,sS]
    refine tkz 12 75 hHz ?_
    refine wpAnyH_done (by kernel_rfl) ?_ _
    cases c2 with
    |true=>
     have KAX:Hid (∀w1,Bwz X w1->Calls Tryz.prog 270 #[.pointer (some ⟨b,0,none⟩),.int .i64 sd,.slice ra rl rc] w1 fun e w'=>(∃ad cap,e= .returned (.slice ad (AH p sd v.row).length cap)/\AM w' w1.heap.size (.slice ad (AH p sd v.row).length cap) (AH p sd v.row))/\Bwz w1 w'):=fun w1 hb=>KA2.out w1 (Al HJX.out.box.plan hb) (HJX.out.bl.trans (hb.mono HJX.out.bl.size))
     obtain⟨AR,hAR⟩:=nM (AH p sd v.row)
     rw[hAR]at KAX HPT2
     obtain⟨an,han⟩:=nM AR.length
     rw[han]at KAX
     clear hAR han
     go_wp2_with (first
      |(go_at_call 270;refine(KAX.out _ bR.drew).mono ?_;rintro e w7 ⟨⟨ad2,cap2,rfl,ho7⟩,hb7⟩;have hb77:Bwz X w7:=bR.drew.trans hb7)
      |(go_at_call 271;refine(DM HJX.out hT hnl6 hb77 ho7).mono ?_;rintro e w8 ⟨rfl,t8,hj8,hk8⟩))
     go_ret
     exact⟨Aa HEM.out.symm,y',t8,_,hj8,by rw[List.map_append,HL0.out,HPT2.out];rfl,HKM.out.trans ((Aq hb77).trans hk8.m)⟩
    |false=>
     go_wp2
     go_ret
     exact⟨Aa HEM.out.symm,y',t',L',HJX.out.below bR.drew,by rw[HL0.out,HPT2.out];rfl,HKM.out.trans (Aq bR.drew)⟩
   ·have HPT2:Hid (PT=PS.flatMap (toldOf p v)):=by
     show _=_
     have:PS.isEmpty=false:=by
      cases hP:PS with
      |nil=>rw[hP]at HN;exact absurd HN.out.symm hz
      |cons a l=>rfl
     rw[HPT.out,this]
     simp
    have HEM:Hid ((!PS.isEmpty)=true):=by
     show _=_
     cases hP:PS with
     |nil=>rw[hP]at HN;exact absurd HN.out.symm hz
     |cons a l=>rfl
    have hz1:((k:Int)==0)=false:=by
     rw[beq_eq_false_iff_ne]
     omega
    have hz2:(0:Int)<(k:Int):=by omega
    go_wp2_with (go_at_call 272;refine KM.out.mono ?_;rintro e X ⟨rfl,y',hj',hke⟩;have HJX:Hid (JSt w0 X b T p x (Au s od (BC (PS.map (·.seq)) (Ae s od))) y' t' L'):=hj';have n0:=hke.cell HQR.out (by decide) q0;have n2:=hke.cell HQR.out (by decide) q2;have nm:=HMD.out _ _ _ _ _ HJX.out;have HSS:Hid (∀w',Bwz X w'->w'.cell? ⟨b,1,none⟩=some (.int .i64 md)/\w'.cell? ⟨w.heap.size,0,none⟩=some (.int .i64 sd)):=fun w' hz=>⟨cLz hz nm,cLz hz n0⟩;have HKM:Hid (Bg T w X):=((Aq hb0).trans HKT.out.m).trans hke.m;clear hj' hke)
    refine gr.B8 13 rfl (by kernel_rfl) (S:=fun w'=>w'.cell? ⟨b,1,none⟩=some (.int .i64 md)/\w'.cell? ⟨w.heap.size,0,none⟩=some (.int .i64 sd)) (HSS.out _ bR.drew) (fun hHz=>?_)
    refine tkz 0 63 hHz ?_;refine tkz 1 64 hHz ?_;refine tkz 2 65 hHz ?_;refine tkz 3 66 hHz ?_;refine sk 4 67 hHz ?_;refine sk 5 68 hHz ?_;refine sk 6 69 hHz ?_;refine sk 7 70 hHz ?_;refine sk 8 71 hHz ?_;refine sk 9 72 hHz ?_;refine sk 10 73 hHz ?_;refine sk 11 74 hHz ?_;refine tkz 12 75 hHz ?_
    refine wpAnyH_done (by kernel_rfl) ?_ _
    go_wp2
    go_ret
    exact⟨Aa (by rw[HEM.out];simp;omega),y',t',L',HJX.out.below bR.drew,by rw[HLE.out,HPT2.out],HKM.out.trans (Aq bR.drew)⟩
end jn
end Go.Proofs.YtdohnkkbkfhphaaGreat
