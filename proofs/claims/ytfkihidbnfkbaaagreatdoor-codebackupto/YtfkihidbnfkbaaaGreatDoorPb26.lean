import Derived.Test.YtfkihidbnfkbaaaGreatDoorPb24
import Derived.Deep.DeepCutAuto
set_option linter.all false
set_option maxHeartbeats 8000000
set_option maxRecDepth 100000
open Go.RowKit Go.ChangeShapes Go.WideShapes Go.ChangeAt List
open Inhabited renaming default->ϰ
namespace Go.Proofs.YtfkihidbnfkbaaaGreatDoor
open Go.Proofs.Tryz
namespace jn
open vl bf
variable {p : pl.Pln} {s : Jn} {qs : List Int} {y : Ent} {side : Int} {b : Buf} {r : List Cel} {v : Ev}
structure okJ(p:pl.Pln)(s:Jn):Prop where
 L:okB s.L
 R:okB s.R
 lm:Ei s.lm=true
 rm:Ei s.rm=true
 sq:0<=s.seq/\s.seq<=1099511627776
 ll:s.L.lim=p.limit
 rl:s.R.lim=p.limit
 below:∀y∈Ac s.L++Ac s.R,y.seq<s.seq
 once:((Ac s.L++Ac s.R).map (·.seq)).Nodup
 rowL:∀y∈Ac s.L,Hs p 1 y=true
 rowR:∀y∈Ac s.R,Hs p 2 y=true
theorem Dl(h:AQ p s=0):pl.Ag p=0/\okJ p s:=by
 unfold AQ at h;by_cases c:pl.Ag p=0
 ·rw[if_neg (by simp[c])]at h;by_cases d:FV s.L=0
  ·rw[if_neg (by simp[d])]at h;by_cases f:FV s.R=0
   ·rw[if_neg (by simp[f])]at h
    cases h4:E7 s with
    |false=>rw[h4]at h;simp at h
    |true=>
     rw[h4,if_neg ϟ]at h
     cases h5:Ht p s with
     |false=>rw[h5]at h;simp at h
     |true=>
      unfold E7 at h4;unfold Ht at h5;simp only[Bool.and_eq_true]at h4 h5;obtain⟨⟨u,z⟩,j⟩:=h4;obtain⟨⟨⟨⟨A,B⟩,a⟩,m⟩,q⟩:=h5;unfold MN EO at a;unfold L2 at m q;have a:=of_decide_eq_true a;unfold BG at j;exact⟨c,FU d,FU f,u,z,by simpa using j,of_decide_eq_true A,of_decide_eq_true B,a.1,a.2,all_eq_true.1 m,all_eq_true.1 q⟩
   ·rw[if_pos f]at h;exact absurd h f
  ·rw[if_pos d]at h;exact absurd h d
 ·rw[if_pos c]at h;exact absurd h c
theorem okJ.none(d:pl.Ag p=0)(h:okJ p s):AQ p s=0:=by
 have a:E7 s=true:=by
  unfold E7 BG;simp only[Bool.and_eq_true];exact⟨⟨h.lm,h.rm⟩,by simpa using h.sq⟩
 have c:Ht p s=true:=by
  unfold Ht MN EO L2;simp only[Bool.and_eq_true];exact⟨⟨⟨⟨decide_eq_true h.ll,decide_eq_true h.rl⟩,decide_eq_true ⟨h.below,h.once⟩⟩,all_eq_true.2 h.rowL⟩,all_eq_true.2 h.rowR⟩
 unfold AQ;rw[if_neg (by simp[d]),if_neg (by simp[Ez h.L]),if_neg (by simp[Ez h.R]),a,if_neg ϟ,c,if_neg ϟ]
theorem Zm(qs:List Int)(y:Ent):Bd (metE qs y)=Bd y:=by unfold metE;split<;>rfl
theorem Im(qs:List Int)(y:Ent):(metE qs y).seq=y.seq:=by unfold metE;split<;>rfl
theorem JB(qs:List Int)(y:Ent):(metE qs y).key=y.key:=by unfold metE;split<;>rfl
theorem M7(qs:List Int)(y:Ent):(metE qs y).time=y.time:=by unfold metE;split<;>rfl
theorem LL(qs:List Int)(y:Ent):(metE qs y).row=y.row:=by unfold metE;split<;>rfl
theorem Ad6(qs:List Int)(a b:Ent):ltP (metE qs a) (metE qs b)↔ltP a b:=by
 unfold ltP;rw[JB,JB,M7,M7,Im,Im]
theorem Zn(h:Eh y):Eh (metE qs y):=by
 unfold Eh at *;rw[JB,LL,M7,Im];exact h
theorem Zo(h:wfE y/\wfP (Bd y)):wfE (metE qs y)/\wfP (Bd (metE qs y)):=by
 rw[Zm];refine⟨⟨?_,?_,?_⟩,h.2⟩
 ·rw[JB];exact h.1.key
 ·rw[LL];exact h.1.row
 ·rw[LL];exact h.1.len
theorem QV(h:Hs p side y=true):Hs p side (metE qs y)=true:=by
 unfold Hs at *;rw[JB,LL];exact h
theorem Fj(qs:List Int)(b:Buf):Ac (CJ qs b)=(Ac b).map (metE qs):=by
 unfold Ac partsB CJ;simp[map_flatten]
theorem O0(qs:List Int)(h:okB b):okB (CJ qs b):=by
 refine T8 h.lim ?_ ?_ ?_ ?_ ?_ ?_
 ·show(((b.mem.map (metE qs)).length:Nat):Int)<=b.lim;rw[lMp];exact h.mem
 ·rw[Fj,lMp];exact h.all
 ·rw[Fj];intro y hy;obtain⟨z,q,rfl⟩:=mem_map.1 hy;exact Zn (h.entry q)
 ·intro l d;have f:∀m∈partsB b,MV (m.map (metE qs)):=λm c=>by
   have:=h.rises c;unfold MV at *;exact pairwise_map.2 (this.imp (λ{a b} k=>(Ad6 qs a b).2 k))
  rcases mem_cons.1 d with rfl|d
  ·exact f b.mem (mem_cons_self ..)
  ·obtain⟨m,c,rfl⟩:=mem_map.1 d;exact f m (mem_cons_of_mem _ c)
 ·intro r j;obtain⟨m,c,rfl⟩:=mem_map.1 j;rw[lMp];exact h.full m c
 ·rw[Fj,map_map];have:(Bd∘metE qs)=Bd:=funext (Zm qs);rw[this];exact h.once
theorem W9(b:Buf)(y:Ent):(Ac (CK b y)).Perm (y::Ac b):=Rx (BL _)
theorem Tj(h:okB b)(a:Eh y)(c:bf.hasB (Ac b) (Bd y)=false)(d:(Ac b).length≠4096):okB (CK b y):=WZ h a c d (BL _) (NL _)
theorem Zp(b:Buf)(y:Ent):(CK b y).lim=b.lim:=by unfold CK Hb;split<;>rfl
structure goodJ(p:pl.Pln)(s:Jn):Prop where
 ok:okJ p s
 wf:∀y∈Ac s.L++Ac s.R,wfE y/\wfP (Bd y)
theorem goodJ.of(h:goodJ p s)(side:Int):okB (Ak s side)/\(∀y∈Ac (Ak s side),wfE y/\wfP (Bd y)):=by
 unfold Ak;split
 ·exact⟨h.ok.R,λy hy=>h.wf y (mem_append.2 (.inr hy))⟩
 ·exact⟨h.ok.L,λy hy=>h.wf y (mem_append.2 (.inl hy))⟩
theorem Gc{s':Jn}(h:goodJ p s)(E:okB s'.L)(F:okB s'.R)(I:Ei s'.lm=true)(J:Ei s'.rm=true)(u:s'.seq=s.seq)(G:s'.L.lim=s.L.lim)(H:s'.R.lim=s.R.lim)
 (C D:Ent->Bool) (A B:List Int) (j:Ac s'.L=((Ac s.L).filter C).map (metE A)) (m:Ac s'.R=((Ac s.R).filter D).map (metE B)):goodJ p s':=by
 have c:∀y∈Ac s'.L,∃z∈Ac s.L,metE A z=y:=λy hy=>by
  rw[j]at hy;obtain⟨z,a,rfl⟩:=mem_map.1 hy;exact⟨z,(mem_filter.1 a).1,rfl⟩
 have d:∀y∈Ac s'.R,∃z∈Ac s.R,metE B z=y:=λy hy=>by
  rw[m]at hy;obtain⟨z,a,rfl⟩:=mem_map.1 hy;exact⟨z,(mem_filter.1 a).1,rfl⟩
 refine⟨⟨E,F,I,J,by rw[u];exact h.ok.sq,by rw[G];exact h.ok.ll,by rw[H];exact h.ok.rl,λy hy=>?_,?_,λy hy=>?_,λy hy=>?_⟩,λy hy=>?_⟩
 ·rw[u];rcases mem_append.1 hy with hy|hy
  ·obtain⟨z,a,rfl⟩:=c y hy;rw[Im];exact h.ok.below z (mem_append.2 (.inl a))
  ·obtain⟨z,a,rfl⟩:=d y hy;rw[Im];exact h.ok.below z (mem_append.2 (.inr a))
 ·have f:∀q,((·.seq)∘metE q:Ent->Int)=(·.seq):=λq=>funext (Im q);rw[j,m,map_append,map_map,map_map,f,f,<-map_append];exact h.ok.once.sublist ((filter_sublist.append filter_sublist).map _)
 ·obtain⟨z,a,rfl⟩:=c y hy;exact QV (h.ok.rowL z a)
 ·obtain⟨z,a,rfl⟩:=d y hy;exact QV (h.ok.rowR z a)
 ·rcases mem_append.1 hy with hy|hy
  ·obtain⟨z,a,rfl⟩:=c y hy;exact Zo (h.wf z (mem_append.2 (.inl a)))
  ·obtain⟨z,a,rfl⟩:=d y hy;exact Zo (h.wf z (mem_append.2 (.inr a)))
theorem UM(y:Ent):metE [] y=y:=by unfold metE;simp
theorem Fl(l:List Ent):(l.filter λ_=>true).map (metE [])=l:=by
 have:metE []=id:=funext UM;rw[this,map_id];simp
theorem UN(qs:List Int)(l:List Ent):(l.filter λ_=>true).map (metE qs)=l.map (metE qs):=by
 have:(l.filter λ_=>true)=l:=filter_eq_self.2 (λ_ _=>rfl);rw[this]
theorem K6(f:Ent->Bool)(l:List Ent):(l.filter f).map (metE [])=l.filter f:=by
 have:metE []=id:=funext UM;rw[this,map_id]
theorem JC(h:goodJ p s)(side:Int)(qs:List Int):goodJ p (A7 s side (CJ qs (Ak s side))):=by
 unfold A7 Ak;by_cases e:side=2
 ·rw[if_pos e,if_pos e];exact Gc h h.ok.L (O0 qs h.ok.R) h.ok.lm h.ok.rm rfl rfl rfl (λ_=>true) (λ_=>true) [] qs (Fl _).symm (by rw[UN];exact Fj qs _)
 ·rw[if_neg e,if_neg e];exact Gc h (O0 qs h.ok.L) h.ok.R h.ok.lm h.ok.rm rfl rfl rfl (λ_=>true) (λ_=>true) qs [] (by rw[UN];exact Fj qs _) (Fl _).symm
theorem UO(h:goodJ p s)(side a:Int)(d:tm.Br a=true):goodJ p (Ek s side a):=by
 have c:Ei a=true:=by unfold Ei;rw[d,Bool.or_true]
 unfold Ek;split
 ·exact Gc h h.ok.L h.ok.R h.ok.lm c rfl rfl rfl (λ_=>true) (λ_=>true) [] [] (Fl _).symm (Fl _).symm
 ·exact Gc h h.ok.L h.ok.R c h.ok.rm rfl rfl rfl (λ_=>true) (λ_=>true) [] [] (Fl _).symm (Fl _).symm
theorem K7(h:goodJ p s):goodJ p (FL p s):=
 Gc (s':=FL p s) h (Jh _ h.ok.L) (Jh _ h.ok.R) h.ok.lm h.ok.rm rfl rfl rfl (Ec (C8 p s 1)) (Ec (C8 p s 2)) [] [] (by rw[K6];exact Iu _ _) (by rw[K6];exact Iu _ _)
theorem Zq(h:goodJ p s):goodJ p (Ym s):=
 Gc (s':=Ym s) h h.ok.L (Jh _ h.ok.R) h.ok.lm h.ok.rm rfl rfl rfl (λ_=>true) _ [] [] (Fl _).symm (by rw[K6];exact Iu _ _)
theorem QW(h:goodJ p s):goodJ p (CC p s):=by
 unfold CC;split
 ·exact Zq (K7 h)
 ·exact K7 h
structure wfV(v:Ev):Prop where
 row:B9 v.row
 len:v.row.length<=χ
theorem Abx(h:pl.hasB p side r=true):pl.Bn p side r=0:=by
 unfold pl.hasB at h;simp only[Bool.and_eq_true]at h;exact of_decide_eq_true h.1
theorem QX{j c:Int}{met:Bool}(f:pl.hasB p side r=true)(A:B9 r)(z:tm.Br j=true)(u:0<=c/\c<=1099511627776):Eh ⟨pl.As p side r,j,c,r,met⟩/\(pl.As p side r).size<=1048:=by
 have h:=pl.Dk (Abx f);have q:=pl.keys_in (side:=side) h.1;have a:rowOk (pl.Er p side r):=pl.UE ϝ (by rw[h.2.2.1];exact q.1) h.2.2.2.1 A;have C:r.length<=8:=by
  rw[h.2.2.1];have:=pl.Fo (pl.Bf h.1).2.2.1;unfold pl.AD;split<;>omega
 have d:encR (pl.Er p side r)=(pl.As p side r).data.toList:=by unfold pl.As;rw[if_pos f]
 refine⟨⟨⟨_,a,d⟩,?_,z,u⟩,?_⟩
 ·show A5 r=0;unfold A5;rw[if_neg ϝ];exact h.2.2.2.1
 ·have B:=Q0 a;have m:=Jo a;have:(pl.As p side r).size=(EY (pl.Er p side r)).size:=by
   show(pl.As p side r).data.size=(EY (pl.Er p side r)).data.size;rw[<-Array.length_toList,<-Array.length_toList,<-d,m]
  omega
theorem O1{l:List Ent}{n:Int}{k:ByteArray}{t:Int}(h:∀y∈l,y.seq<n):bf.hasB l (k,t,n)=false:=by
 unfold bf.hasB;rw[any_eq_false];intro y hy e;have:=h y hy;have e:=of_decide_eq_true e;unfold Bd at e;injection e with _ e
 injection e with _ e
 omega
structure comeJ(p:pl.Pln)(s:Jn)(v:Ev):Prop where
 side:pl.Bm v.side=true
 time:tm.Br v.time=true
 err:pl.Bn p v.side v.row=0
 late:B8 s v.side<v.time
 sq:s.seq≠1099511627776
 few:(Ac (Ak s v.side)).length≠4096
theorem UP(h:A8 p s v=0)(j:v.kind≠2):comeJ p s v:=by
 unfold A8 at h;by_cases c:¬(v.kind=1\/v.kind=2)\/pl.Bm v.side=false
 ·rw[if_pos c]at h;cases h
 ·rw[if_neg c]at h;have m:pl.Bm v.side=true:=by
   cases e:pl.Bm v.side with
   |true=>rfl
   |false=>exact absurd (.inr e) c
  cases h2:tm.Br v.time with
  |false=>rw[h2]at h;simp at h
  |true=>
   rw[h2,if_neg ϟ,if_neg j]at h;by_cases a:pl.Bn p v.side v.row=0
   ·rw[if_neg (by simp[a])]at h;by_cases f:v.time<=B8 s v.side
    ·rw[if_pos f]at h;cases h
    ·rw[if_neg f]at h;by_cases d:s.seq=1099511627776\/(Ac (Ak s v.side)).length=4096
     ·rw[if_pos d]at h;cases h
     ·exact⟨m,h2,a,ϝ,λe=>d (.inl e),λe=>d (.inr e)⟩
   ·rw[if_pos a]at h;exact absurd h a
theorem UQ(h:A8 p s v=0)(f:v.kind=2):pl.Bm v.side=true/\tm.Br v.time=true/\v.row.length=0/\B8 s v.side<=v.time:=by
 unfold A8 at h;by_cases a:¬(v.kind=1\/v.kind=2)\/pl.Bm v.side=false
 ·rw[if_pos a]at h;cases h
 ·rw[if_neg a]at h;have j:pl.Bm v.side=true:=by
   cases e:pl.Bm v.side with
   |true=>rfl
   |false=>exact absurd (.inr e) a
  cases h2:tm.Br v.time with
  |false=>rw[h2]at h;simp at h
  |true=>
   rw[h2,if_neg ϟ,if_pos f]at h;by_cases c:0<v.row.length
   ·rw[if_pos c]at h;cases h
   ·rw[if_neg c]at h;by_cases d:v.time<B8 s v.side
    ·rw[if_pos d]at h;cases h
    ·exact⟨j,rfl,ϝ,ϝ⟩
theorem side_is(h:pl.Bm side=true):side=1\/side=2:=by unfold pl.Bm at h;simpa using h
theorem K8(h:goodJ p s)(j:comeJ p s v)(D:wfV v)(met:Bool):goodJ p (Ef p s v met):=by
 have B:0<=s.seq+1/\s.seq+1<=1099511627776:=by have:=h.ok.sq;have:=j.sq;omega
 unfold Ef;by_cases q:pl.hasB p v.side v.row=true/\C8 p s v.side<v.time
 ·rw[if_pos q];obtain⟨H,J⟩:=QX (met:=met) q.1 D.row j.time h.ok.sq;have F:wfE ⟨pl.As p v.side v.row,v.time,s.seq,v.row,met⟩/\wfP (Bd ⟨pl.As p v.side v.row,v.time,s.seq,v.row,met⟩):=by
   refine⟨⟨Nat.le_trans J Ϟ,D.row,D.len⟩,?_⟩;have C:=j.time;unfold tm.Br at C;have C:=of_decide_eq_true C;have:=h.ok.sq;exact⟨Nat.le_trans J Ϟ,⟨by show _<=v.time;omega,by show v.time<=_;omega⟩,⟨by show _<=s.seq;omega,by show s.seq<=_;omega⟩⟩
  have m:Hs p v.side ⟨pl.As p v.side v.row,v.time,s.seq,v.row,met⟩=true:=by
   unfold Hs;simp only[Bool.and_eq_true];exact⟨⟨decide_eq_true j.err,q.1⟩,ϟ⟩
  have M:bf.hasB (Ac (Ak s v.side)) (pl.As p v.side v.row,v.time,s.seq)=false:=O1 (λy hy=>h.ok.below y (by
   unfold Ak at hy;split at hy
   ·exact mem_append.2 (.inr hy)
   ·exact mem_append.2 (.inl hy)))
  have d:=Tj (h.of v.side).1 H M j.few;have a:=W9 (Ak s v.side) ⟨pl.As p v.side v.row,v.time,s.seq,v.row,met⟩;have c:=Zp (Ak s v.side) ⟨pl.As p v.side v.row,v.time,s.seq,v.row,met⟩;have I:s.seq ∉ (Ac s.L++Ac s.R).map (·.seq):=λK=>by
   obtain⟨y,hy,e⟩:=mem_map.1 K;have:=h.ok.below y hy;omega
  obtain⟨E,A⟩:∃z:Ent,⟨pl.As p v.side v.row,v.time,s.seq,v.row,met⟩=z:=⟨_,rfl⟩;have G:E.seq=s.seq:=by rw[<-A]
  rw[A]at H F m d a c⊢;clear A;unfold A7;rcases side_is j.side with e|e
  ·rw[if_neg ϝ];rw[e]at m d a c;rw[e];have u:Ak s 1=s.L:=by unfold Ak;rw[if_neg Ϟ]
   rw[u]at d a c⊢;have f:(Ac (CK s.L E)++Ac s.R).Perm (E::(Ac s.L++Ac s.R)):=by
    have:=a.append_right (Ac s.R);simpa using this
   refine⟨⟨d,h.ok.R,h.ok.lm,h.ok.rm,B,by rw[c];exact h.ok.ll,h.ok.rl,λy hy=>?_,?_,λy hy=>?_,h.ok.rowR⟩,λy hy=>?_⟩
   ·show y.seq<s.seq+1;rcases mem_cons.1 (f.mem_iff.1 hy)with rfl|hy
    ·omega
    ·have:=h.ok.below y hy;omega
   ·refine((f.map (·.seq)).nodup_iff).2 ?_;rw[map_cons,nodup_cons,G];exact⟨I,h.ok.once⟩
   ·rcases mem_cons.1 (a.mem_iff.1 hy)with rfl|hy
    ·exact m
    ·exact h.ok.rowL y hy
   ·rcases mem_cons.1 (f.mem_iff.1 hy)with rfl|hy
    ·exact F
    ·exact h.wf y hy
  ·rw[if_pos e];rw[e]at m d a c;rw[e];have u:Ak s 2=s.R:=by unfold Ak;rw[if_pos rfl]
   rw[u]at d a c⊢;have f:(Ac s.L++Ac (CK s.R E)).Perm (E::(Ac s.L++Ac s.R)):=by
    have:=a.append_left (Ac s.L);exact this.trans perm_middle
   refine⟨⟨h.ok.L,d,h.ok.lm,h.ok.rm,B,h.ok.ll,by rw[c];exact h.ok.rl,λy hy=>?_,?_,h.ok.rowL,λy hy=>?_⟩,λy hy=>?_⟩
   ·show y.seq<s.seq+1;rcases mem_cons.1 (f.mem_iff.1 hy)with rfl|hy
    ·omega
    ·have:=h.ok.below y hy;omega
   ·refine((f.map (·.seq)).nodup_iff).2 ?_;rw[map_cons,nodup_cons,G];exact⟨I,h.ok.once⟩
   ·rcases mem_cons.1 (a.mem_iff.1 hy)with rfl|hy
    ·exact m
    ·exact h.ok.rowR y hy
   ·rcases mem_cons.1 (f.mem_iff.1 hy)with rfl|hy
    ·exact F
    ·exact h.wf y hy
 ·rw[if_neg q];exact⟨⟨h.ok.L,h.ok.R,h.ok.lm,h.ok.rm,B,h.ok.ll,h.ok.rl,λy hy=>by have:=h.ok.below y hy;show y.seq<s.seq+1;omega,h.ok.once,h.ok.rowL,h.ok.rowR⟩,h.wf⟩
theorem JD(a:comeJ p s v)(side:Int)(qs:List Int):comeJ p (A7 s side (CJ qs (Ak s side))) v:=by
 refine⟨a.side,a.time,a.err,?_,?_,?_⟩
 ·have:=a.late;have e:B8 (A7 s side (CJ qs (Ak s side))) v.side=B8 s v.side:=by
   unfold A7;split<;>rfl
  rw[e];exact this
 ·have:=a.sq;unfold A7;split<;>exact this
 ·have:=a.few;unfold A7 Ak at *;by_cases c:side=2<;>by_cases d:v.side=2<;>simp only[c,d,if_true,if_false,Fj,lMp]at this⊢ <;>first|exact this|(rw[Fj,lMp];exact this)
theorem good_row(h:goodJ p s)(a:comeJ p s v)(c:wfV v):goodJ p (Hc p s v).1:=by
 unfold Hc;split
 ·split
  ·exact K8 h a c _
  ·have j:Ak s 1=s.L:=by unfold Ak;rw[if_neg Ϟ]
   have d:=JC h 1 ((Ee p s v).map (·.seq));have f:=JD a 1 ((Ee p s v).map (·.seq));rw[j]at d f;exact K8 d f c _
 ·exact K8 (JC h _ _) (JD a _ _) c _
theorem good_step(m:∀y∈Ac s.L++Ac s.R,wfE y/\wfP (Bd y))(j:wfV v)(a:(stepJ p s v).1=0):goodJ p (stepJ p s v).2.1:=by
 unfold stepJ at a⊢;by_cases d:AQ p s=0
 ·rw[if_neg (by simp[d])]at a⊢;have h:goodJ p s:=⟨(Dl d).2,m⟩;by_cases c:A8 p s v=0
  ·rw[if_neg (by simp[c])]at a⊢;by_cases f:v.kind=2
   ·rw[if_pos f];exact QW (UO h v.side v.time (UQ c f).2.1)
   ·rw[if_neg f];exact good_row h (UP c f) j
  ·rw[if_pos c]at a;exact absurd a c
 ·rw[if_pos d]at a;exact absurd a d
end jn
namespace jn
open vl bf
attribute [local go_sem] Oper.semAt_some
variable {T e : TypeId} {w w' w0 w1 w2 : ϙ} {b base g i k n o rc rn : Nat} {t v : Value} {L : List CO} {l : List Ent} {p : pl.Pln} {x : pl.PA} {s : Jn} {y : JX} {ra : Ϛ} {row : List Cel} {side : Int}
def BM(T:TypeId)(w w':World):Prop:=Below 0 w w'/\∀g e,Ai w g e->e≠T->e≠217->w'.heap[g]? =w.heap[g]?
theorem BM.refl(T:TypeId)(w:ϙ):BM T w w:=⟨bR,λ_ _ _ _ _=>rfl⟩
theorem BM.trans(h:BM T w w1)(k:BM T w1 w2):BM T w w2:=⟨h.1.trans k.1,λg e d a c=>(k.2 g e (A0 d (h.2 g e d a c)) a c).trans (h.2 g e d a c)⟩
theorem BA(h:Ϝ w w'):BM T w w':=⟨h.mono (Nat.zero_le _),λg e a _ _=>h.block g (A2 a)⟩
theorem M8(a:Sl w w' b t)(f:Ai w b T)(h:CG w base t L):BM T w w':=⟨a.1,λg e j c d=>Vh a f h c.symm d j⟩
theorem BM.cell(h:BM T w w')(j:Ai w g e)(c:e≠T)(d:e≠217)(f:Δ w g o v):Δ w' g o v:=(cOb (w:=w) (a:=⟨g,o,none⟩) (h.2 g e j c d)).trans f
theorem BM.ty(h:BM T w w')(a:Ai w g e)(c:e≠T)(d:e≠217):Ai w' g e:=A0 a (h.2 g e a c d)
theorem BM.oe{a:List EM}(h:BM T w w')(c:calmC T)(f:OE w base v a l):OE w' base v a l:=f.other h.1.size (λg d=>d.elim (λk=>h.2 g _ k c.t.e.symm Ϟ) (λk=>h.2 g _ k c.t.v.symm Ϟ))
def Bz(T:TypeId)(w w':World):Prop:=Below 0 w w'/\∀g e,Ai w g e->e≠T->e≠217->e≠166->w'.heap[g]? =w.heap[g]?
theorem Bz.trans(h:Bz T w w1)(k:Bz T w1 w2):Bz T w w2:=⟨h.1.trans k.1,λg e f a c d=>(k.2 g e (A0 f (h.2 g e f a c d)) a c d).trans (h.2 g e f a c d)⟩
theorem Aw(h:Ϝ w w'):Bz T w w':=⟨h.mono (Nat.zero_le _),λg e a _ _ _=>h.block g (A2 a)⟩
theorem BM.m(h:BM T w w'):Bz T w w':=⟨h.1,λg e d a c _=>h.2 g e d a c⟩
theorem Ki.m(h:Ki w w'):Bz T w w':=⟨h.1,λg e c _ _ a=>h.2 g e c a⟩
theorem Bz.cell(h:Bz T w w')(m:Ai w g e)(c:e≠T)(d:e≠217)(f:e≠166)(j:Δ w g o v):Δ w' g o v:=(cOb (w:=w) (a:=⟨g,o,none⟩) (h.2 g e m c d f)).trans j
theorem Fe(h:JSt w0 w b T p x s y t L)(c:calmC T)(u:L.length<=1000000)(f:Ϝ w w1)(z:AA w1 w (vS ra rn rc) row):
 η 357 #[μ b,vS ra rn rc] w1 λe w'=>e= .returned (.tuple #[])/\∃d,JSt w0 w' b T p x s y d (L++[⟨1,vS ra rn rc,row⟩])/\BM T w1 w':=
 have a:=h.below f
 (TU b p x s y t T ra rn rc row L w0.heap.size w w1 a.box a.ty c.c c.t.v h.cg f z u).mono (by
  rintro e w' ⟨rfl,d,m,q,j⟩;exact⟨rfl,d,a.told c m q j,M8 j a.ty a.cg⟩)
theorem P9{c:Ϛ}{f d:Nat}{m:List Cel}(h:JSt w0 w b T p x s y t L)(j:calmC T)(E:L.length<=1000000)(u:Ϝ w w1)(F:AA w1 w (vS c f d) m)(z:Ϝ w1 w2)(G:AA w2 w1 (vS ra rn rc) row):
 η 355 #[μ b,vS ra rn rc,vS c f d] w2 λe w'=>e= .returned (.tuple #[])/\∃q,JSt w0 w' b T p x s y q (L++[⟨3,vS ra rn rc,row⟩,⟨4,vS c f d,m⟩])/\BM T w2 w':=
 have B:=bT u z;have a:=h.below B
 (Aaf b p x s y t T ra c rn rc f d row m L w0.heap.size w2 a.box a.ty j.c j.t.v (h.cg.two2 u F z G) E).mono (by
  rintro e w' ⟨rfl,q,C,D,A⟩;exact⟨rfl,q,a.told j C D A,M8 A a.ty a.cg⟩)
def toldOf(p:pl.Pln)(v:Ev)(e:Ent):List ch.Chg:=if C6 p.mode (3 - v.side)=true/\e.met=false then [⟨3,AY p (3 - v.side) e.row⟩,⟨4,Ba v.side v.row e.row⟩]else [⟨1,Ba v.side v.row e.row⟩]
def pairT(p:pl.Pln)(v:Ev)(l:List Ent):List ch.Chg:=l.flatMap (toldOf p v)++if l.isEmpty=true/\C6 p.mode v.side=true then [⟨1,AY p v.side v.row⟩]else []
theorem QY(p:pl.Pln)(s:Jn)(v:Ev):Cv p s v=pairT p v (BU p s v (DO p v) (toJ p v)):=rfl
theorem IZ(h:pl.Bm side=true):pl.Bm (3 - side)=true/\3 - (3 - side)=side:=by
 rcases side_is h with rfl|rfl<;>exact⟨Ϟ,Ϟ⟩
theorem Da{α β:Type}(f:α->List β){l:List α}{d:α}(h:k<l.length):(l.take (k+1)).flatMap f=(l.take k).flatMap f++f (l.getD k d):=by
 rw[take_succ_eq_append_getElem h,flatMap_append,gDe,gEe h];simp
theorem Et{r:List Cel}(h:pl.Bn p side r=0):0<r.length/\r.length<=400:=by
 have a:=pl.Dk h;have c:=Aai a.1 side;rw[a.2.2.1];omega
theorem F5(h:goodJ p s)(f:pl.Bm side=true){y:Ent}(hy:y∈Ac (Ak s side)):pl.Bn p side y.row=0:=by
 have c:∀{d:Int},Hs p d y=true->pl.Bn p d y.row=0:=λa=>by
  unfold Hs at a;simp only[Bool.and_eq_true]at a;exact of_decide_eq_true a.1.1
 rcases side_is f with rfl|rfl
 ·exact c (h.ok.rowL y hy)
 ·exact c (h.ok.rowR y hy)
theorem QZ(b:Nat)(T:TypeId)(p:pl.Pln)(x:pl.PA)(s:Jn)(y:JX)(v:Ev)(ra:Ϛ)(rc:Nat)(fr B:Int)(w0 w:ϙ)(h:JSt w0 w b T p x s y (vS none 0 0) [])(hT:calmC T)(bh:T≠208)(hg:goodJ p s)(hs:pl.Bm v.side=true)(hv:vl.rowAt w0 ra v.row)(he:pl.Bn p v.side v.row=0):
 η 346 #[μ b,BE p v ra rc,vI fr,vI B] w λe w'=>e= .returned (.bool (!(BU p s v fr B).isEmpty))/\∃M J m,JSt w0 w' b T p x (A7 s (3 - v.side) (CJ ((BU p s v fr B).map (·.seq)) (Ak s (3 - v.side)))) M J m/\m.map CO.chg=pairT p v (BU p s v fr B)/\Bz T w w':=by
 have hp:=(pl.Dk he).1;have ho:=IZ hs;have aq:=Et he;have HJ:=hqz h;have HG:ϛ (goodJ p s/\okB (Ak s (3 - v.side))/\∀z∈Ac (Ak s (3 - v.side)),wfE z/\wfP (Bd z)):=⟨hg,hg.of _⟩;have KO:=hIz (λ(w1:ϙ)=>I6 v.side w1 hs);have b1:∀w1 s y t L,JSt w0 w1 b T p x s y t L->bufAt w1 (Ak s (3 - v.side)) (B7 y (3 - v.side)):=λw1 s y t L hj=>by
  unfold Ak B7;split
  ·exact hj.r.at
  ·exact hj.l.at
 have KW:ϛ (∀w1,Ϝ w w1->CT 352 #[μ b,BE p v ra rc,vI fr,vI B] w1 λe w'=>(∃hh Y,e= .returned (hdV hh)/\OE w' w1 (hdV hh) Y (BU p s v fr B))/\Ϝ w1 w'):=λw1 u=>H9 b p x s y _ v ra rc fr B w1 hs (HJ.o.below u).box (b1 _ _ _ _ _ (HJ.o.below u)) HG.o.2.1 HG.o.2.2;have KP:=hIz (λside (w1:ϙ)=>Ln p.mode side w1);have KJ:=hIz (λ(q:List Cel) (qa:Ϛ) (qc:Nat) (w1:ϙ) (h1:0<q.length) (h2:q.length<=400) (u:Ϝ w0 w1) (hq:vl.rowAt w1 qa q)=>Cy v.side ra qa rc qc v.row q w1 aq.1 h1 aq.2 h2 (vl.Ab hv u) hq);have KA:=hIz (λ(q:List Cel) (qa:Ϛ) (qc:Nat) (w1:ϙ) (h1:0<q.length) (h2:q.length<=400) (u:Bh w1 b p x) (hq:vl.rowAt w1 qa q)=>I3 b p x (3 - v.side) qa qc q w1 hp ho.1 u hq h1 h2);have bc:=hIz (λ(w1:ϙ) (u:Bh w1 b p x) (al:Ϝ w0 w1)=>I3 b p x v.side ra rc v.row w1 hp hs u (vl.Ab hv al) aq.1 aq.2);have bo:ϛ (∀k,k<(BU p s v fr B).length->(0<((BU p s v fr B).getD k ϰ).row.length/\((BU p s v fr B).getD k ϰ).row.length<=400)):=λk hk=>Et (F5 hg ho.1 (Kk (Bj hk)));have HQ:ϛ ((BU p s v fr B).length<=4096/\∀z∈BU p s v fr B,pl.i64 z.seq):=⟨Kj HG.o.2.1,λz f=>(HG.o.2.2 z (Kk f)).2.seq⟩;have HI:ϛ (∀z∈Ac (Ak s (3 - v.side)),pl.i64 z.seq):=λz f=>(HG.o.2.2 z f).2.seq;have a0:ϛ (∀e,toldOf p v e=if C6 p.mode (3 - v.side)=true/\e.met=false then [⟨3,AY p (3 - v.side) e.row⟩,⟨4,Ba v.side v.row e.row⟩]else [⟨1,Ba v.side v.row e.row⟩]):=λe=>rfl;have ac:ϛ (pairT p v (BU p s v fr B)=(BU p s v fr B).flatMap (toldOf p v)++if (BU p s v fr B).isEmpty=true/\C6 p.mode v.side=true then [⟨1,AY p v.side v.row⟩]else []):=rfl;have cd:=h.bl;obtain⟨d,bv⟩:=nM (BU p s v fr B);rw[bv]at KW bo HQ ac⊢;obtain⟨PT,bw⟩:=nM (pairT p v d);rw[bw]at ac⊢;unfold BE at KW⊢;obtain⟨kb,h1⟩:=nM (pl.As p v.side v.row);obtain⟨kh,h2⟩:=nM (pl.hasB p v.side v.row);obtain⟨rl,a7⟩:=nM v.row.length;have cc:=hqz a7;rw[h1,h2,a7]at KW⊢;rw[a7]at KJ bc
 obtain⟨A,bm⟩:=nM (3 - v.side);have cb:=hqz bm;rw[bm]at KO KA HI HG a0⊢;obtain⟨j,b2⟩:=nM v.side;obtain⟨md,a6⟩:=nM p.mode;have a8:ϛ (∀w1 s y t L,JSt w0 w1 b T p x s y t L->Δ w1 b 1 (vI md)):=λw1 s y t L hj=>by rw[<-a6];exact hj.box.plan.2.1
 obtain⟨c1,bi⟩:=nM (C6 p.mode A);obtain⟨c2,bj⟩:=nM (C6 p.mode v.side);have bg:ϛ (∀w1,CT 354 #[vI md,vI A] w1 λe w'=>e= .returned (.bool c1)/\w'=w1):=λw1=>by rw[<-bi,<-a6];exact KP.o A w1
 have bs:ϛ (∀w1,CT 354 #[vI md,vI v.side] w1 λe w'=>e= .returned (.bool c2)/\w'=w1):=λw1=>by rw[<-bj,<-a6];exact KP.o v.side w1
 rw[bi]at a0;rw[bj]at ac;rw[b2]at KO KJ bc KW bs a0 ac⊢;obtain⟨b4,b3⟩:=nM v.time;rw[b3]at KW⊢;clear h hg hs hv he hp ho aq bv h1 h2 a7 bm a6 bi bj b2 b3 b1 KP bw;obtain⟨n,hn⟩:=nM d.length;have H:=hqz hn;have cj:n<=4096:=by rw[<-hn];exact HQ.o.1
 clear hn;go_enter func346,ntmps346;go_wp2_with (first
  |(go_at_call 348;refine(KO.o _).mono ?_;rintro e w2 ⟨rfl,rfl⟩)
  |(go_at_call 352;refine(KW.o _ Ϩ).mono ?_;rintro e V ⟨⟨hh,Y,rfl,ho⟩,a3⟩;have q0:=cLz a3 (show Δ (ξ w #[vI j,vI b4,vS ra rl rc,.string kb,.bool kh] 208) w 0 (vI j) by go_simp);have q2:=cLz a3 (show Δ (ξ w #[vI j,vI b4,vS ra rl rc,.string kb,.bool kh] 208) w 2 (vS ra rl rc) by go_simp);have ba:ϛ (Ai V w.heap.size 208):=Ad ⟨_,_,World.alloc_heap_new w _⟩ a3;have al:Ϝ w V:=Ϩ.trans (a3.mono ϟ);have a9:ϛ (OE V (w.heap.size+1) (hdV hh) Y d):=(by have:=ho;rw[World.size_alloc]at this;exact this);clear ho;have aw:ϛ (hh.2.1=n):=(by show _=_;rw[<-H.o,<-a9.o.len];exact(C9 (p:=(hh,Y)) a9.o).1.1);obtain⟨g1,Z,g3⟩:=hh;have b9:Z=n:=aw.o;subst b9;unfold hdV;dsimp only))
 go_loopw [24] (λi wr=> ∃(k:Nat) (J:Value) (m:List CO),k<=Z/\i=vI k/\ϛ (JSt w0 wr b T p x s y J m)/\ϛ (m.map CO.chg=(d.take k).flatMap (toldOf p v))/\m.length<=2 * k/\ϛ (BM T V wr)) (λi _=>Z - (intOf i).toNat)
 case atStart=>exact⟨0,_,[],Nat.zero_le _,rfl,HJ.o.below al,rfl,Nat.le_refl _,BM.refl _ _⟩
 case round=>
  obtain⟨k,J,m,hk,rfl,N,av,ci,P⟩:=hrel;have q0:=P.o.cell ba.o bh.symm Ϟ q0;have q2:=P.o.cell ba.o bh.symm Ϟ q2;have ay:ϛ (Ai wr w 208):=P.o.ty ba.o bh.symm Ϟ;have ax:ϛ (OE wr (w.heap.size+1) (hdV (g1,Z,g3)) Y d):=P.o.oe hT a9.o;have m1:=a8.o _ _ _ _ _ N.o;have lq:w.heap.size<wr.heap.size:=bLt _ _ q0;have lb:b<wr.heap.size:=N.o.box.lt;by_cases ca:k<Z
  ·have a5:k<d.length:=by rw[H.o];exact ca
   obtain⟨gb,cm,ea,x1,x2,x3,x4,x5⟩:=(C9 (p:=((g1,Z,g3),Y)) ax.o).2 k (by rw[ax.o.len];exact a5);dsimp only at ea;subst ea;have ae:=ax.o.ers.2 k a5;have af:=bo.o k a5;have az:ϛ ((d.take (k+1)).flatMap (toldOf p v)=(d.take k).flatMap (toldOf p v)++toldOf p v (d.getD k ϰ)):=Da (toldOf p v) a5;have G:=a0.o (d.getD k ϰ);obtain⟨E,hE⟩:=nM (d.getD k ϰ);rw[hE]at ae af az G;obtain⟨⟨ek,et,a1,⟨I,r2,U⟩,em⟩,f⟩:∃z,Y.getD k ϰ=z:=⟨_,rfl⟩;rw[f]at x1 x2 x3 x4 x5 ae;unfold hdV at x4;dsimp only at x1 x2 x3 x4 x5;have bz:em=E.met:=ae.met;have bn:r2=E.row.length:=ae.len;have bq:ϛ (vl.rowAt wr I E.row):=ae.row;have ai:ϛ (∀w1,Ϝ wr w1->CT 353 (ν j ra rl rc I r2 U) w1 λe w'=>(∃C D,e= .returned (vS C (Ba j v.row E.row).length D)/\AA w' w1 (vS C (Ba j v.row E.row).length D) (Ba j v.row E.row))/\Ϝ w1 w'):=λw1 u=>by rw[bn];exact KJ.o E.row I U w1 af.1 af.2 (N.o.bl.trans (u.mono N.o.bl.size)) (vl.Ab bq.o u)
   have be:ϛ (∀w1,Ϝ wr w1->CT 356 #[μ b,vI A,vS I r2 U] w1 λe w'=>(∃C D,e= .returned (vS C (AY p A E.row).length D)/\AA w' w1 (vS C (AY p A E.row).length D) (AY p A E.row))/\Ϝ w1 w'):=λw1 u=>by rw[bn];exact KA.o E.row I U w1 af.1 af.2 (Ah N.o.box.plan u) (vl.Ab bq.o u)
   obtain⟨W,bu⟩:=nM (Ba j v.row E.row);obtain⟨AR,aj⟩:=nM (AY p A E.row);rw[bu]at ai G;rw[aj]at be G;obtain⟨jn,b0⟩:=nM W.length;obtain⟨an,ak⟩:=nM AR.length;rw[b0]at ai;rw[ak]at be;rw[<-bz]at G;have i1:(0:Int)<=(k:Int):=ϝ;have i2:(k:Int)<(Z:Int):=ϝ;have br:ϛ (toldOf p v E=if c1=true/\em=false then [⟨3,AR⟩,⟨4,W⟩]else [⟨1,W⟩]):=G;clear ae af hE f bz bn bu aj b0 ak G;have ao:m.length<=1000000:=ϝ;by_cases a4:c1=true/\em=false
   ·obtain⟨e1,e2⟩:=a4;have G:ϛ (toldOf p v E=[⟨3,AR⟩,⟨4,W⟩]):=by show _=_;rw[br.o,if_pos ⟨e1,e2⟩]
    subst e1 e2;go_wp2_with (first
     |(go_at_call 353;refine(ai.o _ Ϩ).mono ?_;rintro e w5 ⟨⟨C,D,rfl,ap⟩,Q⟩;have F:Ϝ wr w5:=Ϩ.trans (Q.mono ϟ);have z3:=cLz Q (show Δ (ξ wr (ζ ek et a1 I r2 U false) 166) wr 3 (vS I r2 U) by go_simp);have z4:=cLz Q (show Δ (ξ wr (ζ ek et a1 I r2 U false) 166) wr 4 (.bool false) by go_simp);have m5:=cLz F m1;have ah:ϛ (AA w5 wr.heap.size (vS C jn D) W):=World.ownsRow.mono ap ϟ)
     |(go_at_call 354;refine(bg.o _).mono ?_;rintro e w6 ⟨rfl,rfl⟩)
     |(go_at_call 356;refine(be.o _ F).mono ?_;rintro e w7 ⟨⟨b5,b6,rfl,bk⟩,a2⟩)
     |(go_at_call 355;refine(P9 N.o hT ao F ah.o a2 bk).mono ?_;rintro e w8 ⟨rfl,t8,aa,ab⟩))
    go_roundw
    case rel=>exact⟨k+1,t8,_,ϝ,by go_num,aa,by show _=_;rw[map_append,av.o,az.o,G.o];rfl,by rw[lAp];show _+2<=_;omega,P.o.trans ((BA (bT F a2)).trans ab)⟩
    case measure=>simp[intOf];omega
   ·have G:ϛ (toldOf p v E=[⟨1,W⟩]):=by show _=_;rw[br.o,if_neg a4]
    have b7:c1=false\/(c1=true/\em=true):=by
     cases c1<;>cases em<;>simp at a4⊢
    clear a4;rcases b7 with e1|⟨e1,e2⟩
    ·subst e1;go_wp2_with (first
      |(go_at_call 353;refine(ai.o _ Ϩ).mono ?_;rintro e w5 ⟨⟨C,D,rfl,ap⟩,Q⟩;have F:Ϝ wr w5:=Ϩ.trans (Q.mono ϟ);have z4:=cLz Q (show Δ (ξ wr (ζ ek et a1 I r2 U em) 166) wr 4 (.bool em) by go_simp);have m5:=cLz F m1;have ah:ϛ (AA w5 wr.heap.size (vS C jn D) W):=World.ownsRow.mono ap ϟ)
      |(go_at_call 354;refine(bg.o _).mono ?_;rintro e w6 ⟨rfl,rfl⟩)
      |(go_at_call 357;refine(Fe N.o hT ao F ah.o).mono ?_;rintro e w8 ⟨rfl,t8,aa,ab⟩))
     go_roundw
     case rel=>exact⟨k+1,t8,_,ϝ,by go_num,aa,by show _=_;rw[map_append,av.o,az.o,G.o];rfl,by rw[lAp];show _+1<=_;omega,P.o.trans ((BA F).trans ab)⟩
     case measure=>simp[intOf];omega
    ·subst e1 e2;go_wp2_with (first
      |(go_at_call 353;refine(ai.o _ Ϩ).mono ?_;rintro e w5 ⟨⟨C,D,rfl,ap⟩,Q⟩;have F:Ϝ wr w5:=Ϩ.trans (Q.mono ϟ);have z4:=cLz Q (show Δ (ξ wr (ζ ek et a1 I r2 U true) 166) wr 4 (.bool true) by go_simp);have m5:=cLz F m1;have ah:ϛ (AA w5 wr.heap.size (vS C jn D) W):=World.ownsRow.mono ap ϟ)
      |(go_at_call 354;refine(bg.o _).mono ?_;rintro e w6 ⟨rfl,rfl⟩)
      |(go_at_call 357;refine(Fe N.o hT ao F ah.o).mono ?_;rintro e w8 ⟨rfl,t8,aa,ab⟩))
     go_roundw
     case rel=>exact⟨k+1,t8,_,ϝ,by go_num,aa,by show _=_;rw[map_append,av.o,az.o,G.o];rfl,by rw[lAp];show _+1<=_;omega,P.o.trans ((BA F).trans ab)⟩
     case measure=>simp[intOf];omega
  ·have b8:k=Z:=ϝ;subst b8;have cf:¬((k:Int)<(k:Int)):=ϝ;have aw:ϛ (m.map CO.chg=d.flatMap (toldOf p v)):=by
    show _=_;rw[av.o,<-H.o,take_length]
   have ao:m.length<=1000000:=ϝ;have KM:ϛ (CT 358 #[μ b,vI A,vS g1 k g3] wr λe w'=>e= .returned (.tuple #[])/\∃M,JSt w0 w' b T p x (A7 s A (CJ (d.map (·.seq)) (Ak s A))) M J m/\Ki wr w'):=TP b T p x s y J m A (g1,k,g3) Y d (w.heap.size+1) w0 wr N.o hT HG.o.2.1 HI.o ax.o (by have:=HQ.o.1;omega) HQ.o.2;have cg:¬((k:Int)<(k:Int)):=ϝ;by_cases f:k=0
   ·have ag:ϛ (PT=if c2=true then [⟨1,AY p j v.row⟩]else []):=by
     show _=_;have:d=[]:=length_eq_zero_iff.1 (by rw[H.o,f]);rw[ac.o,this];simp
    have ar:ϛ ((!d.isEmpty)=false):=by
     show _=_;have:d=[]:=length_eq_zero_iff.1 (by rw[H.o,f]);rw[this];rfl
    have bp:ϛ (m.map CO.chg=[]):=by
     show _=_;have:d=[]:=length_eq_zero_iff.1 (by rw[H.o,f]);rw[aw.o,this];rfl
    subst f;go_wp2_with (go_at_call 358;refine KM.o.mono ?_;rintro e X ⟨rfl,M,am,R⟩;have O:ϛ (JSt w0 X b T p x (A7 s A (CJ (d.map (·.seq)) (Ak s A))) M J m):=am;have n0:=R.cell ay.o Ϟ q0;have n2:=R.cell ay.o Ϟ q2;have nm:=a8.o _ _ _ _ _ O.o;have bb:ϛ (∀w',Ϝ X w'->Δ w' b 1 (vI md)/\Δ w' w 0 (vI j)):=λw' f=>⟨cLz f nm,cLz f n0⟩;have au:ϛ (Bz T w X):=((Aw al).trans P.o.m).trans R.m;clear am R);refine gr.Ds 13 rfl Ϡ (S:=λw'=>Δ w' b 1 (vI md)/\Δ w' w 0 (vI j)) (bb.o _ bR.drew) (λc=>?_);refine tkz 0 63 c ?_;refine tkz 1 64 c ?_;refine tkz 2 65 c ?_;refine tkz 3 66 c ?_;refine tkz 4 67 c ?_;refine tkz 5 68 c ?_;refine tkz 6 69 c ?_;refine tkz 7 70 c ?_;refine tkz 8 71 c ?_;refine tkz 9 72 c ?_;refine tkz 10 73 c ?_;refine rD 11 λK hK=>?_;go_simp;go_at_call 354;refine(bs.o _).mono ?_;rintro e wk ⟨rfl,rfl⟩;go_wp2_with fail;refine hK.out _ _ c (λc=>?_);clear hK K
    try simp only[Act.put,sI,sZ,sS]
    refine tkz 12 75 c ?_;refine wpAnyH_done Ϡ ?_ _
    cases c2 with
    |true=>
     have bd:ϛ (∀w1,Ϝ X w1->CT 356 #[μ b,vI j,vS ra rl rc] w1 λe w'=>(∃C D,e= .returned (vS C (AY p j v.row).length D)/\AA w' w1 (vS C (AY p j v.row).length D) (AY p j v.row))/\Ϝ w1 w'):=λw1 u=>bc.o w1 (Ah O.o.box.plan u) (O.o.bl.trans (u.mono O.o.bl.size));obtain⟨AR,aj⟩:=nM (AY p j v.row);rw[aj]at bd ag;obtain⟨an,ak⟩:=nM AR.length;rw[ak]at bd;clear aj ak;go_wp2_with (first
      |(go_at_call 356;refine(bd.o _ bR.drew).mono ?_;rintro e w7 ⟨⟨b5,b6,rfl,bk⟩,a2⟩;have bx:Ϝ X w7:=bR.drew.trans a2)
      |(go_at_call 357;refine(Fe O.o hT ao bx bk).mono ?_;rintro e w8 ⟨rfl,t8,aa,ab⟩))
     go_ret;exact⟨Aa ar.o.symm,M,t8,_,aa,by rw[map_append,bp.o,ag.o];rfl,au.o.trans ((Aw bx).trans ab.m)⟩
    |false=>
     go_wp2;go_ret;exact⟨Aa ar.o.symm,M,J,m,O.o.below bR.drew,by rw[bp.o,ag.o];rfl,au.o.trans (Aw bR.drew)⟩
   ·have ag:ϛ (PT=d.flatMap (toldOf p v)):=by
     show _=_;have:d.isEmpty=false:=by
      cases hP:d with
      |nil=>rw[hP]at H;exact absurd H.o.symm f
      |cons a l=>rfl
     rw[ac.o,this];simp
    have ar:ϛ ((!d.isEmpty)=true):=by
     show _=_
     cases hP:d with
     |nil=>rw[hP]at H;exact absurd H.o.symm f
     |cons a l=>rfl
    have ck:((k:Int)==0)=false:=by
     rw[beq_eq_false_iff_ne];omega
    have cl:(0:Int)<(k:Int):=ϝ;go_wp2_with (go_at_call 358;refine KM.o.mono ?_;rintro e X ⟨rfl,M,am,R⟩;have O:ϛ (JSt w0 X b T p x (A7 s A (CJ (d.map (·.seq)) (Ak s A))) M J m):=am;have n0:=R.cell ay.o Ϟ q0;have n2:=R.cell ay.o Ϟ q2;have nm:=a8.o _ _ _ _ _ O.o;have bb:ϛ (∀w',Ϝ X w'->Δ w' b 1 (vI md)/\Δ w' w 0 (vI j)):=λw' f=>⟨cLz f nm,cLz f n0⟩;have au:ϛ (Bz T w X):=((Aw al).trans P.o.m).trans R.m;clear am R);refine gr.Ds 13 rfl Ϡ (S:=λw'=>Δ w' b 1 (vI md)/\Δ w' w 0 (vI j)) (bb.o _ bR.drew) (λc=>?_);refine tkz 0 63 c ?_;refine tkz 1 64 c ?_;refine tkz 2 65 c ?_;refine tkz 3 66 c ?_;refine sk 4 67 c ?_;refine sk 5 68 c ?_;refine sk 6 69 c ?_;refine sk 7 70 c ?_;refine sk 8 71 c ?_;refine sk 9 72 c ?_;refine sk 10 73 c ?_;refine sk 11 74 c ?_;refine tkz 12 75 c ?_;refine wpAnyH_done Ϡ ?_ _;go_wp2;go_ret;exact⟨Aa (by rw[ar.o];simp;omega),M,J,m,O.o.below bR.drew,by rw[aw.o,ag.o],au.o.trans (Aw bR.drew)⟩
theorem Tk(f:FuncId)(Q:∀F w,(callFunc f F).run Tryz.prog w= .ok (.enter f F) w)(u:Array Value)(P:Nat->Bool)(n:Nat)(w:ϙ)(U:n<4611686018427387904)
 (H:∀i w1,i<n->Ϝ w w1->Calls Tryz.prog f (#[vI (i:Nat)]++u) w1 (θ w1 (.bool (P i)))) (G:∀a b,a<=b->b<n->P a=true->P b=true):
 η 391 #[vI n,.func (.func f) #[] u] w λe w'=>(∃k:Nat,k<=n/\e= .returned (vI k)/\(∀t,t<k->P t=false)/\(∀t,k<=t->t<n->P t=true))/\Ϝ w w':=by
 have J:ϛ (∀i w1,i<n->Ϝ w w1->CT f (#[vI (i:Nat)]++u) w1 (θ w1 (.bool (P i)))):=H;have M:=hqz G;clear H G;go_enter func391,ntmps391;go_wp2
 go_loopw [5,6] (λD C wr=> ∃d c:Nat,D=vI d/\C=vI c/\d<=c/\c<=n/\Ϝ w wr/\ϛ ((∀t,t<d->P t=false)/\(∀t,c<=t->t<n->P t=true))) (λD C _=>(intOf C).toNat - (intOf D).toNat)
 case atStart=>exact⟨0,n,rfl,rfl,Nat.zero_le _,Nat.le_refl _,bR,(⟨λt j=>absurd j (Nat.not_lt_zero _),λt R S=>by omega⟩:(∀t,t<0->P t=false)/\(∀t,n<=t->t<n->P t=true))⟩
 case round=>
  obtain⟨d,c,rfl,rfl,V,N,h,I⟩:=hrel;by_cases W:d<c
  ·have q:ϛ (∀w1,Ϝ wr w1->_):=λw1 K=>J.o ((d+c)/2) w1 ϝ (bT h K);obtain⟨B,z⟩:=nM (P ((d+c)/2));rw[z]at q;have E:=hqz z;clear z
   cases B with
   |false=>
    go_wp2_with (go_at_fn f;refine(q.o _ bR).mono ?_;rintro e w' ⟨rfl,A⟩);go_roundw
    case rel=>
     have m:ϛ ((∀t,t<(d+c)/2+1->P t=false)/\(∀t,c<=t->t<n->P t=true)):=⟨λt j=>by
      cases e:P t with
      |false=>rfl
      |true=>
       have:=M.o t ((d+c)/2) ϝ ϝ e;rw[E.o]at this;exact absurd this Ϟ,I.o.2⟩
     exact⟨(d+c)/2+1,c,by rw[show((d:Int)+(c:Int))/2+1=(((d+c)/2+1:Nat):Int) by omega],rfl,ϝ,N,bT h A,m⟩
    case measure=>simp[intOf];omega
   |true=>
    go_wp2_with (go_at_fn f;refine(q.o _ bR).mono ?_;rintro e w' ⟨rfl,A⟩);go_roundw
    case rel=>
     have m:ϛ ((∀t,t<d->P t=false)/\(∀t,(d+c)/2<=t->t<n->P t=true)):=⟨I.o.1,λt j O=>M.o ((d+c)/2) t j O E.o⟩;exact⟨d,(d+c)/2,rfl,by rw[show((d:Int)+(c:Int))/2=(((d+c)/2:Nat):Int) by omega],ϝ,ϝ,bT h A,m⟩
    case measure=>simp[intOf];omega
  ·obtain rfl:c=d:=ϝ;go_wp2;go_ret;exact⟨⟨c,ϝ,rfl,I.o.1,I.o.2⟩,h⟩
def PC(l:List Ent):Prop:=∀i j,i<=j->j<l.length->(l.getD i ϰ).time<=(l.getD j ϰ).time
theorem Ra{t:Int}(j:k<=l.length)(f:∀i,i<k->decide ((l.getD i ϰ).time>t)=false)(h:∀i,k<=i->i<l.length->decide ((l.getD i ϰ).time>t)=true):l.take k=l.filter λy=>decide (y.time<=t):=by
 have e:l=l.take k++l.drop k:=(take_append_drop k l).symm
 conv=>rhs;rw[e]
 rw[filter_append];have c:(l.take k).filter (λy=>decide (y.time<=t))=l.take k:=filter_eq_self.2 (λy hy=>by
  obtain⟨i,a,rfl⟩:=getElem_of_mem hy;rw[length_take]at a;have:=of_decide_eq_false (f i ϝ);rw[getD_at ϝ]at this;rw[getElem_take];exact decide_eq_true ϝ)
 have d:(l.drop k).filter (λy=>decide (y.time<=t))=[]:=filter_eq_nil_iff.2 (λy hy=>by
  obtain⟨i,a,rfl⟩:=getElem_of_mem hy;rw[length_drop]at a;have:=of_decide_eq_true (h (k+i) ϝ ϝ);rw[getD_at ϝ]at this;rw[getElem_drop];simp;omega)
 rw[c,d,append_nil]
theorem Aby{s c:Nat}{a:Ϛ}{m:List Value}(h:w.ownsRow base e s (vS a n c) n m):n<=c:=by
 rcases h.2 with⟨d,z⟩|⟨g,q,u,d,j⟩
 ·omega
 ·injection d with _ _ f
  subst f;exact j.2.2.1
theorem WA(i:Nat)(a:Ϛ)(n c:Nat)(j:List EM)(l:List Ent)(t:Int)(A C:Nat)(w:ϙ)(h:i<l.length)(F:n=l.length)(u:Cm w a j)(f:ERs w j l)(M:Δ w A 0 (vS a n c))(N:Δ w C 0 (vI t)):
 η 392 #[vI (i:Nat),μ A,μ C] w (θ w (.bool (decide ((l.getD i ϰ).time>t)))):=by
 obtain⟨m,z,E,H,D,I,J,K⟩:=u i (by rw[f.1];exact h);subst E;rw[(f.2 i h).time]at D;obtain⟨T,q⟩:=nM ((l.getD i ϰ).time);rw[q]at D⊢;obtain⟨B,d⟩:=nM (decide (T>t));have O:∀G,binOp .gtr G (vI T) (vI t)=pure (.bool B):=pl.GG B d;rw[d];have P:(0:Int)<=(i:Int):=ϝ;have Q:(i:Int)<(n:Int):=ϝ;clear H I J K u f q d F h;go_enter func392,ntmps392;go_wp2
 go_region_held3 (λw'=>Δ w' A 0 (vS (some ⟨m,z,none⟩) n c)/\Δ w' C 0 (vI t)/\Δ w' m (z+i * 5+1) (vI T)) (first|go_keep) (fail)
 all_goals
  go_wp2;go_ret;exact⟨rfl,bR.drew⟩
theorem Zr(a:Ϛ)(n c:Nat)(d:List EM)(l:List Ent)(t:Int)(base:Nat)(w:ϙ)(q:OE w base (vS a n c) d l)(G:n=l.length)(hs:n<=4096)(H:PC l):
 η 390 #[vS a n c,vI t] w λe w'=>(∃k:Nat,k<=n/\e= .returned (vS a k c)/\l.take k=l.filter λy=>decide (y.time<=t))/\Ϝ w w':=by
 have z:=C9 (p:=((a,n,c),d)) q;have Z:n<=c:=by
  have:=q.own;have U:d.length=n:=z.1.1.symm;rw[U]at this;exact Aby this
 have J:ϛ (∀(A C:Nat) w1,Ϝ w w1->Δ w1 A 0 (vS a n c)->Δ w1 C 0 (vI t)->CT 391 #[vI n,.func (.func 392) #[] #[μ A,μ C]] w1 λe w'=>(∃k:Nat,k<=n/\e= .returned (vI k)/\l.take k=l.filter λy=>decide (y.time<=t))/\Ϝ w1 w'):=λA C w1 D P Q=>by
  refine(Tk 392 (enters_of func392 Ϡ rfl) #[μ A,μ C] (λi=>decide ((l.getD i ϰ).time>t)) n w1 ϝ (λi w2 hi m=>WA i a n c d l t A C w2 ϝ G (Cr (Cr z.2 D) m) ((q.ers.below D).below m) (cLz m P) (cLz m Q)) (λi j W hj h=>?_)).mono ?_
  ·have h:=of_decide_eq_true h;have:=H i j W ϝ;exact decide_eq_true ϝ
  ·rintro e w' ⟨⟨k,u,rfl,M,N⟩,R⟩;exact⟨⟨k,u,rfl,Ra ϝ M (λi O Y=>N i O ϝ)⟩,R⟩
 clear q H z G;go_enter func390,ntmps390;go_wp2;generalize f:(World.alloc (World.alloc w _) _)=V;have E:Ϝ w V:=by rw[<-f];exact Ϩ.alloc ϟ _
 have B:Δ V w 0 (vS a n c):=by subst f;go_simp
 have K:Δ V (w+1) 0 (vI t):=by subst f;go_simp
 clear f
 go_region_held3 (λw'=>Δ w' w 0 (vS a n c)) (first|exact cLz hy B|go_keep)
  (first
   |(go_at_call 391;refine(J.o _ _ _ E.drew B K).mono ?_;rintro e X ⟨⟨k,u,rfl,F⟩,S⟩;have hy:Ϝ V X:=bR.drew.trans S;have i1:(0:Int)<=(k:Int):=ϝ;have i2:(k:Int)<=(c:Int):=ϝ;have I:ϛ (l.take k=l.filter λy=>decide (y.time<=t)):=F;clear F))
 all_goals
  go_wp2;go_ret;exact⟨⟨k,u,rfl,I.o⟩,bT E hy⟩
theorem JF(h:Bh w b p x)(F:13<=k)(u:Value):Bh (φ w b k u) b p x:=by
 obtain⟨a,c,m,q,z,A,B,C,D,E,d,f,j⟩:=h;exact⟨cell_far a ϝ,cell_far c ϝ,cell_far m ϝ,cell_far q ϝ,cell_far z ϝ,cell_far A ϝ,cell_far B ϝ,cell_far C ϝ,cell_far D ϝ,cell_far E ϝ,cell_far d ϝ,cell_far f ϝ,cell_far j ϝ⟩
theorem JG(h:w.there b 0 n)(q:Nat)(u:Value):(w.setCell ⟨q,k,none⟩ u).there b 0 n:=λj a=>⟨by
 obtain⟨v,c⟩:=Option.isSome_iff_exists.1 (h j a).1;obtain⟨f,d⟩:=cell?_setCell_some (p:=⟨q,k,none⟩) (x:=u) c;rw[d];rfl,by rw[World.frozen?_setCell];exact(h j a).2⟩
theorem Zs(h:boxC w b p x s y t)(n:Int):boxC (φ w b 21 (vI n)) b p x ⟨s.L,s.R,s.lm,s.rm,n⟩ y t:=by
 refine⟨JF h.plan ϝ _,?_,cell_far h.told ϝ,JG h.room _ _⟩;obtain⟨u0,u1,u2,u3,u4,u5,u6,u7,u8⟩:=h.join;exact⟨cell_far u0 ϝ,cell_far u1 ϝ,cell_far u2 ϝ,cell_far u3 ϝ,cell_far u4 ϝ,cell_far u5 ϝ,cell_far u6 ϝ,cell_far u7 ϝ,World.cell?_setCell_same _ _ _ u8⟩
def Ly(y:JX)(side:Int)(z:BX):JX:=if side=2 then⟨y.l,z⟩else⟨z,y.r⟩
theorem BV(h:Δ w b i v)(a:k≠i)(c:k+1≠i)(d:k+1+1≠i)(u0 u1 u2:Value):Δ (φ (φ (φ w b k u0) b (k+1) u1) b (k+1+1) u2) b i v:=cell_far (cell_far (cell_far h a) c) d
theorem UR(h:Δ w b k v)(u0 u1 u2:Value):Δ (φ (φ (φ w b k u0) b (k+1) u1) b (k+1+1) u2) b k u0:=cell_far (cell_far (World.cell?_setCell_same _ _ _ h) ϝ) ϝ
theorem US(h:Δ w b (k+1) v)(u0 u1 u2:Value):Δ (φ (φ (φ w b k u0) b (k+1) u1) b (k+1+1) u2) b (k+1) u1:=cell_far (World.cell?_setCell_same _ _ _ (cell_far h ϝ)) ϝ
theorem UT(h:Δ w b (k+1+1) v)(u0 u1 u2:Value):Δ (φ (φ (φ w b k u0) b (k+1) u1) b (k+1+1) u2) b (k+1+1) u2:=World.cell?_setCell_same _ _ _ (cell_far (cell_far h ϝ) ϝ)
theorem Zt(h:boxC w b p x s y t)(side:Int)(B:Buf)(X:BX)(k:Nat)(a:13+Au side=k):boxC (φ (φ (φ w b k (vI B.lim)) b (k+1) (hdV X.m.1)) b (k+1+1) (vS X.ra X.rs.length X.rc)) b p x (A7 s side B) (Ly y side X) t:=by
 have c:Au side=0\/Au side=3:=by unfold Au;split<;>simp
 refine⟨JF (JF (JF h.plan ϝ _) ϝ _) ϝ _,?_,BV h.told ϝ ϝ ϝ _ _ _,JG (JG (JG h.room _ _) _ _) _ _⟩;obtain⟨u0,u1,u2,u3,u4,u5,u6,u7,u8⟩:=h.join;unfold Au at a;unfold A7 Ly;by_cases e:side=2
 ·rw[if_pos e]at a;subst a;rw[if_pos e,if_pos e];refine⟨BV u0 ϝ ϝ ϝ _ _ _,BV u1 ϝ ϝ ϝ _ _ _,BV u2 ϝ ϝ ϝ _ _ _,UR u3 _ _ _,US u4 _ _ _,UT u5 _ _ _,BV u6 ϝ ϝ ϝ _ _ _,BV u7 ϝ ϝ ϝ _ _ _,BV u8 ϝ ϝ ϝ _ _ _⟩
 ·rw[if_neg e]at a;subst a;rw[if_neg e,if_neg e];refine⟨UR u0 _ _ _,US u1 _ _ _,UT u2 _ _ _,BV u3 ϝ ϝ ϝ _ _ _,BV u4 ϝ ϝ ϝ _ _ _,BV u5 ϝ ϝ ϝ _ _ _,BV u6 ϝ ϝ ϝ _ _ _,BV u7 ϝ ϝ ϝ _ _ _,BV u8 ϝ ϝ ϝ _ _ _⟩
theorem EH{q:Nat}(h:Δ w q i v)(a:b≠q)(u0 u1 u2:Value):Δ (φ (φ (φ w b k u0) b (k+1) u1) b (k+1+1) u2) q i v:=
 have ne:∀j,(⟨b,j,none⟩:Addr)≠⟨q,i,none⟩:=λj e=>a (by injection e)
 ((World.cell?_setCell_other _ _ _ _ (ne _)).trans ((World.cell?_setCell_other _ _ _ _ (ne _)).trans (World.cell?_setCell_other _ _ _ _ (ne _)))).trans h
theorem Tl{q:Addr}(h:w.frozen? q=false)(u0 u1 u2:Value):(((w.setCell ⟨b,k,none⟩ u0).setCell ⟨b,k+1,none⟩ u1).setCell ⟨b,k+1+1,none⟩ u2).frozen? q=false:=by
 rw[World.frozen?_setCell,World.frozen?_setCell,World.frozen?_setCell];exact h
theorem O3(s:Jn)(side:Int)(B:Buf):(A7 s side B).lm=s.lm/\(A7 s side B).rm=s.rm/\(A7 s side B).seq=s.seq:=by unfold A7;split<;>exact⟨rfl,rfl,rfl⟩
theorem Eu(h:Ai w b T)(k:Nat)(u:Value):Bz T w (φ w b k u):=⟨(Below.refl 0 w).setCell (Nat.zero_le _) u,λg e d c _ _=>heap_setCell_other _ _ _ _ (λa=>tyAt_apart d h c a)⟩
theorem F6(h:Ai w b T)(k:Nat)(u0 u1 u2:Value):Bz T w (φ (φ (φ w b k u0) b (k+1) u1) b (k+1+1) u2):=
 ((Eu h _ _).trans (Eu (A6 h _ _) _ _)).trans (Eu (A6 (A6 h _ _) _ _) _ _)
theorem JH(h:CG w base v L)(c:Ai w b T)(a:calmC T)(k:Nat)(u:Value):CG (φ w b k u) base v L:=Nv h c a.c a.t.v k u
theorem Tm(h:JSt w0 w b T p x s y t L)(a:calmC T)(n:Int):JSt w0 (φ w b 21 (vI n)) b T p x ⟨s.L,s.R,s.lm,s.rm,n⟩ y t L:=
 ⟨Zs h.box n,A6 h.ty _ _,h.up,FK h.l h.ty a.t _ _,FK h.r h.ty a.t _ _,h.ap,JH h.cg h.ty a _ _,h.bl.setCell h.up _⟩
theorem Abz(h:JSt w0 w b T p x s y t L)(c:calmC T)(side a:Int):JSt w0 (φ w b (13+BD side) (vI a)) b T p x (Ek s side a) y t L:=by
 have e:(Ek s side a).L=s.L/\(Ek s side a).R=s.R:=by unfold Ek;split<;>exact⟨rfl,rfl⟩
 exact⟨Yj h.box side a,A6 h.ty _ _,h.up,by rw[e.1];exact FK h.l h.ty c.t _ _,by rw[e.2];exact FK h.r h.ty c.t _ _,h.ap,JH h.cg h.ty c _ _,h.bl.setCell h.up _⟩
theorem PD{d:ϙ}(h:JSt w0 w b T p x s y t L)(c:calmC T)(I:Ϝ w d)(side:Int){B:Buf}{X:BX}(u:OB d base X B)(m:w.heap.size<=base)(k:Nat)(J:13+Au side=k):
 JSt w0 (φ (φ (φ d b k (vI B.lim)) b (k+1) (hdV X.m.1)) b (k+1+1) (vS X.ra X.rs.length X.rc)) b T p x (A7 s side B) (Ly y side X) t L:=by
 have a:=h.below I;have A:=a.ty;have D:=A6 A ⟨b,k,none⟩ (vI B.lim);have j:=A6 D ⟨b,k+1,none⟩ (hdV X.m.1);have z:∀{E:Nat} {Z:BX} {C:Buf},OB d E Z C->OB (φ (φ (φ d b k (vI B.lim)) b (k+1) (hdV X.m.1)) b (k+1+1) (vS X.ra X.rs.length X.rc)) E Z C:=λO=>FK (FK (FK O A c.t _ _) D c.t _ _) j c.t _ _;have K:w0.heap.size<=base:=Nat.le_trans h.bl.size m;have H:=z (Ct u K);have G:=JH (JH (JH a.cg A c k (vI B.lim)) D c (k+1) (hdV X.m.1)) j c (k+1+1) (vS X.ra X.rs.length X.rc);have F:=((a.bl.setCell (p:=⟨b,k,none⟩) h.up (vI B.lim)).setCell (p:=⟨b,k+1,none⟩) h.up (hdV X.m.1)).setCell (p:=⟨b,k+1+1,none⟩) h.up (vS X.ra X.rs.length X.rc);have f:=Zt a.box side B X k J;unfold A7 Ly at *;by_cases e:side=2
 ·rw[if_pos e,if_pos e]at f;rw[if_pos e,if_pos e];exact⟨f,A6 j _ _,h.up,z a.l,H,NK h.l u m,G,F⟩
 ·rw[if_neg e,if_neg e]at f;rw[if_neg e,if_neg e];exact⟨f,A6 j _ _,h.up,H,z a.r,λp M q N=>MS (NK h.r u m q N p M),G,F⟩
def IE(p:pl.Pln)(s:Jn):Nat->Jn
 |0=>s
 |1=>⟨CY (Ec (C8 p s 1)) s.L,s.R,s.lm,s.rm,s.seq⟩
 |_=>FL p s
theorem Zu(h:k<2):pl.Bm ((k:Int)+1)=true/\Ak (IE p s k) ((k:Int)+1)=Ak s ((k:Int)+1)/\C8 p (IE p s k) ((k:Int)+1)=C8 p s ((k:Int)+1)/\A7 (IE p s k) ((k:Int)+1) (CY (Ec (C8 p s ((k:Int)+1))) (Ak s ((k:Int)+1)))=IE p s (k+1):=by
 match k,h with
 |0,_=>exact⟨Ϟ,rfl,rfl,rfl⟩
 |1,_=>exact⟨Ϟ,rfl,rfl,rfl⟩
theorem Ja(b:Nat)(T:TypeId)(p:pl.Pln)(x:pl.PA)(s:Jn)(y:JX)(t:Value)(L:List CO)(w0 w:ϙ)(h:JSt w0 w b T p x s y t L)(hT:calmC T)(ak:T≠3)(hw:pl.wfPlan p)(hp:pl.planAt w0 p x)(hg:goodJ p s):
 η 338 #[μ b] w λe w'=>e= .returned (.tuple #[])/\∃j,JSt w0 w' b T p x (FL p s) j t L/\Bz T w w':=by
 have HJ:=hqz h;have HG:=hqz hg;have aj:ϛ (pl.wfPlan p/\pl.planAt w0 p x):=⟨hw,hp⟩;clear h hg hw hp;go_enter func338,ntmps338;go_wp2;generalize I:(World.alloc w _)=V;have al:Ϝ w V:=by rw[<-I];exact Ϩ
 have N:Δ V w 0 (vI 1):=by subst I;go_simp
 have O:Δ V w 1 (vI 2):=by subst I;go_simp
 have ai:ϛ (Ai V w 3):=by subst I;exact⟨_,_,World.alloc_heap_new w _⟩
 clear I
 go_loopw [7] (λi wr=> ∃(k:Nat) (j:JX),k<=2/\i=vI k/\ϛ (JSt w0 wr b T p x (IE p s k) j t L)/\ϛ (Bz T V wr)) (λi _=>2 - (intOf i).toNat)
 case atStart=>exact⟨0,y,ϝ,rfl,HJ.o.below al,Aw bR⟩
 case round=>
  obtain⟨k,j,hk,rfl,f,H⟩:=hrel;have N:=H.o.cell ai.o ak.symm Ϟ Ϟ N;have O:=H.o.cell ai.o ak.symm Ϟ Ϟ O;by_cases ao:k<2
  ·have i1:(0:Int)<=(k:Int):=ϝ;have i2:(k:Int)<2:=ϝ;have ac:Δ wr w k (vI ((k:Int)+1)):=by
    match k,ao with
    |0,_=>exact N
    |1,_=>exact O
   clear N O;obtain⟨d1,P,d3,d4⟩:=Zu (p:=p) (s:=s) ao;obtain⟨u,ae⟩:=nM (CY (Ec (C8 p s ((k:Int)+1))) (Ak s ((k:Int)+1)));rw[ae]at d4;have Q:=HG.o.of ((k:Int)+1);have A:bufAt wr (Ak s ((k:Int)+1)) (B7 j ((k:Int)+1)):=by
    rw[<-P];unfold Ak B7;split
    ·exact f.o.r.at
    ·exact f.o.l.at
   have F:=Ff f.o.box.join ((k:Int)+1);rw[P]at F;have M:ϛ (∀w1,Ϝ wr w1->CT 344 #[μ b,vI ((k:Int)+1)] w1 (θ w1 (vI (C8 p s ((k:Int)+1))))):=λw1 E=>by
    have:=JJ b p x (IE p s k) j t ((k:Int)+1) w1 aj.o.1 (pl.Ae aj.o.2 (f.o.bl.trans (E.mono f.o.bl.size))) (f.o.below E).box d1;rw[d3]at this;exact this
   have KB:ϛ (∀w1,CT 252 #[.pointer (some ⟨b,13,none⟩),vI ((k:Int)+1)] w1 λe w'=>e= .returned (.pointer (some ⟨b,13+Au ((k:Int)+1),none⟩))/\w'=w1):=λw1=>FJ b 13 _ w1;have C:ϛ (∀w1,Ϝ wr w1->CT 343 #[AZ (Ak s ((k:Int)+1)) (B7 j ((k:Int)+1)),vI (C8 p s ((k:Int)+1))] w1 λe w'=>(∃X,e= .returned (.tuple #[AZ u X,ω])/\OB w' w1 X u)/\Ϝ w1 w'):=λw1 E=>by
    have:=Acj (Ak s ((k:Int)+1)) (B7 j ((k:Int)+1)) (C8 p s ((k:Int)+1)) w1 (An A E) Q.2 (by have:=Q.1.all;omega) (Ez Q.1);rw[ae]at this;exact this
   have D:ϛ (∀w1,Ϝ wr w1->∀i,i<23->Ξ w1 b i):=λw1 E i hi=>by
    have:=((f.o.below E).box.room i hi).2;simpa using this
   have ap:Au ((k:Int)+1)=0\/Au ((k:Int)+1)=3:=by unfold Au;split<;>simp
   obtain⟨q,hq⟩:=nM (13+Au ((k:Int)+1));have ab:=hqz hq;have av:13<=q/\q<=16:=ϝ;obtain⟨G,hG⟩:=nM (C8 p s ((k:Int)+1));obtain⟨bo,am⟩:=nM (Ak s ((k:Int)+1));obtain⟨bx,an⟩:=nM (B7 j ((k:Int)+1));obtain⟨J,R⟩:=nM ((k:Int)+1);have ah:ϛ (A7 (IE p s k) J u=IE p s (k+1)):=by show _=_;rw[<-R];exact d4
   have ar:=hqz R;rw[hG]at M C;rw[am,an]at C F;rw[hq]at KB F;rw[R]at M KB ab ac;obtain⟨ay,az,⟨⟨m1,m2,m3⟩,ml⟩,rs⟩:=bx;obtain⟨aw,ax,a2⟩:=bo;unfold AZ hdV at C;dsimp only at C F;obtain⟨n,hn⟩:=nM rs.length;rw[hn]at C F;obtain⟨U,W,Y⟩:=F;have lb:b<wr.heap.size:=f.o.box.lt;clear d1 P d3 d4 ae Q A ap hq hG am an hn R;go_wp2_with (go_at_call 252;refine(KB.o _).mono ?_;rintro e wr ⟨rfl,rfl⟩);refine gr.Ds 13 rfl Ϡ (S:=λ_=>True) trivial (λc=>?_);refine tkz 0 17 c ?_;refine tkz 1 18 c ?_;refine tkz 2 19 c ?_;refine tkz 4 21 c ?_;refine tkz 5 22 c ?_;refine wpAnyH_ready (rs:=[3,6]) Ϡ ϟ ?_;refine AllReadyH.cons rfl (λK a=>?_) (AllReadyH.cons rfl (λK a=>?_) AllReadyH.nil)
   ·go_simp;refine a.out _ _ trivial (λc=>?_);clear a K
    try simp only[Act.put,sI,sZ,sS]
    refine rD 6 λK a=>?_;go_simp;go_at_call 344;refine(M.o _ bR.drew).mono ?_;rintro e wg ⟨rfl,af⟩;have m:Ϝ wr wg:=bR.drew.trans af;go_wp2_with fail;refine a.out _ _ trivial (λc=>?_);clear a K
    try simp only[Act.put,sI,sZ,sS]
    refine rD 7 λK a=>?_;go_simp;go_at_call 343;refine(C.o _ m).mono ?_;rintro e z ⟨⟨X,rfl,A⟩,ag⟩;have d:Ϝ wr z:=bT m ag;go_wp2_with fail;refine a.out _ _ trivial (λc=>?_);clear a K
    try simp only[Act.put,sI,sZ,sS]
    refine tkz 8 16 c ?_;refine tkz 9 25 c ?_;refine tkz 10 26 c ?_;refine tkz 11 27 c ?_;have aa:ϛ (OB z wr X u):=Ct A m.size;have f0:=D.o _ d q ϝ;have f1:=D.o _ d (q+1) ϝ;have f2:=D.o _ d (q+1+1) ϝ;have e0:=cLz d U;have e1:=cLz d W;have e2:=cLz d Y;clear A;refine rD 12 λK a=>?_;go_simp;refine a.out _ _ trivial (λc=>?_);clear a K;refine wpAnyH_done Ϡ ?_ _;have Z:ϛ (Bz T wr (φ (φ (φ z b q (vI u.lim)) b (q+1) (vS X.m.1.1 X.m.1.2.1 X.m.1.2.2)) b (q+1+1) (vS X.ra X.rs.length X.rc))):=(Aw d).trans (F6 (f.o.below d).ty q _ _ _);have B:=PD f.o hT d J aa.o nR q ab.o;unfold hdV at B;generalize (((z.setCell ⟨b,q,none⟩ (vI u.lim)).setCell ⟨b,q+1,none⟩ (vS X.m.1.1 X.m.1.2.1 X.m.1.2.2)).setCell ⟨b,q+1+1,none⟩ (vS X.ra X.rs.length X.rc))=W4 at *;have ad:ϛ (JSt w0 W4 b T p x (IE p s (k+1)) (Ly j J X) t L):=by
     show JSt _ _ _ _ _ _ _ _ _ _;rw[<-ah.o];exact B
    clear B;go_wp2;go_roundw
    (case rel=>exact⟨k+1,_,ϝ,by go_num,ad,H.o.trans Z.o⟩)
    (case measure=>simp[intOf];omega)
   ·go_simp;go_at_call 344;refine(M.o _ bR.drew).mono ?_;rintro e wg ⟨rfl,af⟩;have m:Ϝ wr wg:=bR.drew.trans af;go_wp2_with fail;refine a.out _ _ trivial (λc=>?_);clear a K
    try simp only[Act.put,sI,sZ,sS]
    have d0:=cLz m U;have d1:=cLz m W;have P:=cLz m Y;refine rD 3 λK a=>?_;go_simp;refine a.out _ _ trivial (λc=>?_);clear a K
    try simp only[Act.put,sI,sZ,sS]
    refine rD 7 λK a=>?_;go_simp;go_at_call 343;refine(C.o _ m).mono ?_;rintro e z ⟨⟨X,rfl,A⟩,ag⟩;have d:Ϝ wr z:=bT m ag;go_wp2_with fail;refine a.out _ _ trivial (λc=>?_);clear a K
    try simp only[Act.put,sI,sZ,sS]
    refine tkz 8 16 c ?_;refine tkz 9 25 c ?_;refine tkz 10 26 c ?_;refine tkz 11 27 c ?_;have aa:ϛ (OB z wr X u):=Ct A m.size;have f0:=D.o _ d q ϝ;have f1:=D.o _ d (q+1) ϝ;have f2:=D.o _ d (q+1+1) ϝ;have e0:=cLz d U;have e1:=cLz d W;have e2:=cLz d Y;clear A;refine rD 12 λK a=>?_;go_simp;refine a.out _ _ trivial (λc=>?_);clear a K;refine wpAnyH_done Ϡ ?_ _;have Z:ϛ (Bz T wr (φ (φ (φ z b q (vI u.lim)) b (q+1) (vS X.m.1.1 X.m.1.2.1 X.m.1.2.2)) b (q+1+1) (vS X.ra X.rs.length X.rc))):=(Aw d).trans (F6 (f.o.below d).ty q _ _ _);have B:=PD f.o hT d J aa.o nR q ab.o;unfold hdV at B;generalize (((z.setCell ⟨b,q,none⟩ (vI u.lim)).setCell ⟨b,q+1,none⟩ (vS X.m.1.1 X.m.1.2.1 X.m.1.2.2)).setCell ⟨b,q+1+1,none⟩ (vS X.ra X.rs.length X.rc))=W4 at *;have ad:ϛ (JSt w0 W4 b T p x (IE p s (k+1)) (Ly j J X) t L):=by
     show JSt _ _ _ _ _ _ _ _ _ _;rw[<-ah.o];exact B
    clear B;go_wp2;go_roundw
    (case rel=>exact⟨k+1,_,ϝ,by go_num,ad,H.o.trans Z.o⟩)
    (case measure=>simp[intOf];omega)
  ·have aq:k=2:=ϝ;subst aq;have au:¬(((2:Nat):Int)<2):=ϝ;go_wp2;exact bodyPost_end (v:=.tuple #[]) (by simp[results,results338,go_sem]) rfl ⟨rfl,⟨j,f.o⟩,(Aw al).trans H.o⟩
end jn
end Go.Proofs.YtfkihidbnfkbaaaGreatDoor
