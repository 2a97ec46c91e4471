import Derived.Test.YtfkihidbnfkbaaaGreatDoorPv27
import Derived.Deep.DeepCutAuto
set_option linter.all false
set_option maxHeartbeats 8000000
set_option maxRecDepth 100000
open Go.RowKit Go.ChangeShapes Go.WideShapes Go.ChangeAt List
namespace Go.Proofs.YtfkihidbnfkbaaaGreatDoor
open Go.Proofs.Tryz
namespace jn
open vl bf
variable {p : pl.Pln} {s : Jn} {qs : List Int} {y : Ent} {side : Int} {b : Buf} {r : List Cel} {v : Ev}
structure okJ(p:pl.Pln)(s:Jn):Prop where
 L:okB s.L
 R:okB s.R
 lm:Ex s.lm=true
 rm:Ex s.rm=true
 sq:0<=s.seq/\s.seq<=1099511627776
 ll:s.L.lim=p.limit
 rl:s.R.lim=p.limit
 below:∀y∈Ab s.L++Ab s.R,y.seq<s.seq
 once:((Ab s.L++Ab s.R).map (·.seq)).Nodup
 rowL:∀y∈Ab s.L,GK p 1 y=true
 rowR:∀y∈Ab s.R,GK p 2 y=true
theorem DD(h:Bh p s=0):pl.An p=0/\okJ p s:=by
 unfold Bh at h;by_cases c:pl.An p=0
 ·rw[if_neg (by simp[c])]at h;by_cases d:Fx s.L=0
  ·rw[if_neg (by simp[d])]at h;by_cases f:Fx s.R=0
   ·rw[if_neg (by simp[f])]at h
    cases h4:Ej s with
    |false=>rw[h4]at h;simp at h
    |true=>
     rw[h4,if_neg Ϟ]at h
     cases h5:GL p s with
     |false=>rw[h5]at h;simp at h
     |true=>
      unfold Ej at h4;unfold GL at h5;simp only[Bool.and_eq_true]at h4 h5;obtain⟨⟨n,q⟩,j⟩:=h4;obtain⟨⟨⟨⟨u,z⟩,a⟩,l⟩,m⟩:=h5;unfold LY Es at a;unfold Kt at l m;have a:=of_decide_eq_true a;unfold B9 at j;exact⟨c,Fv d,Fv f,n,q,by simpa using j,of_decide_eq_true u,of_decide_eq_true z,a.1,a.2,all_eq_true.1 l,all_eq_true.1 m⟩
   ·rw[if_pos f]at h;exact absurd h f
  ·rw[if_pos d]at h;exact absurd h d
 ·rw[if_pos c]at h;exact absurd h c
theorem okJ.none(d:pl.An p=0)(h:okJ p s):Bh p s=0:=by
 have a:Ej s=true:=by
  unfold Ej B9;simp only[Bool.and_eq_true];exact⟨⟨h.lm,h.rm⟩,by simpa using h.sq⟩
 have c:GL p s=true:=by
  unfold GL LY Es Kt;simp only[Bool.and_eq_true];exact⟨⟨⟨⟨decide_eq_true h.ll,decide_eq_true h.rl⟩,decide_eq_true ⟨h.below,h.once⟩⟩,all_eq_true.2 h.rowL⟩,all_eq_true.2 h.rowR⟩
 unfold Bh;rw[if_neg (by simp[d]),if_neg (by simp[DX h.L]),if_neg (by simp[DX h.R]),a,if_neg Ϟ,c,if_neg Ϟ]
theorem Xd(qs:List Int)(y:Ent):AZ (metE qs y)=AZ y:=by unfold metE;split<;>rfl
theorem Hl(qs:List Int)(y:Ent):(metE qs y).seq=y.seq:=by unfold metE;split<;>rfl
theorem Jg(qs:List Int)(y:Ent):(metE qs y).key=y.key:=by unfold metE;split<;>rfl
theorem Mj(qs:List Int)(y:Ent):(metE qs y).time=y.time:=by unfold metE;split<;>rfl
theorem Lh(qs:List Int)(y:Ent):(metE qs y).row=y.row:=by unfold metE;split<;>rfl
theorem Aa2(qs:List Int)(a b:Ent):ltP (metE qs a) (metE qs b)↔ltP a b:=by
 unfold ltP;rw[Jg,Jg,Mj,Mj,Hl,Hl]
theorem Xe(h:Ew y):Ew (metE qs y):=by
 unfold Ew at *;rw[Jg,Lh,Mj,Hl];exact h
theorem Xf(h:wfE y/\wfP (AZ y)):wfE (metE qs y)/\wfP (AZ (metE qs y)):=by
 rw[Xd];refine⟨⟨?_,?_,?_⟩,h.2⟩
 ·rw[Jg];exact h.1.key
 ·rw[Lh];exact h.1.row
 ·rw[Lh];exact h.1.len
theorem Ql(h:GK p side y=true):GK p side (metE qs y)=true:=by
 unfold GK at *;rw[Jg,Lh];exact h
theorem EJ(qs:List Int)(b:Buf):Ab (C0 qs b)=(Ab b).map (metE qs):=by
 unfold Ab partsB C0;simp[map_flatten]
theorem NA(qs:List Int)(h:okB b):okB (C0 qs b):=by
 refine Ry h.lim ?_ ?_ ?_ ?_ ?_ ?_
 ·show(((b.mem.map (metE qs)).length:Nat):Int)<=b.lim;rw[lMp];exact h.mem
 ·rw[EJ,lMp];exact h.all
 ·rw[EJ];intro y n;obtain⟨z,q,rfl⟩:=mem_map.1 n;exact Xe (h.entry q)
 ·intro l d;have f:∀m∈partsB b,LL (m.map (metE qs)):=λm c=>by
   have:=h.rises c;unfold LL at *;exact pairwise_map.2 (this.imp (λ{a b} k=>(Aa2 qs a b).2 k))
  rcases mem_cons.1 d with rfl|d
  ·exact f b.mem (mem_cons_self ..)
  ·obtain⟨m,c,rfl⟩:=mem_map.1 d;exact f m (mem_cons_of_mem _ c)
 ·intro r j;obtain⟨m,c,rfl⟩:=mem_map.1 j;rw[lMp];exact h.full m c
 ·rw[EJ,map_map];have:(AZ∘metE qs)=AZ:=funext (Xd qs);rw[this];exact h.once
theorem UD(b:Buf)(y:Ent):(Ab (C1 b y)).Perm (y::Ab b):=PF (BC _)
theorem RN(h:okB b)(a:Ew y)(c:bf.hasB (Ab b) (AZ y)=false)(d:(Ab b).length≠4096):okB (C1 b y):=Us h a c d (BC _) (M8 _)
theorem Xg(b:Buf)(y:Ent):(C1 b y).lim=b.lim:=by unfold C1 Gp;split<;>rfl
structure goodJ(p:pl.Pln)(s:Jn):Prop where
 ok:okJ p s
 wf:∀y∈Ab s.L++Ab s.R,wfE y/\wfP (AZ y)
theorem goodJ.of(h:goodJ p s)(side:Int):okB (Aj s side)/\(∀y∈Ab (Aj s side),wfE y/\wfP (AZ y)):=by
 unfold Aj;split
 ·exact⟨h.ok.R,λy a=>h.wf y (mem_append.2 (.inr a))⟩
 ·exact⟨h.ok.L,λy a=>h.wf y (mem_append.2 (.inl a))⟩
theorem FK{s':Jn}(h:goodJ p s)(D:okB s'.L)(E:okB s'.R)(H:Ex s'.lm=true)(I:Ex s'.rm=true)(n:s'.seq=s.seq)(F:s'.L.lim=s.L.lim)(G:s'.R.lim=s.R.lim)
 (B C:Ent->Bool) (u A:List Int) (l:Ab s'.L=((Ab s.L).filter B).map (metE u)) (m:Ab s'.R=((Ab s.R).filter C).map (metE A)):goodJ p s':=by
 have d:∀y∈Ab s'.L,∃z∈Ab s.L,metE u z=y:=λy a=>by
  rw[l]at a;obtain⟨z,c,rfl⟩:=mem_map.1 a;exact⟨z,(mem_filter.1 c).1,rfl⟩
 have f:∀y∈Ab s'.R,∃z∈Ab s.R,metE A z=y:=λy a=>by
  rw[m]at a;obtain⟨z,c,rfl⟩:=mem_map.1 a;exact⟨z,(mem_filter.1 c).1,rfl⟩
 refine⟨⟨D,E,H,I,by rw[n];exact h.ok.sq,by rw[F];exact h.ok.ll,by rw[G];exact h.ok.rl,λy a=>?_,?_,λy a=>?_,λy a=>?_⟩,λy a=>?_⟩
 ·rw[n];rcases mem_append.1 a with a|a
  ·obtain⟨z,c,rfl⟩:=d y a;rw[Hl];exact h.ok.below z (mem_append.2 (.inl c))
  ·obtain⟨z,c,rfl⟩:=f y a;rw[Hl];exact h.ok.below z (mem_append.2 (.inr c))
 ·have j:∀q,((·.seq)∘metE q:Ent->Int)=(·.seq):=λq=>funext (Hl q);rw[l,m,map_append,map_map,map_map,j,j,<-map_append];exact h.ok.once.sublist ((filter_sublist.append filter_sublist).map _)
 ·obtain⟨z,c,rfl⟩:=d y a;exact Ql (h.ok.rowL z c)
 ·obtain⟨z,c,rfl⟩:=f y a;exact Ql (h.ok.rowR z c)
 ·rcases mem_append.1 a with a|a
  ·obtain⟨z,c,rfl⟩:=d y a;exact Xf (h.wf z (mem_append.2 (.inl c)))
  ·obtain⟨z,c,rfl⟩:=f y a;exact Xf (h.wf z (mem_append.2 (.inr c)))
theorem Ti(y:Ent):metE [] y=y:=by unfold metE;simp
theorem EK(l:List Ent):(l.filter λ_=>true).map (metE [])=l:=by
 have:metE []=id:=funext Ti;rw[this,map_id];simp
theorem Tj(qs:List Int)(l:List Ent):(l.filter λ_=>true).map (metE qs)=l.map (metE qs):=by
 have:(l.filter λ_=>true)=l:=filter_eq_self.2 (λ_ _=>rfl);rw[this]
theorem Ka(f:Ent->Bool)(l:List Ent):(l.filter f).map (metE [])=l.filter f:=by
 have:metE []=id:=funext Ti;rw[this,map_id]
theorem Jh(h:goodJ p s)(side:Int)(qs:List Int):goodJ p (A7 s side (C0 qs (Aj s side))):=by
 unfold A7 Aj;by_cases e:side=2
 ·rw[if_pos e,if_pos e];exact FK h h.ok.L (NA qs h.ok.R) h.ok.lm h.ok.rm rfl rfl rfl (λ_=>true) (λ_=>true) [] qs (EK _).symm (by rw[Tj];exact EJ qs _)
 ·rw[if_neg e,if_neg e];exact FK h (NA qs h.ok.L) h.ok.R h.ok.lm h.ok.rm rfl rfl rfl (λ_=>true) (λ_=>true) qs [] (by rw[Tj];exact EJ qs _) (EK _).symm
theorem Tk(h:goodJ p s)(side a:Int)(d:tm.Bm a=true):goodJ p (DN s side a):=by
 have c:Ex a=true:=by unfold Ex;rw[d,Bool.or_true]
 unfold DN;split
 ·exact FK h h.ok.L h.ok.R h.ok.lm c rfl rfl rfl (λ_=>true) (λ_=>true) [] [] (EK _).symm (EK _).symm
 ·exact FK h h.ok.L h.ok.R c h.ok.rm rfl rfl rfl (λ_=>true) (λ_=>true) [] [] (EK _).symm (EK _).symm
theorem Kb(h:goodJ p s):goodJ p (Fs p s):=
 FK (s':=Fs p s) h (Io _ h.ok.L) (Io _ h.ok.R) h.ok.lm h.ok.rm rfl rfl rfl (D6 (Cw p s 1)) (D6 (Cw p s 2)) [] [] (by rw[Ka];exact Hh _ _) (by rw[Ka];exact Hh _ _)
theorem Xh(h:goodJ p s):goodJ p (Vi s):=
 FK (s':=Vi s) h h.ok.L (Io _ h.ok.R) h.ok.lm h.ok.rm rfl rfl rfl (λ_=>true) _ [] [] (EK _).symm (by rw[Ka];exact Hh _ _)
theorem Qm(h:goodJ p s):goodJ p (Cy p s):=by
 unfold Cy;split
 ·exact Xh (Kb h)
 ·exact Kb h
structure wfV(v:Ev):Prop where
 row:Cb v.row
 len:v.row.length<=χ
theorem Zb(h:pl.hasB p side r=true):pl.Bg p side r=0:=by
 unfold pl.hasB at h;simp only[Bool.and_eq_true]at h;exact of_decide_eq_true h.1
theorem Qn{j c:Int}{met:Bool}(f:pl.hasB p side r=true)(u:Cb r)(q:tm.Bm j=true)(n:0<=c/\c<=1099511627776):Ew ⟨pl.Ar p side r,j,c,r,met⟩/\(pl.Ar p side r).size<=1048:=by
 have h:=pl.Da (Zb f);have m:=pl.keys_in (side:=side) h.1;have a:rowOk (pl.DW p side r):=pl.SO Ϝ (by rw[h.2.2.1];exact m.1) h.2.2.2.1 u;have A:r.length<=8:=by
  rw[h.2.2.1];have:=pl.EG (pl.BI h.1).2.2.1;unfold pl.AF;split<;>omega
 have d:encR (pl.DW p side r)=(pl.Ar p side r).data.toList:=by unfold pl.Ar;rw[if_pos f]
 refine⟨⟨⟨_,a,d⟩,?_,q,n⟩,?_⟩
 ·show AD r=0;unfold AD;rw[if_neg Ϝ];exact h.2.2.2.1
 ·have z:=Pm a;have l:=I7 a;have:(pl.Ar p side r).size=(EI (pl.DW p side r)).size:=by
   show(pl.Ar p side r).data.size=(EI (pl.DW p side r)).data.size;rw[<-Array.length_toList,<-Array.length_toList,<-d,l]
  omega
theorem NC{l:List Ent}{n:Int}{k:ByteArray}{t:Int}(h:∀y∈l,y.seq<n):bf.hasB l (k,t,n)=false:=by
 unfold bf.hasB;rw[any_eq_false];intro y a e;have:=h y a;have e:=of_decide_eq_true e;unfold AZ at e;injection e with _ e
 injection e with _ e
 omega
structure comeJ(p:pl.Pln)(s:Jn)(v:Ev):Prop where
 side:pl.Bf v.side=true
 time:tm.Bm v.time=true
 err:pl.Bg p v.side v.row=0
 late:Bs s v.side<v.time
 sq:s.seq≠1099511627776
 few:(Ab (Aj s v.side)).length≠4096
theorem Tl(h:A9 p s v=0)(j:v.kind≠2):comeJ p s v:=by
 unfold A9 at h;by_cases c:¬(v.kind=1\/v.kind=2)\/pl.Bf v.side=false
 ·rw[if_pos c]at h;cases h
 ·rw[if_neg c]at h;have l:pl.Bf v.side=true:=by
   cases e:pl.Bf v.side with
   |true=>rfl
   |false=>exact absurd (.inr e) c
  cases h2:tm.Bm v.time with
  |false=>rw[h2]at h;simp at h
  |true=>
   rw[h2,if_neg Ϟ,if_neg j]at h;by_cases a:pl.Bg p v.side v.row=0
   ·rw[if_neg (by simp[a])]at h;by_cases f:v.time<=Bs s v.side
    ·rw[if_pos f]at h;cases h
    ·rw[if_neg f]at h;by_cases d:s.seq=1099511627776\/(Ab (Aj s v.side)).length=4096
     ·rw[if_pos d]at h;cases h
     ·exact⟨l,h2,a,Ϝ,λe=>d (.inl e),λe=>d (.inr e)⟩
   ·rw[if_pos a]at h;exact absurd h a
theorem Tm(h:A9 p s v=0)(f:v.kind=2):pl.Bf v.side=true/\tm.Bm v.time=true/\v.row.length=0/\Bs s v.side<=v.time:=by
 unfold A9 at h;by_cases a:¬(v.kind=1\/v.kind=2)\/pl.Bf v.side=false
 ·rw[if_pos a]at h;cases h
 ·rw[if_neg a]at h;have j:pl.Bf v.side=true:=by
   cases e:pl.Bf v.side with
   |true=>rfl
   |false=>exact absurd (.inr e) a
  cases h2:tm.Bm v.time with
  |false=>rw[h2]at h;simp at h
  |true=>
   rw[h2,if_neg Ϟ,if_pos f]at h;by_cases c:0<v.row.length
   ·rw[if_pos c]at h;cases h
   ·rw[if_neg c]at h;by_cases d:v.time<Bs s v.side
    ·rw[if_pos d]at h;cases h
    ·exact⟨j,rfl,Ϝ,Ϝ⟩
theorem side_is(h:pl.Bf side=true):side=1\/side=2:=by unfold pl.Bf at h;simpa using h
theorem Kc(h:goodJ p s)(l:comeJ p s v)(C:wfV v)(met:Bool):goodJ p (DJ p s v met):=by
 have A:0<=s.seq+1/\s.seq+1<=1099511627776:=by have:=h.ok.sq;have:=l.sq;omega
 unfold DJ;by_cases n:pl.hasB p v.side v.row=true/\Cw p s v.side<v.time
 ·rw[if_pos n];obtain⟨G,I⟩:=Qn (met:=met) n.1 C.row l.time h.ok.sq;have D:wfE ⟨pl.Ar p v.side v.row,v.time,s.seq,v.row,met⟩/\wfP (AZ ⟨pl.Ar p v.side v.row,v.time,s.seq,v.row,met⟩):=by
   refine⟨⟨Nat.le_trans I ϝ,C.row,C.len⟩,?_⟩;have B:=l.time;unfold tm.Bm at B;have B:=of_decide_eq_true B;have:=h.ok.sq;exact⟨Nat.le_trans I ϝ,⟨by show _<=v.time;omega,by show v.time<=_;omega⟩,⟨by show _<=s.seq;omega,by show s.seq<=_;omega⟩⟩
  have m:GK p v.side ⟨pl.Ar p v.side v.row,v.time,s.seq,v.row,met⟩=true:=by
   unfold GK;simp only[Bool.and_eq_true];exact⟨⟨decide_eq_true l.err,n.1⟩,Ϟ⟩
  have K:bf.hasB (Ab (Aj s v.side)) (pl.Ar p v.side v.row,v.time,s.seq)=false:=NC (λy a=>h.ok.below y (by
   unfold Aj at a;split at a
   ·exact mem_append.2 (.inr a)
   ·exact mem_append.2 (.inl a)))
  have f:=RN (h.of v.side).1 G K l.few;have c:=UD (Aj s v.side) ⟨pl.Ar p v.side v.row,v.time,s.seq,v.row,met⟩;have d:=Xg (Aj s v.side) ⟨pl.Ar p v.side v.row,v.time,s.seq,v.row,met⟩;have H:s.seq ∉ (Ab s.L++Ab s.R).map (·.seq):=λJ=>by
   obtain⟨y,a,e⟩:=mem_map.1 J;have:=h.ok.below y a;omega
  obtain⟨E,u⟩:∃z:Ent,⟨pl.Ar p v.side v.row,v.time,s.seq,v.row,met⟩=z:=⟨_,rfl⟩;have F:E.seq=s.seq:=by rw[<-u]
  rw[u]at G D m f c d⊢;clear u;unfold A7;rcases side_is l.side with e|e
  ·rw[if_neg Ϝ];rw[e]at m f c d;rw[e];have q:Aj s 1=s.L:=by unfold Aj;rw[if_neg ϝ]
   rw[q]at f c d⊢;have j:(Ab (C1 s.L E)++Ab s.R).Perm (E::(Ab s.L++Ab s.R)):=by
    have:=c.append_right (Ab s.R);simpa using this
   refine⟨⟨f,h.ok.R,h.ok.lm,h.ok.rm,A,by rw[d];exact h.ok.ll,h.ok.rl,λy a=>?_,?_,λy a=>?_,h.ok.rowR⟩,λy a=>?_⟩
   ·show y.seq<s.seq+1;rcases mem_cons.1 (j.mem_iff.1 a)with rfl|a
    ·omega
    ·have:=h.ok.below y a;omega
   ·refine((j.map (·.seq)).nodup_iff).2 ?_;rw[map_cons,nodup_cons,F];exact⟨H,h.ok.once⟩
   ·rcases mem_cons.1 (c.mem_iff.1 a)with rfl|a
    ·exact m
    ·exact h.ok.rowL y a
   ·rcases mem_cons.1 (j.mem_iff.1 a)with rfl|a
    ·exact D
    ·exact h.wf y a
  ·rw[if_pos e];rw[e]at m f c d;rw[e];have q:Aj s 2=s.R:=by unfold Aj;rw[if_pos rfl]
   rw[q]at f c d⊢;have j:(Ab s.L++Ab (C1 s.R E)).Perm (E::(Ab s.L++Ab s.R)):=by
    have:=c.append_left (Ab s.L);exact this.trans perm_middle
   refine⟨⟨h.ok.L,f,h.ok.lm,h.ok.rm,A,h.ok.ll,by rw[d];exact h.ok.rl,λy a=>?_,?_,h.ok.rowL,λy a=>?_⟩,λy a=>?_⟩
   ·show y.seq<s.seq+1;rcases mem_cons.1 (j.mem_iff.1 a)with rfl|a
    ·omega
    ·have:=h.ok.below y a;omega
   ·refine((j.map (·.seq)).nodup_iff).2 ?_;rw[map_cons,nodup_cons,F];exact⟨H,h.ok.once⟩
   ·rcases mem_cons.1 (c.mem_iff.1 a)with rfl|a
    ·exact m
    ·exact h.ok.rowR y a
   ·rcases mem_cons.1 (j.mem_iff.1 a)with rfl|a
    ·exact D
    ·exact h.wf y a
 ·rw[if_neg n];exact⟨⟨h.ok.L,h.ok.R,h.ok.lm,h.ok.rm,A,h.ok.ll,h.ok.rl,λy a=>by have:=h.ok.below y a;show y.seq<s.seq+1;omega,h.ok.once,h.ok.rowL,h.ok.rowR⟩,h.wf⟩
theorem Ji(a:comeJ p s v)(side:Int)(qs:List Int):comeJ p (A7 s side (C0 qs (Aj s side))) v:=by
 refine⟨a.side,a.time,a.err,?_,?_,?_⟩
 ·have:=a.late;have e:Bs (A7 s side (C0 qs (Aj s side))) v.side=Bs s v.side:=by
   unfold A7;split<;>rfl
  rw[e];exact this
 ·have:=a.sq;unfold A7;split<;>exact this
 ·have:=a.few;unfold A7 Aj at *;by_cases c:side=2<;>by_cases d:v.side=2<;>simp only[c,d,if_true,if_false,EJ,lMp]at this⊢ <;>first|exact this|(rw[EJ,lMp];exact this)
theorem good_row(h:goodJ p s)(a:comeJ p s v)(c:wfV v):goodJ p (Gr p s v).1:=by
 unfold Gr;split
 ·split
  ·exact Kc h a c _
  ·have j:Aj s 1=s.L:=by unfold Aj;rw[if_neg ϝ]
   have d:=Jh h 1 ((DI p s v).map (·.seq));have f:=Ji a 1 ((DI p s v).map (·.seq));rw[j]at d f;exact Kc d f c _
 ·exact Kc (Jh h _ _) (Ji a _ _) c _
theorem good_step(l:∀y∈Ab s.L++Ab s.R,wfE y/\wfP (AZ y))(j:wfV v)(a:(stepJ p s v).1=0):goodJ p (stepJ p s v).2.1:=by
 unfold stepJ at a⊢;by_cases d:Bh p s=0
 ·rw[if_neg (by simp[d])]at a⊢;have h:goodJ p s:=⟨(DD d).2,l⟩;by_cases c:A9 p s v=0
  ·rw[if_neg (by simp[c])]at a⊢;by_cases f:v.kind=2
   ·rw[if_pos f];exact Qm (Tk h v.side v.time (Tm c f).2.1)
   ·rw[if_neg f];exact good_row h (Tl c f) j
  ·rw[if_pos c]at a;exact absurd a c
 ·rw[if_pos d]at a;exact absurd a d
end jn
namespace jn
open vl bf
attribute [local go_sem] Oper.semAt_some
variable {T e : TypeId} {w w' w0 w1 w2 : Ϙ} {b base g i k o rc rn : Nat} {t v : Value} {L : List CO} {p : pl.Pln} {x : pl.PA} {s : Jn} {y : JX} {ra : ϙ} {row : List Cel} {side : Int}
def BD(T:TypeId)(w w':World):Prop:=Below 0 w w'/\∀g e,Ae w g e->e≠T->e≠217->w'.heap[g]? =w.heap[g]?
theorem BD.refl(T:TypeId)(w:Ϙ):BD T w w:=⟨bR,λ_ _ _ _ _=>rfl⟩
theorem BD.trans(h:BD T w w1)(k:BD T w1 w2):BD T w w2:=⟨h.1.trans k.1,λg e d a c=>(k.2 g e (Ao d (h.2 g e d a c)) a c).trans (h.2 g e d a c)⟩
theorem B4(h:ϛ w w'):BD T w w':=⟨h.mono (Nat.zero_le _),λg e a _ _=>h.block g (A6 a)⟩
theorem Ml(a:QG w w' b t)(f:Ae w b T)(h:CG w base t L):BD T w w':=⟨a.1,λg e j c d=>T4 a f h c.symm d j⟩
theorem BD.cell(h:BD T w w')(j:Ae w g e)(c:e≠T)(d:e≠217)(f:Δ w g o v):Δ w' g o v:=(cOb (w:=w) (a:=⟨g,o,none⟩) (h.2 g e j c d)).trans f
theorem BD.ty(h:BD T w w')(a:Ae w g e)(c:e≠T)(d:e≠217):Ae w' g e:=Ao a (h.2 g e a c d)
theorem BD.oe{a:List EM}{l:List Ent}(h:BD T w w')(c:calmC T)(f:OE w base v a l):OE w' base v a l:=f.other h.1.size (λg d=>d.elim (λk=>h.2 g _ k c.t.e.symm ϝ) (λk=>h.2 g _ k c.t.v.symm ϝ))
def Bo(T:TypeId)(w w':World):Prop:=Below 0 w w'/\∀g e,Ae w g e->e≠T->e≠217->e≠166->w'.heap[g]? =w.heap[g]?
theorem Bo.trans(h:Bo T w w1)(k:Bo T w1 w2):Bo T w w2:=⟨h.1.trans k.1,λg e f a c d=>(k.2 g e (Ao f (h.2 g e f a c d)) a c d).trans (h.2 g e f a c d)⟩
theorem Aw(h:ϛ w w'):Bo T w w':=⟨h.mono (Nat.zero_le _),λg e a _ _ _=>h.block g (A6 a)⟩
theorem BD.m(h:BD T w w'):Bo T w w':=⟨h.1,λg e d a c _=>h.2 g e d a c⟩
theorem IU.m(h:IU w w'):Bo T w w':=⟨h.1,λg e c _ _ a=>h.2 g e c a⟩
theorem Bo.cell(h:Bo T w w')(l:Ae w g e)(c:e≠T)(d:e≠217)(f:e≠166)(j:Δ w g o v):Δ w' g o v:=(cOb (w:=w) (a:=⟨g,o,none⟩) (h.2 g e l c d f)).trans j
theorem E7(h:JSt w0 w b T p x s y t L)(c:calmC T)(n:L.length<=1000000)(f:ϛ w w1)(q:AA w1 w (vS ra rn rc) row):
 η 357 #[μ b,vS ra rn rc] w1 λe w'=>e= .returned (.tuple #[])/\∃d,JSt w0 w' b T p x s y d (L++[⟨1,vS ra rn rc,row⟩])/\BD T w1 w':=
 have a:=h.below f
 (Sx b p x s y t T ra rn rc row L w0.heap.size w w1 a.box a.ty c.c c.t.v h.cg f q n).mono (by
  rintro e w' ⟨rfl,d,l,m,j⟩;exact⟨rfl,d,a.told c l m j,Ml j a.ty a.cg⟩)
theorem O6{c:ϙ}{f d:Nat}{l:List Cel}(h:JSt w0 w b T p x s y t L)(j:calmC T)(C:L.length<=1000000)(n:ϛ w w1)(D:AA w1 w (vS c f d) l)(q:ϛ w1 w2)(E:AA w2 w1 (vS ra rn rc) row):
 η 355 #[μ b,vS ra rn rc,vS c f d] w2 λe w'=>e= .returned (.tuple #[])/\∃m,JSt w0 w' b T p x s y m (L++[⟨3,vS ra rn rc,row⟩,⟨4,vS c f d,l⟩])/\BD T w2 w':=
 have z:=bT n q;have a:=h.below z
 (Yb b p x s y t T ra c rn rc f d row l L w0.heap.size w2 a.box a.ty j.c j.t.v (h.cg.two2 n D q E) C).mono (by
  rintro e w' ⟨rfl,m,A,B,u⟩;exact⟨rfl,m,a.told j A B u,Ml u a.ty a.cg⟩)
def toldOf(p:pl.Pln)(v:Ev)(e:Ent):List ch.Chg:=if Ct p.mode (3 - v.side)=true/\e.met=false then [⟨3,AW p (3 - v.side) e.row⟩,⟨4,AX v.side v.row e.row⟩]else [⟨1,AX v.side v.row e.row⟩]
def pairT(p:pl.Pln)(v:Ev)(l:List Ent):List ch.Chg:=l.flatMap (toldOf p v)++if l.isEmpty=true/\Ct p.mode v.side=true then [⟨1,AW p v.side v.row⟩]else []
theorem Qo(p:pl.Pln)(s:Jn)(v:Ev):Cn p s v=pairT p v (BF p s v (Dy p v) (toJ p v)):=rfl
theorem Ir(h:pl.Bf side=true):pl.Bf (3 - side)=true/\3 - (3 - side)=side:=by
 rcases side_is h with rfl|rfl<;>exact⟨ϝ,ϝ⟩
theorem Hm{α β:Type}(f:α->List β){l:List α}{d:α}(h:k<l.length):(l.take (k+1)).flatMap f=(l.take k).flatMap f++f (l.getD k d):=by
 rw[take_succ_eq_append_getElem h,flatMap_append,gDe,gEe h];simp
theorem DZ{r:List Cel}(h:pl.Bg p side r=0):0<r.length/\r.length<=400:=by
 have a:=pl.Da h;have c:=Xl a.1 side;rw[a.2.2.1];omega
theorem Fh(h:goodJ p s)(f:pl.Bf side=true){y:Ent}(hy:y∈Ab (Aj s side)):pl.Bg p side y.row=0:=by
 have c:∀{d:Int},GK p d y=true->pl.Bg p d y.row=0:=λa=>by
  unfold GK at a;simp only[Bool.and_eq_true]at a;exact of_decide_eq_true a.1.1
 rcases side_is f with rfl|rfl
 ·exact c (h.ok.rowL y hy)
 ·exact c (h.ok.rowR y hy)
theorem Qp(b:Nat)(T:TypeId)(p:pl.Pln)(x:pl.PA)(s:Jn)(y:JX)(v:Ev)(ra:ϙ)(rc:Nat)(fr B:Int)(w0 w:Ϙ)(h:JSt w0 w b T p x s y (vS none 0 0) [])(hT:calmC T)(bh:T≠208)(hg:goodJ p s)(hs:pl.Bf v.side=true)(hv:vl.rowAt w0 ra v.row)(he:pl.Bg p v.side v.row=0):
 η 346 #[μ b,B8 p v ra rc,vI fr,vI B] w λe w'=>e= .returned (.bool (!(BF p s v fr B).isEmpty))/\∃M J m,JSt w0 w' b T p x (A7 s (3 - v.side) (C0 ((BF p s v fr B).map (·.seq)) (Aj s (3 - v.side)))) M J m/\m.map CO.chg=pairT p v (BF p s v fr B)/\Bo T w w':=by
 have hp:=(pl.Da he).1;have ho:=Ir hs;have aq:=DZ he;have HJ:=hqz h;have HG:Ϛ (goodJ p s/\okB (Aj s (3 - v.side))/\∀z∈Ab (Aj s (3 - v.side)),wfE z/\wfP (AZ z)):=⟨hg,hg.of _⟩;have KO:=hIz (λ(w1:Ϙ)=>Hq v.side w1 hs);have b1:∀w1 s y t L,JSt w0 w1 b T p x s y t L->bufAt w1 (Aj s (3 - v.side)) (Br y (3 - v.side)):=λw1 s y t L hj=>by
  unfold Aj Br;split
  ·exact hj.r.at
  ·exact hj.l.at
 have KW:Ϛ (∀w1,ϛ w w1->CT 352 #[μ b,B8 p v ra rc,vI fr,vI B] w1 λe w'=>(∃hh Y,e= .returned (hdV hh)/\OE w' w1 (hdV hh) Y (BF p s v fr B))/\ϛ w1 w'):=λw1 u=>GR b p x s y _ v ra rc fr B w1 hs (HJ.o.below u).box (b1 _ _ _ _ _ (HJ.o.below u)) HG.o.2.1 HG.o.2.2;have KP:=hIz (λside (w1:Ϙ)=>Ki p.mode side w1);have KJ:=hIz (λ(q:List Cel) (qa:ϙ) (qc:Nat) (w1:Ϙ) (h1:0<q.length) (h2:q.length<=400) (u:ϛ w0 w1) (hq:vl.rowAt w1 qa q)=>CC v.side ra qa rc qc v.row q w1 aq.1 h1 aq.2 h2 (vl.Ac hv u) hq);have KA:=hIz (λ(q:List Cel) (qa:ϙ) (qc:Nat) (w1:Ϙ) (h1:0<q.length) (h2:q.length<=400) (u:Bp w1 b p x) (hq:vl.rowAt w1 qa q)=>Hn b p x (3 - v.side) qa qc q w1 hp ho.1 u hq h1 h2);have bc:=hIz (λ(w1:Ϙ) (u:Bp w1 b p x) (al:ϛ w0 w1)=>Hn b p x v.side ra rc v.row w1 hp hs u (vl.Ac hv al) aq.1 aq.2);have bo:Ϛ (∀k,k<(BF p s v fr B).length->(0<((BF p s v fr B).getD k default).row.length/\((BF p s v fr B).getD k default).row.length<=400)):=λk hk=>DZ (Fh hg ho.1 (Jp (AO hk)));have HQ:Ϛ ((BF p s v fr B).length<=4096/\∀z∈BF p s v fr B,pl.i64 z.seq):=⟨Jo HG.o.2.1,λz f=>(HG.o.2.2 z (Jp f)).2.seq⟩;have HI:Ϛ (∀z∈Ab (Aj s (3 - v.side)),pl.i64 z.seq):=λz f=>(HG.o.2.2 z f).2.seq;have a0:Ϛ (∀e,toldOf p v e=if Ct p.mode (3 - v.side)=true/\e.met=false then [⟨3,AW p (3 - v.side) e.row⟩,⟨4,AX v.side v.row e.row⟩]else [⟨1,AX v.side v.row e.row⟩]):=λe=>rfl;have ac:Ϛ (pairT p v (BF p s v fr B)=(BF p s v fr B).flatMap (toldOf p v)++if (BF p s v fr B).isEmpty=true/\Ct p.mode v.side=true then [⟨1,AW p v.side v.row⟩]else []):=rfl;have cd:=h.bl;obtain⟨d,bv⟩:=nM (BF p s v fr B);rw[bv]at KW bo HQ ac⊢;obtain⟨PT,bw⟩:=nM (pairT p v d);rw[bw]at ac⊢;unfold B8 at KW⊢;obtain⟨kb,h1⟩:=nM (pl.Ar p v.side v.row);obtain⟨kh,h2⟩:=nM (pl.hasB p v.side v.row);obtain⟨rl,a7⟩:=nM v.row.length;have cc:=hqz a7;rw[h1,h2,a7]at KW⊢;rw[a7]at KJ bc
 obtain⟨A,bm⟩:=nM (3 - v.side);have cb:=hqz bm;rw[bm]at KO KA HI HG a0⊢;obtain⟨j,b2⟩:=nM v.side;obtain⟨md,a6⟩:=nM p.mode;have a8:Ϛ (∀w1 s y t L,JSt w0 w1 b T p x s y t L->Δ w1 b 1 (vI md)):=λw1 s y t L hj=>by rw[<-a6];exact hj.box.plan.2.1
 obtain⟨c1,bi⟩:=nM (Ct p.mode A);obtain⟨c2,bj⟩:=nM (Ct p.mode v.side);have bg:Ϛ (∀w1,CT 354 #[vI md,vI A] w1 λe w'=>e= .returned (.bool c1)/\w'=w1):=λw1=>by rw[<-bi,<-a6];exact KP.o A w1
 have bs:Ϛ (∀w1,CT 354 #[vI md,vI v.side] w1 λe w'=>e= .returned (.bool c2)/\w'=w1):=λw1=>by rw[<-bj,<-a6];exact KP.o v.side w1
 rw[bi]at a0;rw[bj]at ac;rw[b2]at KO KJ bc KW bs a0 ac⊢;obtain⟨b4,b3⟩:=nM v.time;rw[b3]at KW⊢;clear h hg hs hv he hp ho aq bv h1 h2 a7 bm a6 bi bj b2 b3 b1 KP bw;obtain⟨n,hn⟩:=nM d.length;have H:=hqz hn;have cj:n<=4096:=by rw[<-hn];exact HQ.o.1
 clear hn;go_enter func346,ntmps346;go_wp2_with (first
  |(go_at_call 348;refine(KO.o _).mono ?_;rintro e w2 ⟨rfl,rfl⟩)
  |(go_at_call 352;refine(KW.o _ ϧ).mono ?_;rintro e V ⟨⟨hh,Y,rfl,ho⟩,a3⟩;have q0:=cLz a3 (show Δ (ξ w #[vI j,vI b4,vS ra rl rc,.string kb,.bool kh] 208) w 0 (vI j) by go_simp);have q2:=cLz a3 (show Δ (ξ w #[vI j,vI b4,vS ra rl rc,.string kb,.bool kh] 208) w 2 (vS ra rl rc) by go_simp);have ba:Ϛ (Ae V w.heap.size 208):=Ad ⟨_,_,World.alloc_heap_new w _⟩ a3;have al:ϛ w V:=ϧ.trans (a3.mono Ϟ);have a9:Ϛ (OE V (w.heap.size+1) (hdV hh) Y d):=(by have:=ho;rw[World.size_alloc]at this;exact this);clear ho;have aw:Ϛ (hh.2.1=n):=(by show _=_;rw[<-H.o,<-a9.o.len];exact(Cx (p:=(hh,Y)) a9.o).1.1);obtain⟨g1,Z,g3⟩:=hh;have b9:Z=n:=aw.o;subst b9;unfold hdV;dsimp only))
 go_loopw [24] (λi wr=> ∃(k:Nat) (J:Value) (m:List CO),k<=Z/\i=vI k/\Ϛ (JSt w0 wr b T p x s y J m)/\Ϛ (m.map CO.chg=(d.take k).flatMap (toldOf p v))/\m.length<=2 * k/\Ϛ (BD T V wr)) (λi _=>Z - (intOf i).toNat)
 case atStart=>exact⟨0,_,[],Nat.zero_le _,rfl,HJ.o.below al,rfl,Nat.le_refl _,BD.refl _ _⟩
 case round=>
  obtain⟨k,J,m,hk,rfl,N,av,ci,P⟩:=hrel;have q0:=P.o.cell ba.o bh.symm ϝ q0;have q2:=P.o.cell ba.o bh.symm ϝ q2;have ay:Ϛ (Ae wr w 208):=P.o.ty ba.o bh.symm ϝ;have ax:Ϛ (OE wr (w.heap.size+1) (hdV (g1,Z,g3)) Y d):=P.o.oe hT a9.o;have m1:=a8.o _ _ _ _ _ N.o;have lq:w.heap.size<wr.heap.size:=bLt _ _ q0;have lb:b<wr.heap.size:=N.o.box.lt;by_cases ca:k<Z
  ·have a5:k<d.length:=by rw[H.o];exact ca
   obtain⟨gb,cm,ea,x1,x2,x3,x4,x5⟩:=(Cx (p:=((g1,Z,g3),Y)) ax.o).2 k (by rw[ax.o.len];exact a5);dsimp only at ea;subst ea;have ae:=ax.o.ers.2 k a5;have af:=bo.o k a5;have az:Ϛ ((d.take (k+1)).flatMap (toldOf p v)=(d.take k).flatMap (toldOf p v)++toldOf p v (d.getD k default)):=Hm (toldOf p v) a5;have G:=a0.o (d.getD k default);obtain⟨E,hE⟩:=nM (d.getD k default);rw[hE]at ae af az G;obtain⟨⟨ek,et,a1,⟨I,r2,U⟩,em⟩,f⟩:∃z,Y.getD k default=z:=⟨_,rfl⟩;rw[f]at x1 x2 x3 x4 x5 ae;unfold hdV at x4;dsimp only at x1 x2 x3 x4 x5;have bz:em=E.met:=ae.met;have bn:r2=E.row.length:=ae.len;have bq:Ϛ (vl.rowAt wr I E.row):=ae.row;have ai:Ϛ (∀w1,ϛ wr w1->CT 353 (ν j ra rl rc I r2 U) w1 λe w'=>(∃C D,e= .returned (vS C (AX j v.row E.row).length D)/\AA w' w1 (vS C (AX j v.row E.row).length D) (AX j v.row E.row))/\ϛ w1 w'):=λw1 u=>by rw[bn];exact KJ.o E.row I U w1 af.1 af.2 (N.o.bl.trans (u.mono N.o.bl.size)) (vl.Ac bq.o u)
   have be:Ϛ (∀w1,ϛ wr w1->CT 356 #[μ b,vI A,vS I r2 U] w1 λe w'=>(∃C D,e= .returned (vS C (AW p A E.row).length D)/\AA w' w1 (vS C (AW p A E.row).length D) (AW p A E.row))/\ϛ w1 w'):=λw1 u=>by rw[bn];exact KA.o E.row I U w1 af.1 af.2 (Ak N.o.box.plan u) (vl.Ac bq.o u)
   obtain⟨W,bu⟩:=nM (AX j v.row E.row);obtain⟨AR,aj⟩:=nM (AW p A E.row);rw[bu]at ai G;rw[aj]at be G;obtain⟨jn,b0⟩:=nM W.length;obtain⟨an,ak⟩:=nM AR.length;rw[b0]at ai;rw[ak]at be;rw[<-bz]at G;have i1:(0:Int)<=(k:Int):=Ϝ;have i2:(k:Int)<(Z:Int):=Ϝ;have br:Ϛ (toldOf p v E=if c1=true/\em=false then [⟨3,AR⟩,⟨4,W⟩]else [⟨1,W⟩]):=G;clear ae af hE f bz bn bu aj b0 ak G;have ao:m.length<=1000000:=Ϝ;by_cases a4:c1=true/\em=false
   ·obtain⟨e1,e2⟩:=a4;have G:Ϛ (toldOf p v E=[⟨3,AR⟩,⟨4,W⟩]):=by show _=_;rw[br.o,if_pos ⟨e1,e2⟩]
    subst e1 e2;go_wp2_with (first
     |(go_at_call 353;refine(ai.o _ ϧ).mono ?_;rintro e w5 ⟨⟨C,D,rfl,ap⟩,Q⟩;have F:ϛ wr w5:=ϧ.trans (Q.mono Ϟ);have z3:=cLz Q (show Δ (ξ wr (ζ ek et a1 I r2 U false) 166) wr 3 (vS I r2 U) by go_simp);have z4:=cLz Q (show Δ (ξ wr (ζ ek et a1 I r2 U false) 166) wr 4 (.bool false) by go_simp);have m5:=cLz F m1;have ah:Ϛ (AA w5 wr.heap.size (vS C jn D) W):=World.ownsRow.mono ap Ϟ)
     |(go_at_call 354;refine(bg.o _).mono ?_;rintro e w6 ⟨rfl,rfl⟩)
     |(go_at_call 356;refine(be.o _ F).mono ?_;rintro e w7 ⟨⟨b5,b6,rfl,bk⟩,a2⟩)
     |(go_at_call 355;refine(O6 N.o hT ao F ah.o a2 bk).mono ?_;rintro e w8 ⟨rfl,t8,aa,ab⟩))
    go_roundw
    case rel=>exact⟨k+1,t8,_,Ϝ,by go_num,aa,by show _=_;rw[map_append,av.o,az.o,G.o];rfl,by rw[lAp];show _+2<=_;omega,P.o.trans ((B4 (bT F a2)).trans ab)⟩
    case measure=>simp[intOf];omega
   ·have G:Ϛ (toldOf p v E=[⟨1,W⟩]):=by show _=_;rw[br.o,if_neg a4]
    have b7:c1=false\/(c1=true/\em=true):=by
     cases c1<;>cases em<;>simp at a4⊢
    clear a4;rcases b7 with e1|⟨e1,e2⟩
    ·subst e1;go_wp2_with (first
      |(go_at_call 353;refine(ai.o _ ϧ).mono ?_;rintro e w5 ⟨⟨C,D,rfl,ap⟩,Q⟩;have F:ϛ wr w5:=ϧ.trans (Q.mono Ϟ);have z4:=cLz Q (show Δ (ξ wr (ζ ek et a1 I r2 U em) 166) wr 4 (.bool em) by go_simp);have m5:=cLz F m1;have ah:Ϛ (AA w5 wr.heap.size (vS C jn D) W):=World.ownsRow.mono ap Ϟ)
      |(go_at_call 354;refine(bg.o _).mono ?_;rintro e w6 ⟨rfl,rfl⟩)
      |(go_at_call 357;refine(E7 N.o hT ao F ah.o).mono ?_;rintro e w8 ⟨rfl,t8,aa,ab⟩))
     go_roundw
     case rel=>exact⟨k+1,t8,_,Ϝ,by go_num,aa,by show _=_;rw[map_append,av.o,az.o,G.o];rfl,by rw[lAp];show _+1<=_;omega,P.o.trans ((B4 F).trans ab)⟩
     case measure=>simp[intOf];omega
    ·subst e1 e2;go_wp2_with (first
      |(go_at_call 353;refine(ai.o _ ϧ).mono ?_;rintro e w5 ⟨⟨C,D,rfl,ap⟩,Q⟩;have F:ϛ wr w5:=ϧ.trans (Q.mono Ϟ);have z4:=cLz Q (show Δ (ξ wr (ζ ek et a1 I r2 U true) 166) wr 4 (.bool true) by go_simp);have m5:=cLz F m1;have ah:Ϛ (AA w5 wr.heap.size (vS C jn D) W):=World.ownsRow.mono ap Ϟ)
      |(go_at_call 354;refine(bg.o _).mono ?_;rintro e w6 ⟨rfl,rfl⟩)
      |(go_at_call 357;refine(E7 N.o hT ao F ah.o).mono ?_;rintro e w8 ⟨rfl,t8,aa,ab⟩))
     go_roundw
     case rel=>exact⟨k+1,t8,_,Ϝ,by go_num,aa,by show _=_;rw[map_append,av.o,az.o,G.o];rfl,by rw[lAp];show _+1<=_;omega,P.o.trans ((B4 F).trans ab)⟩
     case measure=>simp[intOf];omega
  ·have b8:k=Z:=Ϝ;subst b8;have cf:¬((k:Int)<(k:Int)):=Ϝ;have aw:Ϛ (m.map CO.chg=d.flatMap (toldOf p v)):=by
    show _=_;rw[av.o,<-H.o,take_length]
   have ao:m.length<=1000000:=Ϝ;have KM:Ϛ (CT 358 #[μ b,vI A,vS g1 k g3] wr λe w'=>e= .returned (.tuple #[])/\∃M,JSt w0 w' b T p x (A7 s A (C0 (d.map (·.seq)) (Aj s A))) M J m/\IU wr w'):=RA b T p x s y J m A (g1,k,g3) Y d (w.heap.size+1) w0 wr N.o hT HG.o.2.1 HI.o ax.o (by have:=HQ.o.1;omega) HQ.o.2;have cg:¬((k:Int)<(k:Int)):=Ϝ;by_cases f:k=0
   ·have ag:Ϛ (PT=if c2=true then [⟨1,AW p j v.row⟩]else []):=by
     show _=_;have:d=[]:=length_eq_zero_iff.1 (by rw[H.o,f]);rw[ac.o,this];simp
    have ar:Ϛ ((!d.isEmpty)=false):=by
     show _=_;have:d=[]:=length_eq_zero_iff.1 (by rw[H.o,f]);rw[this];rfl
    have bp:Ϛ (m.map CO.chg=[]):=by
     show _=_;have:d=[]:=length_eq_zero_iff.1 (by rw[H.o,f]);rw[aw.o,this];rfl
    subst f;go_wp2_with (go_at_call 358;refine KM.o.mono ?_;rintro e X ⟨rfl,M,am,R⟩;have O:Ϛ (JSt w0 X b T p x (A7 s A (C0 (d.map (·.seq)) (Aj s A))) M J m):=am;have n0:=R.cell ay.o ϝ q0;have n2:=R.cell ay.o ϝ q2;have nm:=a8.o _ _ _ _ _ O.o;have bb:Ϛ (∀w',ϛ X w'->Δ w' b 1 (vI md)/\Δ w' w 0 (vI j)):=λw' f=>⟨cLz f nm,cLz f n0⟩;have au:Ϛ (Bo T w X):=((Aw al).trans P.o.m).trans R.m;clear am R);refine gr.CP 13 rfl ϟ (S:=λw'=>Δ w' b 1 (vI md)/\Δ w' w 0 (vI j)) (bb.o _ bR.drew) (λc=>?_);refine tkz 0 63 c ?_;refine tkz 1 64 c ?_;refine tkz 2 65 c ?_;refine tkz 3 66 c ?_;refine tkz 4 67 c ?_;refine tkz 5 68 c ?_;refine tkz 6 69 c ?_;refine tkz 7 70 c ?_;refine tkz 8 71 c ?_;refine tkz 9 72 c ?_;refine tkz 10 73 c ?_;refine rD 11 λK hK=>?_;go_simp;go_at_call 354;refine(bs.o _).mono ?_;rintro e wk ⟨rfl,rfl⟩;go_wp2_with fail;refine hK.out _ _ c (λc=>?_);clear hK K
    try simp only[Act.put,sI,sZ,sS]
    refine tkz 12 75 c ?_;refine wpAnyH_done ϟ ?_ _
    cases c2 with
    |true=>
     have bd:Ϛ (∀w1,ϛ X w1->CT 356 #[μ b,vI j,vS ra rl rc] w1 λe w'=>(∃C D,e= .returned (vS C (AW p j v.row).length D)/\AA w' w1 (vS C (AW p j v.row).length D) (AW p j v.row))/\ϛ w1 w'):=λw1 u=>bc.o w1 (Ak O.o.box.plan u) (O.o.bl.trans (u.mono O.o.bl.size));obtain⟨AR,aj⟩:=nM (AW p j v.row);rw[aj]at bd ag;obtain⟨an,ak⟩:=nM AR.length;rw[ak]at bd;clear aj ak;go_wp2_with (first
      |(go_at_call 356;refine(bd.o _ bR.drew).mono ?_;rintro e w7 ⟨⟨b5,b6,rfl,bk⟩,a2⟩;have bx:ϛ X w7:=bR.drew.trans a2)
      |(go_at_call 357;refine(E7 O.o hT ao bx bk).mono ?_;rintro e w8 ⟨rfl,t8,aa,ab⟩))
     go_ret;exact⟨Aa ar.o.symm,M,t8,_,aa,by rw[map_append,bp.o,ag.o];rfl,au.o.trans ((Aw bx).trans ab.m)⟩
    |false=>
     go_wp2;go_ret;exact⟨Aa ar.o.symm,M,J,m,O.o.below bR.drew,by rw[bp.o,ag.o];rfl,au.o.trans (Aw bR.drew)⟩
   ·have ag:Ϛ (PT=d.flatMap (toldOf p v)):=by
     show _=_;have:d.isEmpty=false:=by
      cases hP:d with
      |nil=>rw[hP]at H;exact absurd H.o.symm f
      |cons a l=>rfl
     rw[ac.o,this];simp
    have ar:Ϛ ((!d.isEmpty)=true):=by
     show _=_
     cases hP:d with
     |nil=>rw[hP]at H;exact absurd H.o.symm f
     |cons a l=>rfl
    have ck:((k:Int)==0)=false:=by
     rw[beq_eq_false_iff_ne];omega
    have cl:(0:Int)<(k:Int):=Ϝ;go_wp2_with (go_at_call 358;refine KM.o.mono ?_;rintro e X ⟨rfl,M,am,R⟩;have O:Ϛ (JSt w0 X b T p x (A7 s A (C0 (d.map (·.seq)) (Aj s A))) M J m):=am;have n0:=R.cell ay.o ϝ q0;have n2:=R.cell ay.o ϝ q2;have nm:=a8.o _ _ _ _ _ O.o;have bb:Ϛ (∀w',ϛ X w'->Δ w' b 1 (vI md)/\Δ w' w 0 (vI j)):=λw' f=>⟨cLz f nm,cLz f n0⟩;have au:Ϛ (Bo T w X):=((Aw al).trans P.o.m).trans R.m;clear am R);refine gr.CP 13 rfl ϟ (S:=λw'=>Δ w' b 1 (vI md)/\Δ w' w 0 (vI j)) (bb.o _ bR.drew) (λc=>?_);refine tkz 0 63 c ?_;refine tkz 1 64 c ?_;refine tkz 2 65 c ?_;refine tkz 3 66 c ?_;refine sk 4 67 c ?_;refine sk 5 68 c ?_;refine sk 6 69 c ?_;refine sk 7 70 c ?_;refine sk 8 71 c ?_;refine sk 9 72 c ?_;refine sk 10 73 c ?_;refine sk 11 74 c ?_;refine tkz 12 75 c ?_;refine wpAnyH_done ϟ ?_ _;go_wp2;go_ret;exact⟨Aa (by rw[ar.o];simp;omega),M,J,m,O.o.below bR.drew,by rw[aw.o,ag.o],au.o.trans (Aw bR.drew)⟩
theorem Jj(h:Bp w b p x)(D:13<=k)(u:Value):Bp (φ w b k u) b p x:=by
 obtain⟨a,c,l,m,n,q,z,A,B,C,d,f,j⟩:=h;exact⟨cell_far a Ϝ,cell_far c Ϝ,cell_far l Ϝ,cell_far m Ϝ,cell_far n Ϝ,cell_far q Ϝ,cell_far z Ϝ,cell_far A Ϝ,cell_far B Ϝ,cell_far C Ϝ,cell_far d Ϝ,cell_far f Ϝ,cell_far j Ϝ⟩
theorem Jk{n:Nat}(h:w.there b 0 n)(q:Nat)(u:Value):(w.setCell ⟨q,k,none⟩ u).there b 0 n:=λj a=>⟨by
 obtain⟨v,c⟩:=Option.isSome_iff_exists.1 (h j a).1;obtain⟨f,d⟩:=cell?_setCell_some (p:=⟨q,k,none⟩) (x:=u) c;rw[d];rfl,by rw[World.frozen?_setCell];exact(h j a).2⟩
theorem Xi(h:boxC w b p x s y t)(n:Int):boxC (φ w b 21 (vI n)) b p x ⟨s.L,s.R,s.lm,s.rm,n⟩ y t:=by
 refine⟨Jj h.plan Ϝ _,?_,cell_far h.told Ϝ,Jk h.room _ _⟩;obtain⟨u0,u1,u2,u3,u4,u5,u6,u7,u8⟩:=h.join;exact⟨cell_far u0 Ϝ,cell_far u1 Ϝ,cell_far u2 Ϝ,cell_far u3 Ϝ,cell_far u4 Ϝ,cell_far u5 Ϝ,cell_far u6 Ϝ,cell_far u7 Ϝ,World.cell?_setCell_same _ _ _ u8⟩
def Kx(y:JX)(side:Int)(z:BX):JX:=if side=2 then⟨y.l,z⟩else⟨z,y.r⟩
theorem BH(h:Δ w b i v)(a:k≠i)(c:k+1≠i)(d:k+1+1≠i)(u0 u1 u2:Value):Δ (φ (φ (φ w b k u0) b (k+1) u1) b (k+1+1) u2) b i v:=cell_far (cell_far (cell_far h a) c) d
theorem Tn(h:Δ w b k v)(u0 u1 u2:Value):Δ (φ (φ (φ w b k u0) b (k+1) u1) b (k+1+1) u2) b k u0:=cell_far (cell_far (World.cell?_setCell_same _ _ _ h) Ϝ) Ϝ
theorem To(h:Δ w b (k+1) v)(u0 u1 u2:Value):Δ (φ (φ (φ w b k u0) b (k+1) u1) b (k+1+1) u2) b (k+1) u1:=cell_far (World.cell?_setCell_same _ _ _ (cell_far h Ϝ)) Ϝ
theorem Tp(h:Δ w b (k+1+1) v)(u0 u1 u2:Value):Δ (φ (φ (φ w b k u0) b (k+1) u1) b (k+1+1) u2) b (k+1+1) u2:=World.cell?_setCell_same _ _ _ (cell_far (cell_far h Ϝ) Ϝ)
theorem Xj(h:boxC w b p x s y t)(side:Int)(B:Buf)(X:BX)(k:Nat)(a:13+Au side=k):boxC (φ (φ (φ w b k (vI B.lim)) b (k+1) (hdV X.m.1)) b (k+1+1) (vS X.ra X.rs.length X.rc)) b p x (A7 s side B) (Kx y side X) t:=by
 have c:Au side=0\/Au side=3:=by unfold Au;split<;>simp
 refine⟨Jj (Jj (Jj h.plan Ϝ _) Ϝ _) Ϝ _,?_,BH h.told Ϝ Ϝ Ϝ _ _ _,Jk (Jk (Jk h.room _ _) _ _) _ _⟩;obtain⟨u0,u1,u2,u3,u4,u5,u6,u7,u8⟩:=h.join;unfold Au at a;unfold A7 Kx;by_cases e:side=2
 ·rw[if_pos e]at a;subst a;rw[if_pos e,if_pos e];refine⟨BH u0 Ϝ Ϝ Ϝ _ _ _,BH u1 Ϝ Ϝ Ϝ _ _ _,BH u2 Ϝ Ϝ Ϝ _ _ _,Tn u3 _ _ _,To u4 _ _ _,Tp u5 _ _ _,BH u6 Ϝ Ϝ Ϝ _ _ _,BH u7 Ϝ Ϝ Ϝ _ _ _,BH u8 Ϝ Ϝ Ϝ _ _ _⟩
 ·rw[if_neg e]at a;subst a;rw[if_neg e,if_neg e];refine⟨Tn u0 _ _ _,To u1 _ _ _,Tp u2 _ _ _,BH u3 Ϝ Ϝ Ϝ _ _ _,BH u4 Ϝ Ϝ Ϝ _ _ _,BH u5 Ϝ Ϝ Ϝ _ _ _,BH u6 Ϝ Ϝ Ϝ _ _ _,BH u7 Ϝ Ϝ Ϝ _ _ _,BH u8 Ϝ Ϝ Ϝ _ _ _⟩
theorem El{q:Nat}(h:Δ w q i v)(a:b≠q)(u0 u1 u2:Value):Δ (φ (φ (φ w b k u0) b (k+1) u1) b (k+1+1) u2) q i v:=
 have ne:∀j,(⟨b,j,none⟩:Addr)≠⟨q,i,none⟩:=λj e=>a (by injection e)
 ((World.cell?_setCell_other _ _ _ _ (ne _)).trans ((World.cell?_setCell_other _ _ _ _ (ne _)).trans (World.cell?_setCell_other _ _ _ _ (ne _)))).trans h
theorem RO{q:Addr}(h:w.frozen? q=false)(u0 u1 u2:Value):(((w.setCell ⟨b,k,none⟩ u0).setCell ⟨b,k+1,none⟩ u1).setCell ⟨b,k+1+1,none⟩ u2).frozen? q=false:=by
 rw[World.frozen?_setCell,World.frozen?_setCell,World.frozen?_setCell];exact h
theorem ND(s:Jn)(side:Int)(B:Buf):(A7 s side B).lm=s.lm/\(A7 s side B).rm=s.rm/\(A7 s side B).seq=s.seq:=by unfold A7;split<;>exact⟨rfl,rfl,rfl⟩
theorem Ea(h:Ae w b T)(k:Nat)(u:Value):Bo T w (φ w b k u):=⟨(Below.refl 0 w).setCell (Nat.zero_le _) u,λg e d c _ _=>heap_setCell_other _ _ _ _ (λa=>tyAt_apart d h c a)⟩
theorem Fi(h:Ae w b T)(k:Nat)(u0 u1 u2:Value):Bo T w (φ (φ (φ w b k u0) b (k+1) u1) b (k+1+1) u2):=
 ((Ea h _ _).trans (Ea (Ai h _ _) _ _)).trans (Ea (Ai (Ai h _ _) _ _) _ _)
theorem Jl(h:CG w base v L)(c:Ae w b T)(a:calmC T)(k:Nat)(u:Value):CG (φ w b k u) base v L:=MG h c a.c a.t.v k u
theorem RQ(h:JSt w0 w b T p x s y t L)(a:calmC T)(n:Int):JSt w0 (φ w b 21 (vI n)) b T p x ⟨s.L,s.R,s.lm,s.rm,n⟩ y t L:=
 ⟨Xi h.box n,Ai h.ty _ _,h.up,Fq h.l h.ty a.t _ _,Fq h.r h.ty a.t _ _,h.ap,Jl h.cg h.ty a _ _,h.bl.setCell h.up _⟩
theorem Zc(h:JSt w0 w b T p x s y t L)(c:calmC T)(side a:Int):JSt w0 (φ w b (13+B7 side) (vI a)) b T p x (DN s side a) y t L:=by
 have e:(DN s side a).L=s.L/\(DN s side a).R=s.R:=by unfold DN;split<;>exact⟨rfl,rfl⟩
 exact⟨Vf h.box side a,Ai h.ty _ _,h.up,by rw[e.1];exact Fq h.l h.ty c.t _ _,by rw[e.2];exact Fq h.r h.ty c.t _ _,h.ap,Jl h.cg h.ty c _ _,h.bl.setCell h.up _⟩
theorem O7{d:Ϙ}(h:JSt w0 w b T p x s y t L)(c:calmC T)(G:ϛ w d)(side:Int){B:Buf}{X:BX}(m:OB d base X B)(l:w.heap.size<=base)(k:Nat)(H:13+Au side=k):
 JSt w0 (φ (φ (φ d b k (vI B.lim)) b (k+1) (hdV X.m.1)) b (k+1+1) (vS X.ra X.rs.length X.rc)) b T p x (A7 s side B) (Kx y side X) t L:=by
 have a:=h.below G;have u:=a.ty;have z:=Ai u ⟨b,k,none⟩ (vI B.lim);have j:=Ai z ⟨b,k+1,none⟩ (hdV X.m.1);have n:∀{A:Nat} {Z:BX} {C:Buf},OB d A Z C->OB (φ (φ (φ d b k (vI B.lim)) b (k+1) (hdV X.m.1)) b (k+1+1) (vS X.ra X.rs.length X.rc)) A Z C:=λM=>Fq (Fq (Fq M u c.t _ _) z c.t _ _) j c.t _ _;have I:w0.heap.size<=base:=Nat.le_trans h.bl.size l;have F:=n (Ci m I);have E:=Jl (Jl (Jl a.cg u c k (vI B.lim)) z c (k+1) (hdV X.m.1)) j c (k+1+1) (vS X.ra X.rs.length X.rc);have D:=((a.bl.setCell (p:=⟨b,k,none⟩) h.up (vI B.lim)).setCell (p:=⟨b,k+1,none⟩) h.up (hdV X.m.1)).setCell (p:=⟨b,k+1+1,none⟩) h.up (vS X.ra X.rs.length X.rc);have f:=Xj a.box side B X k H;unfold A7 Kx at *;by_cases e:side=2
 ·rw[if_pos e,if_pos e]at f;rw[if_pos e,if_pos e];exact⟨f,Ai j _ _,h.up,n a.l,F,M7 h.l m l,E,D⟩
 ·rw[if_neg e,if_neg e]at f;rw[if_neg e,if_neg e];exact⟨f,Ai j _ _,h.up,F,n a.r,λp J q K=>LJ (M7 h.r m l q K p J),E,D⟩
def Ib(p:pl.Pln)(s:Jn):Nat->Jn
 |0=>s
 |1=>⟨CF (D6 (Cw p s 1)) s.L,s.R,s.lm,s.rm,s.seq⟩
 |_=>Fs p s
theorem Xk(h:k<2):pl.Bf ((k:Int)+1)=true/\Aj (Ib p s k) ((k:Int)+1)=Aj s ((k:Int)+1)/\Cw p (Ib p s k) ((k:Int)+1)=Cw p s ((k:Int)+1)/\A7 (Ib p s k) ((k:Int)+1) (CF (D6 (Cw p s ((k:Int)+1))) (Aj s ((k:Int)+1)))=Ib p s (k+1):=by
 match k,h with
 |0,_=>exact⟨ϝ,rfl,rfl,rfl⟩
 |1,_=>exact⟨ϝ,rfl,rfl,rfl⟩
theorem Is(b:Nat)(T:TypeId)(p:pl.Pln)(x:pl.PA)(s:Jn)(y:JX)(t:Value)(L:List CO)(w0 w:Ϙ)(h:JSt w0 w b T p x s y t L)(hT:calmC T)(aj:T≠3)(hw:pl.wfPlan p)(hp:pl.planAt w0 p x)(hg:goodJ p s):
 η 338 #[μ b] w λe w'=>e= .returned (.tuple #[])/\∃j,JSt w0 w' b T p x (Fs p s) j t L/\Bo T w w':=by
 have HJ:=hqz h;have HG:=hqz hg;have ai:Ϛ (pl.wfPlan p/\pl.planAt w0 p x):=⟨hw,hp⟩;clear h hg hw hp;go_enter func338,ntmps338;go_wp2;generalize H:(World.alloc w _)=V;have ak:ϛ w V:=by rw[<-H];exact ϧ
 have M:Δ V w 0 (vI 1):=by subst H;go_simp
 have N:Δ V w 1 (vI 2):=by subst H;go_simp
 have ah:Ϛ (Ae V w 3):=by subst H;exact⟨_,_,World.alloc_heap_new w _⟩
 clear H
 go_loopw [7] (λi wr=> ∃(k:Nat) (j:JX),k<=2/\i=vI k/\Ϛ (JSt w0 wr b T p x (Ib p s k) j t L)/\Ϛ (Bo T V wr)) (λi _=>2 - (intOf i).toNat)
 case atStart=>exact⟨0,y,Ϝ,rfl,HJ.o.below ak,Aw bR⟩
 case round=>
  obtain⟨k,j,hk,rfl,f,F⟩:=hrel;have M:=F.o.cell ah.o aj.symm ϝ ϝ M;have N:=F.o.cell ah.o aj.symm ϝ ϝ N;by_cases an:k<2
  ·have i1:(0:Int)<=(k:Int):=Ϝ;have i2:(k:Int)<2:=Ϝ;have ac:Δ wr w k (vI ((k:Int)+1)):=by
    match k,an with
    |0,_=>exact M
    |1,_=>exact N
   clear M N;obtain⟨d1,O,d3,d4⟩:=Xk (p:=p) (s:=s) an;obtain⟨m,ad⟩:=nM (CF (D6 (Cw p s ((k:Int)+1))) (Aj s ((k:Int)+1)));rw[ad]at d4;have P:=HG.o.of ((k:Int)+1);have z:bufAt wr (Aj s ((k:Int)+1)) (Br j ((k:Int)+1)):=by
    rw[<-O];unfold Aj Br;split
    ·exact f.o.r.at
    ·exact f.o.l.at
   have E:=E8 f.o.box.join ((k:Int)+1);rw[O]at E;have J:Ϛ (∀w1,ϛ wr w1->CT 344 #[μ b,vI ((k:Int)+1)] w1 (θ w1 (vI (Cw p s ((k:Int)+1))))):=λw1 D=>by
    have:=IK b p x (Ib p s k) j t ((k:Int)+1) w1 ai.o.1 (pl.Ag ai.o.2 (f.o.bl.trans (D.mono f.o.bl.size))) (f.o.below D).box d1;rw[d3]at this;exact this
   have KB:Ϛ (∀w1,CT 252 #[.pointer (some ⟨b,13,none⟩),vI ((k:Int)+1)] w1 λe w'=>e= .returned (.pointer (some ⟨b,13+Au ((k:Int)+1),none⟩))/\w'=w1):=λw1=>Fp b 13 _ w1;have B:Ϛ (∀w1,ϛ wr w1->CT 343 #[AY (Aj s ((k:Int)+1)) (Br j ((k:Int)+1)),vI (Cw p s ((k:Int)+1))] w1 λe w'=>(∃X,e= .returned (.tuple #[AY m X,ω])/\OB w' w1 X m)/\ϛ w1 w'):=λw1 D=>by
    have:=Y7 (Aj s ((k:Int)+1)) (Br j ((k:Int)+1)) (Cw p s ((k:Int)+1)) w1 (Al z D) P.2 (by have:=P.1.all;omega) (DX P.1);rw[ad]at this;exact this
   have C:Ϛ (∀w1,ϛ wr w1->∀i,i<23->Ξ w1 b i):=λw1 D i hi=>by
    have:=((f.o.below D).box.room i hi).2;simpa using this
   have ao:Au ((k:Int)+1)=0\/Au ((k:Int)+1)=3:=by unfold Au;split<;>simp
   obtain⟨q,hq⟩:=nM (13+Au ((k:Int)+1));have aa:=hqz hq;have au:13<=q/\q<=16:=Ϝ;obtain⟨G,hG⟩:=nM (Cw p s ((k:Int)+1));obtain⟨bo,al⟩:=nM (Aj s ((k:Int)+1));obtain⟨bx,am⟩:=nM (Br j ((k:Int)+1));obtain⟨I,Q⟩:=nM ((k:Int)+1);have ag:Ϛ (A7 (Ib p s k) I m=Ib p s (k+1)):=by show _=_;rw[<-Q];exact d4
   have aq:=hqz Q;rw[hG]at J B;rw[al,am]at B E;rw[hq]at KB E;rw[Q]at J KB aa ac;obtain⟨ax,ay,⟨⟨m1,m2,m3⟩,ml⟩,rs⟩:=bx;obtain⟨av,aw,az⟩:=bo;unfold AY hdV at B;dsimp only at B E;obtain⟨n,hn⟩:=nM rs.length;rw[hn]at B E;obtain⟨R,U,W⟩:=E;have lb:b<wr.heap.size:=f.o.box.lt;clear d1 O d3 d4 ad P z ao hq hG al am hn Q;go_wp2_with (go_at_call 252;refine(KB.o _).mono ?_;rintro e wr ⟨rfl,rfl⟩);refine gr.CP 13 rfl ϟ (S:=λ_=>True) trivial (λc=>?_);refine tkz 0 17 c ?_;refine tkz 1 18 c ?_;refine tkz 2 19 c ?_;refine tkz 4 21 c ?_;refine tkz 5 22 c ?_;refine wpAnyH_ready (rs:=[3,6]) ϟ Ϟ ?_;refine AllReadyH.cons rfl (λK a=>?_) (AllReadyH.cons rfl (λK a=>?_) AllReadyH.nil)
   ·go_simp;refine a.out _ _ trivial (λc=>?_);clear a K
    try simp only[Act.put,sI,sZ,sS]
    refine rD 6 λK a=>?_;go_simp;go_at_call 344;refine(J.o _ bR.drew).mono ?_;rintro e wg ⟨rfl,ae⟩;have l:ϛ wr wg:=bR.drew.trans ae;go_wp2_with fail;refine a.out _ _ trivial (λc=>?_);clear a K
    try simp only[Act.put,sI,sZ,sS]
    refine rD 7 λK a=>?_;go_simp;go_at_call 343;refine(B.o _ l).mono ?_;rintro e u ⟨⟨X,rfl,z⟩,af⟩;have d:ϛ wr u:=bT l af;go_wp2_with fail;refine a.out _ _ trivial (λc=>?_);clear a K
    try simp only[Act.put,sI,sZ,sS]
    refine tkz 8 16 c ?_;refine tkz 9 25 c ?_;refine tkz 10 26 c ?_;refine tkz 11 27 c ?_;have Z:Ϛ (OB u wr X m):=Ci z l.size;have f0:=C.o _ d q Ϝ;have f1:=C.o _ d (q+1) Ϝ;have f2:=C.o _ d (q+1+1) Ϝ;have e0:=cLz d R;have e1:=cLz d U;have e2:=cLz d W;clear z;refine rD 12 λK a=>?_;go_simp;refine a.out _ _ trivial (λc=>?_);clear a K;refine wpAnyH_done ϟ ?_ _;have Y:Ϛ (Bo T wr (φ (φ (φ u b q (vI m.lim)) b (q+1) (vS X.m.1.1 X.m.1.2.1 X.m.1.2.2)) b (q+1+1) (vS X.ra X.rs.length X.rc))):=(Aw d).trans (Fi (f.o.below d).ty q _ _ _);have A:=O7 f.o hT d I Z.o nR q aa.o;unfold hdV at A;generalize (((u.setCell ⟨b,q,none⟩ (vI m.lim)).setCell ⟨b,q+1,none⟩ (vS X.m.1.1 X.m.1.2.1 X.m.1.2.2)).setCell ⟨b,q+1+1,none⟩ (vS X.ra X.rs.length X.rc))=W4 at *;have ab:Ϛ (JSt w0 W4 b T p x (Ib p s (k+1)) (Kx j I X) t L):=by
     show JSt _ _ _ _ _ _ _ _ _ _;rw[<-ag.o];exact A
    clear A;go_wp2;go_roundw
    (case rel=>exact⟨k+1,_,Ϝ,by go_num,ab,F.o.trans Y.o⟩)
    (case measure=>simp[intOf];omega)
   ·go_simp;go_at_call 344;refine(J.o _ bR.drew).mono ?_;rintro e wg ⟨rfl,ae⟩;have l:ϛ wr wg:=bR.drew.trans ae;go_wp2_with fail;refine a.out _ _ trivial (λc=>?_);clear a K
    try simp only[Act.put,sI,sZ,sS]
    have d0:=cLz l R;have d1:=cLz l U;have O:=cLz l W;refine rD 3 λK a=>?_;go_simp;refine a.out _ _ trivial (λc=>?_);clear a K
    try simp only[Act.put,sI,sZ,sS]
    refine rD 7 λK a=>?_;go_simp;go_at_call 343;refine(B.o _ l).mono ?_;rintro e u ⟨⟨X,rfl,z⟩,af⟩;have d:ϛ wr u:=bT l af;go_wp2_with fail;refine a.out _ _ trivial (λc=>?_);clear a K
    try simp only[Act.put,sI,sZ,sS]
    refine tkz 8 16 c ?_;refine tkz 9 25 c ?_;refine tkz 10 26 c ?_;refine tkz 11 27 c ?_;have Z:Ϛ (OB u wr X m):=Ci z l.size;have f0:=C.o _ d q Ϝ;have f1:=C.o _ d (q+1) Ϝ;have f2:=C.o _ d (q+1+1) Ϝ;have e0:=cLz d R;have e1:=cLz d U;have e2:=cLz d W;clear z;refine rD 12 λK a=>?_;go_simp;refine a.out _ _ trivial (λc=>?_);clear a K;refine wpAnyH_done ϟ ?_ _;have Y:Ϛ (Bo T wr (φ (φ (φ u b q (vI m.lim)) b (q+1) (vS X.m.1.1 X.m.1.2.1 X.m.1.2.2)) b (q+1+1) (vS X.ra X.rs.length X.rc))):=(Aw d).trans (Fi (f.o.below d).ty q _ _ _);have A:=O7 f.o hT d I Z.o nR q aa.o;unfold hdV at A;generalize (((u.setCell ⟨b,q,none⟩ (vI m.lim)).setCell ⟨b,q+1,none⟩ (vS X.m.1.1 X.m.1.2.1 X.m.1.2.2)).setCell ⟨b,q+1+1,none⟩ (vS X.ra X.rs.length X.rc))=W4 at *;have ab:Ϛ (JSt w0 W4 b T p x (Ib p s (k+1)) (Kx j I X) t L):=by
     show JSt _ _ _ _ _ _ _ _ _ _;rw[<-ag.o];exact A
    clear A;go_wp2;go_roundw
    (case rel=>exact⟨k+1,_,Ϝ,by go_num,ab,F.o.trans Y.o⟩)
    (case measure=>simp[intOf];omega)
  ·have ap:k=2:=Ϝ;subst ap;have ar:¬(((2:Nat):Int)<2):=Ϝ;go_wp2;exact bodyPost_end (v:=.tuple #[]) (by simp[results,results338,go_sem]) rfl ⟨rfl,⟨j,f.o⟩,(Aw ak).trans F.o⟩
end jn
end Go.Proofs.YtfkihidbnfkbaaaGreatDoor
