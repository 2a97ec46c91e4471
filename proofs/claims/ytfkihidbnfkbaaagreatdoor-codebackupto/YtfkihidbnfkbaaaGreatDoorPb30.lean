import Derived.Test.YtfkihidbnfkbaaaGreatDoorPb26
set_option linter.all false
set_option maxHeartbeats 8000000
set_option maxRecDepth 100000
open Go.ChangeShapes Go.WideShapes Go.ChangeAt Go.RowKit List
namespace Go.Proofs.YtfkihidbnfkbaaaGreatDoor
open Go.Proofs.Tryz
namespace jn
open vl bf
attribute [local go_sem] Oper.semAt_some
theorem Zl{b:Buf}{y:Ent}{l:List Ent}(h:okB b)(i:bf.hasB (Ac b) (Bd y)=false)(k:l.Perm (b.mem++[y]))(g:N0 l):Hb b l=CK b y:=by
 unfold CK;have j:((b.mem++[y]).map Bd).Nodup:=by
  have f:(b.mem.map Bd).Nodup:=by
   have:=h.once;rw[D5,map_append]at this;exact(nodup_append.1 this).1
  rw[map_append];refine nodup_append.2 ⟨f,ϟ,λa ha c d e=>?_⟩;have d:c=Bd y:=by simpa using d
  subst d e;have:=T7 i;refine this ?_;rw[D5,map_append];exact mem_append.2 (.inl ha)
 rw[NM k g j]
theorem Cf(b:Nat)(T:TypeId)(p:pl.Pln)(x:pl.PA)(s:Jn)(y:JX)(t:Value)(L:List CO)(v:Ev)(l:Ϛ)(o:Nat)(met:Bool)(w0 w:ϙ)(h:JSt w0 w b T p x s y t L)(hT:calmC T)(hw:pl.wfPlan p)(hp:pl.planAt w0 p x)(Y:goodJ p s)(hc:comeJ p s v)(hv:evAt w0 v l):
 η 340 #[μ b,BE p v l o,.bool met] w λe d=>e= .returned (.tuple #[])/\∃y',JSt w0 d b T p x (Ef p s v met) y' t L/\Bz T w d:=by
 have R:=hqz h;have F:ϛ (∀c,Below (w.heap.size+1) (ξ w #[vI v.side,vI v.time,vS l v.row.length o,.string (pl.As p v.side v.row),.bool (pl.hasB p v.side v.row)] 208) c->CT 344 #[μ b,vI v.side] c (θ c (vI (C8 p s v.side)))):=λc u=>by
  have aw:Ϝ w c:=Ϩ.trans (u.mono (Nat.le_succ _));exact JJ b p x s y t v.side c hw (pl.Ae hp (h.bl.trans (aw.mono h.bl.size))) (h.below aw).box hc.side
 have KB:ϛ (∀c,CT 252 #[.pointer (some ⟨b,13,none⟩),vI v.side] c λe d=>e= .returned (.pointer (some ⟨b,13+Au v.side,none⟩))/\d=c):=λc=>FJ b 13 v.side c;have N:Au v.side=0\/Au v.side=3:=by unfold Au;split<;>simp
 have ab:ϛ (∀c,Ϝ w c->Δ c b (13+Au v.side) (vI (Ak s v.side).lim)/\Δ c b (13+Au v.side+1) (vS (B7 y v.side).m.1.1 (B7 y v.side).m.1.2.1 (B7 y v.side).m.1.2.2)/\Δ c b (13+Au v.side+2) (vS (B7 y v.side).ra (B7 y v.side).rs.length (B7 y v.side).rc)):=λc u=>Ff (h.below u).box.join v.side;have Q:ϛ (∀c,Ϝ w c->∀i,i<23->Ξ c b i):=λc u i hi=>by
  have:=((h.below u).box.room i hi).2;simpa using this
 have ah:ϛ (∀c,Ϝ w c->Δ c b 21 (vI s.seq)):=λc u=>(h.below u).box.join.2.2.2.2.2.2.2.2;have af:bufAt w (Ak s v.side) (B7 y v.side):=by
  unfold Ak B7;split
  ·exact h.r.at
  ·exact h.l.at
 have B:ϛ (pl.hasB p v.side v.row=true->C8 p s v.side<v.time->∀c,Ϝ w c->CT 345 #[AZ (Ak s v.side) (B7 y v.side),(⟨pl.As p v.side v.row,v.time,s.seq,(l,v.row.length,o),met⟩:EM).val] c λr d=>(∃X,r= .returned (.tuple #[AZ (CK (Ak s v.side) ⟨pl.As p v.side v.row,v.time,s.seq,v.row,met⟩) X,ω])/\OB d c X (CK (Ak s v.side) ⟨pl.As p v.side v.row,v.time,s.seq,v.row,met⟩))/\Ϝ c d):=λhh Z c u=>by
  obtain⟨hf,bm⟩:=QX (met:=met) hh hv.wf hc.time Y.ok.sq;have az:bf.hasB (Ac (Ak s v.side)) (pl.As p v.side v.row,v.time,s.seq)=false:=O1 (λz f=>Y.ok.below z (by
   unfold Ak at f;split at f
   ·exact mem_append.2 (.inr f)
   ·exact mem_append.2 (.inl f)))
  have ok:=(Y.of v.side).1;have bj:vl.rowAt c l v.row:=vl.Ab hv.row (h.bl.trans (u.mono h.bl.size));refine(AdF (Ak s v.side) (B7 y v.side) ⟨pl.As p v.side v.row,v.time,s.seq,(l,v.row.length,o),met⟩ ⟨pl.As p v.side v.row,v.time,s.seq,v.row,met⟩ c (An af u) (Y.of v.side).2 (by have:=ok.all;omega) (Ez ok) ⟨rfl,rfl,rfl,rfl,rfl,bj⟩ ⟨Nat.le_trans bm Ϟ,hv.wf,hv.len⟩ (Io hf) az hc.few).mono ?_;rintro r d ⟨⟨x',l',rfl,bi,bg,ho⟩,bd⟩;have e:=Zl (y:=⟨pl.As p v.side v.row,v.time,s.seq,v.row,met⟩) ok az bi bg;rw[e]at ho⊢;exact⟨⟨x',rfl,ho⟩,bd⟩
 have A:ϛ (Ef p s v met=if pl.hasB p v.side v.row=true/\C8 p s v.side<v.time then⟨(A7 s v.side (CK (Ak s v.side) ⟨pl.As p v.side v.row,v.time,s.seq,v.row,met⟩)).L,(A7 s v.side (CK (Ak s v.side) ⟨pl.As p v.side v.row,v.time,s.seq,v.row,met⟩)).R,s.lm,s.rm,s.seq+1⟩else⟨s.L,s.R,s.lm,s.rm,s.seq+1⟩):=by
  show _=_;unfold Ef;split
  ·unfold A7;split<;>rfl
  ·rfl
 have bk:=Y.ok.sq;have bn:IntKind.i64.wrap (s.seq+1)=s.seq+1:=by rw[ch.Co];omega
 have lb:=h.box.lt;obtain⟨KJ,au⟩:=nM (Ef p s v met);rw[au]at A⊢;obtain⟨C,av⟩:=nM (CK (Ak s v.side) ⟨pl.As p v.side v.row,v.time,s.seq,v.row,met⟩);rw[av]at A B;unfold BE;obtain⟨D,h1⟩:=nM (pl.As p v.side v.row);obtain⟨kh,h2⟩:=nM (pl.hasB p v.side v.row);obtain⟨E,a0⟩:=nM v.row.length;obtain⟨G,hG⟩:=nM (C8 p s v.side);obtain⟨P,a2⟩:=nM s.seq;rw[hG]at F A B;rw[h1,h2,a0]at F B⊢;rw[h2]at A;rw[a2]at ah bn B A bk;obtain⟨k,hk⟩:=nM (13+Au v.side);have al:=hqz hk;rw[hk]at KB ab;obtain⟨bo,ax⟩:=nM (Ak s v.side);obtain⟨bx,ay⟩:=nM (B7 y v.side);rw[ax,ay]at ab B;obtain⟨j,a1⟩:=nM v.side;obtain⟨q,a4⟩:=nM v.time;rw[a1]at F KB A al⊢;rw[a4]at F B A⊢;have bu:13<=k/\k<=16:=ϝ;obtain⟨bq,br,⟨⟨m1,m2,m3⟩,ml⟩,rs⟩:=bx;obtain⟨bp,bv,bw⟩:=bo;unfold AZ hdV EM.val at B;dsimp only at B ab;obtain⟨n,hn⟩:=nM rs.length;rw[hn]at B ab;clear h hw hp Y hc hv af au av h1 h2 a0 hG a2 hk ax ay a1 a4 hn N;go_enter func340,ntmps340;go_wp2;generalize H:(World.alloc w _)=V at F⊢;have M:Ϝ w V:=by rw[<-H];exact Ϩ
 have a5:V.heap.size=w.heap.size+1:=by rw[<-H];simp
 rw[<-a5]at F;obtain⟨m,I⟩:=nM w.heap.size;rw[I]at a5;have s0:Δ V m 0 (vI j):=by subst H;rw[<-I];go_simp
 have s1:Δ V m 1 (vI q):=by subst H;rw[<-I];go_simp
 have s2:Δ V m 2 (vS l E o):=by subst H;rw[<-I];go_simp
 have s3:Δ V m 3 (.string D):=by subst H;rw[<-I];go_simp
 have s4:Δ V m 4 (.bool kh):=by subst H;rw[<-I];go_simp
 clear H;have U:ϛ (∀d,Ϝ V d->ώ d m (vI j) (vI q) (vS l E o) (.string D) (.bool kh)):=λd f=>⟨cLz f s0,cLz f s1,cLz f s2,cLz f s3,cLz f s4⟩;rw[I]
 cases kh with
 |false=>
  refine gr.Ds 11 rfl Ϡ (S:=λd=>ώ d m (vI j) (vI q) (vS l E o) (.string D) (.bool false)) (U.o _ bR.drew) (λa=>?_);refine tkz 0 7 a ?_;refine tkz 1 8 a ?_;refine tkz 2 9 a ?_;refine sk 3 10 a ?_;refine sk 4 11 a ?_;refine sk 5 12 a ?_;refine sk 6 13 a ?_;refine sk 7 14 a ?_;refine sk 8 15 a ?_;refine sk 9 16 a ?_;refine tkz 10 17 a ?_;refine wpAnyH_done Ϡ ?_ _;have ac:ϛ (KJ=⟨s.L,s.R,s.lm,s.rm,P+1⟩):=by show _=_;rw[A.o,if_neg ϟ]
  have aq:=ah.o _ M;have ar:=Q.o _ M 21 ϝ;go_wp2;refine bodyPost_end (v:=.tuple #[]) (by simp[results,results340,go_sem]) rfl ⟨rfl,y,?_,?_⟩
  ·rw[ac.o];exact Tm ((R.o.below M).below bR.drew) hT _
  ·exact(Aw M.drew).trans (Eu ((R.o.below M).below bR.drew).ty _ _)
 |true=>
  by_cases Z:G<q
  ·have bh:=pl.GG (x:=q) (y:=G) true (by simpa using Z);refine gr.Ds 11 rfl Ϡ (S:=λd=>ώ d m (vI j) (vI q) (vS l E o) (.string D) (.bool true)) (U.o _ bR.drew) (λa=>?_);refine tkz 0 7 a ?_;refine tkz 1 8 a ?_;refine tkz 2 9 a ?_;refine tkz 3 10 a ?_;refine tkz 4 11 a ?_;refine tkz 5 12 a ?_;refine tkz 6 13 a ?_;refine tkz 7 14 a ?_;refine rD 8 λK g=>?_;go_simp;go_at_call 344;refine(F.o _ bR.drew).mono ?_;rintro e wg ⟨rfl,ak⟩;have O:Ϝ V wg:=bR.drew.trans ak;go_wp2_with fail;refine g.out _ _ (U.o _ O) (λa=>?_);clear g K
   try simp only[Act.put,sI,sZ,sS]
   refine tkz 9 16 a ?_;refine tkz 10 17 a ?_;refine wpAnyH_done Ϡ ?_ _;have ac:ϛ (KJ=⟨(A7 s j C).L,(A7 s j C).R,s.lm,s.rm,P+1⟩):=by show _=_;rw[A.o,if_pos ⟨trivial,Z⟩]
   have ao:=B.o trivial Z;have bb:ϛ (∀d,Ϝ wg d->ώ d m (vI j) (vI q) (vS l E o) (.string D) (.bool true)):=λd f=>U.o _ (bT O f);go_wp2;refine gr.Ds 7 rfl Ϡ (S:=λd=>ώ d m (vI j) (vI q) (vS l E o) (.string D) (.bool true)) (bb.o _ bR.drew) (λa=>?_);refine tkz 0 18 a ?_;refine tkz 1 19 a ?_;refine tkz 2 20 a ?_;refine tkz 3 21 a ?_;refine tkz 4 22 a ?_;refine rD 5 λK g=>?_;go_simp;go_at_call 252;refine(KB.o _).mono ?_;rintro e wq ⟨rfl,rfl⟩;go_wp2_with fail;refine g.out _ _ a (λa=>?_);clear g K
   try simp only[Act.put,sI,sZ,sS]
   refine tkz 6 6 a ?_;refine wpAnyH_done Ϡ ?_ _;go_wp2;generalize aj:wg.drew=W3;have N:Ϝ w W3:=by rw[<-aj];exact(bT M O).drew
   have ag:Ϝ V W3:=by rw[<-aj];exact O.drew
   clear aj;have bc:ϛ (∀c,Ϝ W3 c->CT 345 #[.agg (ν bp m1 m2 m3 bq n br),.agg (ζ D q P l E o met)] c λr d=>(∃X,r= .returned (.tuple #[.agg (Ω C X),ω])/\OB d c X C)/\Ϝ c d):=λc u=>ao c (bT N u);obtain⟨a6,a7,a8⟩:=ab.o _ N;have bs:=ah.o _ N;have ap:ϛ (∀d,Ϝ W3 d->ϐ d m (vI j) (vI q) (vS l E o) (.string D) (.bool true) (Δ d b 21 (vI P))):=λd f=>⟨cLz f (cLz ag s0),cLz f (cLz ag s1),cLz f (cLz ag s2),cLz f (cLz ag s3),cLz f (cLz ag s4),cLz f bs⟩;clear ao;refine gr.Ds 23 rfl Ϡ (S:=λd=>ϐ d m (vI j) (vI q) (vS l E o) (.string D) (.bool true) (Δ d b 21 (vI P))) (ap.o _ bR.drew) (λa=>?_);refine tkz 0 25 a ?_;refine tkz 1 26 a ?_;refine tkz 2 27 a ?_;refine tkz 4 29 a ?_;refine tkz 5 30 a ?_;refine tkz 6 31 a ?_;refine tkz 7 32 a ?_;refine tkz 8 33 a ?_;refine tkz 9 34 a ?_;refine tkz 10 35 a ?_;refine tkz 11 36 a ?_;refine tkz 12 37 a ?_;refine tkz 13 38 a ?_;refine tkz 14 39 a ?_;refine tkz 15 40 a ?_;refine tkz 16 41 a ?_;refine rD 3 λK g=>?_;go_simp;refine g.out _ _ a (λa=>?_);clear g K
   try simp only[Act.put,sI,sZ,sS]
   refine rD 17 λK g=>?_;go_simp;go_at_call 345;refine(bc.o _ bR.drew).mono ?_;rintro e wp ⟨⟨X,rfl,af⟩,be⟩;have aa:Ϝ W3 wp:=bR.drew.trans be;go_wp2_with fail;refine g.out _ _ (ap.o _ aa) (λa=>?_);clear g K
   try simp only[Act.put,sI,sZ,sS]
   refine tkz 18 24 a ?_;refine tkz 19 43 a ?_;refine tkz 20 44 a ?_;refine tkz 21 45 a ?_;have ba:=hqz af;have d0:=cLz aa a6;have d1:=cLz aa a7;have d2:=cLz aa a8;have W:Ϝ w wp:=bT N aa;have f0:=Q.o _ W k ϝ;have f1:=Q.o _ W (k+1) ϝ;have f2:=Q.o _ W (k+1+1) ϝ;have ae:b≠m:=ϝ;have J:=a;clear af a;refine rD 22 λK g=>?_;go_simp;refine g.out _ _ ⟨EH J.1 ae _ _ _,EH J.2.1 ae _ _ _,EH J.2.2.1 ae _ _ _,EH J.2.2.2.1 ae _ _ _,EH J.2.2.2.2.1 ae _ _ _,BV J.2.2.2.2.2 ϝ ϝ ϝ _ _ _⟩ (λa=>?_);clear g K;refine wpAnyH_done Ϡ ?_ _;have aq:=a.2.2.2.2.2;have ar:Ξ (φ (φ (φ wp b k (vI C.lim)) b (k+1) (vS X.m.1.1 X.m.1.2.1 X.m.1.2.2)) b (k+1+1) (vS X.ra X.rs.length X.rc)) b 21:=Tl (Q.o _ W 21 ϝ) _ _ _;have am:=(Aw W).trans (F6 (R.o.below W).ty k (vI C.lim) (vS X.m.1.1 X.m.1.2.1 X.m.1.2.2) (vS X.ra X.rs.length X.rc));have ai:=PD (R.o.below N) hT aa j ba.o nR k al.o;unfold hdV at ai;generalize (((wp.setCell ⟨b,k,none⟩ (vI C.lim)).setCell ⟨b,k+1,none⟩ (vS X.m.1.1 X.m.1.2.1 X.m.1.2.2)).setCell ⟨b,k+1+1,none⟩ (vS X.ra X.rs.length X.rc))=W4 at *;have a9:ϛ (Bz T w W4):=am;clear am;have an:ϛ (JSt w0 W4 b T p x (A7 s j C) (Ly y j X) t L):=ai;clear ai a J;go_wp2;refine bodyPost_end (v:=.tuple #[]) (by simp[results,results340,go_sem]) rfl ⟨rfl,Ly y j X,?_,a9.o.trans (Eu an.o.ty _ _)⟩;have a3:=Tm an.o hT (P+1);rw[(O3 s j C).1,(O3 s j C).2.1]at a3;rw[ac.o];exact a3
  ·have bh:=pl.GG (x:=q) (y:=G) false (by simpa using Z);refine gr.Ds 11 rfl Ϡ (S:=λd=>ώ d m (vI j) (vI q) (vS l E o) (.string D) (.bool true)) (U.o _ bR.drew) (λa=>?_);refine tkz 0 7 a ?_;refine tkz 1 8 a ?_;refine tkz 2 9 a ?_;refine tkz 3 10 a ?_;refine tkz 4 11 a ?_;refine tkz 5 12 a ?_;refine tkz 6 13 a ?_;refine tkz 7 14 a ?_;refine rD 8 λK g=>?_;go_simp;go_at_call 344;refine(F.o _ bR.drew).mono ?_;rintro e wg ⟨rfl,ak⟩;have O:Ϝ V wg:=bR.drew.trans ak;go_wp2_with fail;refine g.out _ _ (U.o _ O) (λa=>?_);clear g K
   try simp only[Act.put,sI,sZ,sS]
   refine tkz 9 16 a ?_;refine tkz 10 17 a ?_;refine wpAnyH_done Ϡ ?_ _;have ac:ϛ (KJ=⟨s.L,s.R,s.lm,s.rm,P+1⟩):=by show _=_;rw[A.o,if_neg (by simp[Z])]
   have ad:Ϝ w wg:=bT M O;have aq:=ah.o _ ad;have ar:=Q.o _ ad 21 ϝ;go_wp2;refine bodyPost_end (v:=.tuple #[]) (by simp[results,results340,go_sem]) rfl ⟨rfl,y,?_,?_⟩
   ·rw[ac.o];exact Tm (R.o.below ad) hT _
   ·exact(Aw ad).trans (Eu (R.o.below ad).ty _ _)
end jn
end Go.Proofs.YtfkihidbnfkbaaaGreatDoor
