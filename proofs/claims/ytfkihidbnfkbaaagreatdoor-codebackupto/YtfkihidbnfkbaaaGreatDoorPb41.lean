import Derived.Test.YtfkihidbnfkbaaaGreatDoorPb35
set_option linter.all false
set_option maxHeartbeats 4000000
set_option maxRecDepth 100000
open Go.ChangeShapes Go.WideShapes Go.ChangeAt Go.RowKit List
namespace Go.Proofs.YtfkihidbnfkbaaaGreatDoor
open Go.Proofs.Tryz
namespace cd
open vl bf
variable {S W w w' : ϙ} {N R b j : Nat} {s : List UInt8} {u v : Value} {r : List Cel} {T : TypeId}
structure ES(w:World)(R:Nat)(s:List UInt8)(W:World)(bs:List (TypeId×List Value)):Prop where
 keep:Al R w W
 rr:RR W R s
 blk:∀k b,bs[k]? =some b->SB W (w.heap.size+k) b.2/\Ai W (w.heap.size+k) b.1
theorem ES.call{a:ϙ}{t:List UInt8}{d:List (TypeId×List Value)}(h:ES w R s W d)(g:R<w.heap.size)(c:Al R W a)(f:RR a R t):ES w R t a d:=
 ⟨h.keep.trans c,f,λk b e=>⟨(h.blk k b e).1.keep c ϝ,A0 (h.blk k b e).2 (c.2 _ (h.blk k b e).1.lt ϝ)⟩⟩
theorem ES.put{a:List (TypeId×List Value)}(h:ES w R s W a)(m:W.setCell ⟨N,j,none⟩ v=S)(q:R<w.heap.size)(k:Nat){b:TypeId×List Value}(l:w.heap.size+k=N)(d:a[k]? =some b)(p:j<b.2.length):ES w R s S (a.set k (b.1,b.2.set j v)):=by
 subst m l;refine⟨⟨h.keep.1.setCell (Nat.zero_le _) _,λg n o=>(heap_setCell_other _ _ _ _ ϣ).trans (h.keep.2 g n o)⟩,h.rr.set ϝ,λi c e=>?_⟩;by_cases f:i=k
 ·subst f;rw[List.getElem?_set_self (List.getElem?_eq_some_iff.1 d).1]at e;obtain rfl:=(Option.some.inj e);exact⟨(h.blk i b d).1.set j v p,A6 (h.blk i b d).2 _ _⟩
 ·rw[List.getElem?_set_ne (λe=>f e.symm)]at e;exact⟨(h.blk i c e).1.same (heap_setCell_other _ _ _ _ ϣ) ϟ,A6 (h.blk i c e).2 _ _⟩
theorem ES.len{a:List (TypeId×List Value)}(h:ES w R s W a)(k:Nat){b:TypeId×List Value}(c:a[k]? =some b):w.heap.size+k<W.heap.size:=(h.blk k b c).1.lt
theorem ES.base(h:RR w R s):ES w R s w []:=⟨Al.refl _ _,h,λk b e=>by simp at e⟩
theorem ES.new{a:List (TypeId×List Value)}(h:ES w R s W a)(i:W.heap.size=w.heap.size+a.length)(d:List Value)(t:TypeId):ES w R s (W.alloc (.cells d.toArray t)) (a++[(t,d)]):=by
 have c:=(Below.refl W.heap.size W).alloc nR (.cells d.toArray t);refine⟨h.keep.trans (Al.of c),h.rr.below c,λk b e=>?_⟩;by_cases f:k<a.length
 ·rw[getElem?_append_left f]at e;exact⟨(h.blk k b e).1.below c,Ad (h.blk k b e).2 c⟩
 ·have g:k=a.length:=by
   have:=(List.getElem?_eq_some_iff.1 e).1;rw[lAp,length_singleton]at this;omega
  subst g;rw[List.getElem?_concat_length]at e;obtain rfl:=Option.some.inj e;rw[<-i];exact⟨SB.new W d t,⟨_,_,World.alloc_heap_new W _⟩⟩
theorem Wu{base:Nat}(h:AA w base v r)(d:Al R w w')(c:Ai w R 124):AA w' base v r:=
 A4 h (λg a=>d.2 g (AE h a).2 (tyAt_apart (Av h a) c Ϟ))
theorem UI{base:Nat}(h:AA w base v r)(c:w.setCell ⟨N,j,none⟩ u=S)(a:Ai w N T)(d:T≠119):AA S base v r:=by
 subst c;exact A4 h (λg f=>heap_setCell_other _ _ _ _ (λe=>tyAt_apart (Av h f) a (λe=>d e.symm) e))
def VE(base:Nat)(x:Ent)(v:Value)(w:World):Prop:=∃m:EM,v=m.val/\OR w base m x
def VL1(base:Nat)(l:List Ent)(v:Value)(w:World):Prop:=∃ad cap es,v=vS ad l.length cap/\OE w base v es l
def ptE(x:Ent):List UInt8×Int×Int×List Cel×Bool:=(x.key.data.toList,x.time,x.seq,x.row,x.met)
def Eg(x:Ent):Prop:=okT x.key.data.toList/\okN x.time/\okN x.seq/\rowOk x.row
def Adx:List UInt8×Int×Int×List Cel×Bool->List UInt8:=cat txt (cat AU (cat AU (cat C7 GM)))
def Aeo:List UInt8×Int×Int×List Cel×Bool->Prop:=okP okT (okP okN (okP okN (okP rowOk λ_=>True)))
theorem QQ(x:Ent):AN x=Adx (ptE x):=by
 unfold AN Adx ptE;simp only[cat,append_assoc]
theorem UJ(x:Ent)(h:Eg x):Aeo (ptE x):=⟨h.1,h.2.1,h.2.2.1,h.2.2.2,trivial⟩
theorem Abt(x y:Ent)(h:ptE x=ptE y):x=y:=by
 obtain⟨k,t,q,r,m⟩:=x;obtain⟨c,g,e,f,d⟩:=y;simp only[ptE,Prod.mk.injEq]at h;obtain⟨a,rfl,rfl,rfl,rfl⟩:=h;rw[str_eq a]
theorem J8:Pre AN Eg:=Pre.via (GN.cat (Bu.cat (Bu.cat (E8.cat ZO)))) ptE (λx y _ _=>Abt x y) QQ UJ
theorem Bad.ent(h:Bad Adx Aeo s):Bad AN Eg s:=h.via ptE QQ UJ
theorem Tc(R:Nat)(s:List UInt8)(w:ϙ)(h:RQ w R s)(L:s.length<=10000000):
 η 205 #[μ R] w (Rd AN Eg (VE w.heap.size) R s w):=by
 have KT:=hIz (λ(e:ϙ) (c:Al R w e) (d:RR e R s)=>OI R s e (h.go c d) L);have Q:=hIz (λt (e:ϙ) (c:Al R w e) (d:RR e R t) (H:t.length<=10000000)=>CH R t e (h.go c d) H);have KR:=hIz (λt (e:ϙ) (c:Al R w e) (d:RR e R t) (H:t.length<=10000000)=>JW R t e (h.go c d) H);have KF:=hIz (λt (e:ϙ) (c:Al R w e) (d:RR e R t) (H:t.length<=10000000)=>Xq R t e (h.go c d) H);have y:=h.rr.lt;have k:=hqz L;have B:ϛ (RR w R s):=h.rr;clear h L;go_enter func205,ntmps205;go_wp2_with fail;have a:=hy (((ES.base B.o).new ϟ [ϊ,ω,ω,ψ,ϋ] 166).new ϟ [ϊ,ω,ω,ψ,ϋ] 166);generalize World.alloc (World.alloc w _) _=V at a⊢;clear B;refine(KT.o V a.o.keep a.o.rr).mono ?_;rintro o e ⟨c,⟨x,t,v,i,rfl,rfl,rfl,d⟩|⟨E,v,rfl⟩⟩
 rotate_left
 ·exact⟨rfl,a.o.keep.trans c,.inr ⟨E.fst.ent,_,rfl⟩⟩
 have G:ϛ (okT x):=i;replace k:ϛ (t.length<=10000000):=by have:=k.o;rw[lAp]at this;show _<=_;omega
 clear i;replace a:=hy (a.o.call y c d);have C:=(a.o.blk 1 _ rfl).1.cell 0 _ rfl;have D:=(a.o.blk 1 _ rfl).1.frz 0;clear d c;go_wp2_with fail;generalize f:World.setCell e _ _=S1;replace a:=hy (a.o.put f y 1 rfl rfl ϟ);clear C D f;refine(Q.o t S1 a.o.keep a.o.rr k.o).mono ?_;rintro o w2 ⟨c,⟨n,X,v,i,rfl,rfl,rfl,d⟩|⟨E,v,rfl⟩⟩
 rotate_left
 ·exact⟨rfl,a.o.keep.trans c,.inr ⟨((E.fst).snd GN G.o).ent,_,rfl⟩⟩
 have J:ϛ (okN n):=i;replace k:ϛ (X.length<=10000000):=by have:=k.o;rw[lAp]at this;show _<=_;omega
 clear i;replace a:=hy (a.o.call y c d);have C:=(a.o.blk 1 _ rfl).1.cell 1 _ rfl;have D:=(a.o.blk 1 _ rfl).1.frz 1;clear d c;go_wp2_with fail;generalize f:World.setCell w2 _ _=S2;replace a:=hy (a.o.put f y 1 rfl rfl ϟ);clear C D f;refine(Q.o X S2 a.o.keep a.o.rr k.o).mono ?_;rintro o w3 ⟨c,⟨q,Y,v,i,rfl,rfl,rfl,d⟩|⟨E,v,rfl⟩⟩
 rotate_left
 ·exact⟨rfl,a.o.keep.trans c,.inr ⟨(((E.fst).snd Bu J.o).snd GN G.o).ent,_,rfl⟩⟩
 have K:ϛ (okN q):=i;replace k:ϛ (Y.length<=10000000):=by have:=k.o;rw[lAp]at this;show _<=_;omega
 clear i;replace a:=hy (a.o.call y c d);have C:=(a.o.blk 1 _ rfl).1.cell 2 _ rfl;have D:=(a.o.blk 1 _ rfl).1.frz 2;clear d c;go_wp2_with fail;generalize f:World.setCell w3 _ _=S3;replace a:=hy (a.o.put f y 1 rfl rfl ϟ);clear C D f;refine(KR.o Y S3 a.o.keep a.o.rr k.o).mono ?_;rintro o w4 ⟨c,⟨r,Z,v,i,rfl,rfl,⟨l,p,rfl,U⟩,d⟩|⟨E,v,rfl⟩⟩
 rotate_left
 ·exact⟨rfl,a.o.keep.trans c,.inr ⟨((((E.fst).snd Bu K.o).snd Bu J.o).snd GN G.o).ent,_,rfl⟩⟩
 have P:=hqz i;replace k:ϛ (Z.length<=10000000):=by have:=k.o;rw[lAp]at this;show _<=_;omega
 have A:ϛ (AA w4 w (vS l r.length p) r):=World.ownsRow.mono U a.o.keep.1.size;obtain⟨z,M⟩:=nM r.length;have HL:=hqz M;rw[M]at A⊢;clear i U M;replace a:=hy (a.o.call y c d);have C:=(a.o.blk 1 _ rfl).1.cell 3 _ rfl;have D:=(a.o.blk 1 _ rfl).1.frz 3;clear d c;go_wp2_with fail;generalize f:World.setCell w4 _ _=S4;replace A:=hy (UI (T:=166) A.o f (a.o.blk 1 _ rfl).2 Ϟ);replace a:=hy (a.o.put f y 1 rfl rfl ϟ);clear C D f;refine(KF.o Z S4 a.o.keep a.o.rr k.o).mono ?_;rintro o w5 ⟨c,⟨m,t5,v,i,rfl,rfl,rfl,d⟩|⟨E,v,rfl⟩⟩
 rotate_left
 ·exact⟨rfl,a.o.keep.trans c,.inr ⟨((((E.snd E8 P.o).snd Bu K.o).snd Bu J.o).snd GN G.o).ent,_,rfl⟩⟩
 replace A:=hy (Wu A.o c a.o.rr.tb);clear i;replace a:=hy (a.o.call y c d);have C:=(a.o.blk 1 _ rfl).1.cell 4 _ rfl;have D:=(a.o.blk 1 _ rfl).1.frz 4;clear d c;go_upto_region 7 with fail;generalize f:World.setCell w5 _ _=F;replace A:=hy (UI (T:=166) A.o f (a.o.blk 1 _ rfl).2 Ϟ);replace a:=hy (a.o.put f y 1 rfl rfl ϟ);clear C D f;have d0:=(a.o.blk 1 _ rfl).1.cell 0 _ rfl;have d1:=(a.o.blk 1 _ rfl).1.cell 1 _ rfl;have d2:=(a.o.blk 1 _ rfl).1.cell 2 _ rfl;have d3:=(a.o.blk 1 _ rfl).1.cell 3 _ rfl;have d4:=(a.o.blk 1 _ rfl).1.cell 4 _ rfl;have O:ϛ (F.there w.heap.size 0 5):=(a.o.blk 0 _ rfl).1.there;have I:ϛ (RR (World.setCells F w.heap.size 0 [.string ⟨x.toArray⟩,vI n,vI q,vS l z p,.bool m]) R t5/\Al R w (World.setCells F w.heap.size 0 [.string ⟨x.toArray⟩,vI n,vI q,vS l z p,.bool m])/\AA (World.setCells F w.heap.size 0 [.string ⟨x.toArray⟩,vI n,vI q,vS l z p,.bool m]) w.heap.size (vS l z p) r):=
  ⟨a.o.rr.sets ϝ _ _,C1 a.o.keep nR _ _,A4 A.o (λg hg=>BS (tyAt_apart (Av A.o hg) (a.o.blk 0 _ rfl).2 Ϟ) _ _ _)⟩
 have B:ϛ ((World.setCells F w.heap.size 0 [.string ⟨x.toArray⟩,vI n,vI q,vS l z p,.bool m]).rangeAt w.heap.size 0 [.string ⟨x.toArray⟩,vI n,vI q,vS l z p,.bool m]):=World.rangeAt_setCells_same _ _ _ _ O.o;go_wp2_with ((with_reducible refine wpList_store_mid ?_ 166 (.tmp 2) (.tmp 19) ?_ w.heap.size 0 #[.string ⟨x.toArray⟩,vI n,vI q,vS l z p,.bool m] ?_ ?_ ?_ ?_ ?_ ?_);exact rfl;exact rfl;exact rfl;exact rfl;exact O.o;exact ZH;exact Ϧ);generalize (World.setCells F w.heap.size 0 [.string ⟨x.toArray⟩,vI n,vI q,vS l z p,.bool m])=W' at B I⊢;have z0:=B.o 0 _ rfl;have z1:=B.o 1 _ rfl;have z2:=B.o 2 _ rfl;have z3:=B.o 3 _ rfl;have z4:=B.o 4 _ rfl;simp only[Nat.zero_add]at z0 z1 z2 z3 z4;exact bodyPost_ret (v:=.agg #[.string ⟨x.toArray⟩,vI n,vI q,vS l z p,.bool m]) (by simp[results,results205,go_sem,z0,z1,z2,z3,z4]) rfl ⟨I.o.2.1,.inl ⟨⟨⟨x.toArray⟩,n,q,r,m⟩,t5,_,⟨G.o,J.o,K.o,P.o⟩,by unfold AN;simp only[append_assoc],rfl,⟨⟨⟨x.toArray⟩,n,q,(l,z,p),m⟩,rfl,⟨rfl,rfl,rfl,rfl,HL.o.symm,I.o.2.2⟩⟩,I.o.1⟩⟩
theorem E6{α:Type}{f:α->List UInt8}(a:∀x,8<=(f x).length):∀l:List α,8 * l.length<=(l.flatMap f).length
 |[]=>by simp
 |x::l=>by
  have c:=a x;have d:=E6 a l;rw[flatMap_cons,lAp,length_cons];omega
theorem Da{α:Type}(f:α->List UInt8)(l:List α)(x:α)(u:List UInt8):l.flatMap f++(f x++u)=(l++[x]).flatMap f++u:=ϟ
theorem EF{α:Type}{P:α->Prop}{l:List α}{x:α}(h:∀y∈l,P y)(a:P x):∀y∈l++[x],P y:=λy hy=>by
 rcases mem_append.1 hy with k|k
 ·exact h y k
 ·rw[mem_singleton.1 k];exact a
theorem Td(x:Ent):8<=(AN x).length:=by
 unfold AN;simp only[lAp,Am];omega
theorem Zc(R C:Nat)(s:List UInt8)(w:ϙ)(h:RQ w R s)(y:RP w C R)(q:s.length<=10000000):
 η 204 #[μ C] w (Rd AN Eg (VE w.heap.size) R s w):=by
 have H:=hIz (λ(a:ϙ) (k:Ϝ w a)=>Tc R s a (h.below k) q);have L:=y.cell;have M:=y.lt;have I:=h.rr.lt;have c:ϛ (RR w R s):=h.rr;clear h q;go_enter func204,ntmps204;go_wp2_with fail;have e:=hy ((ES.base c.o).new ϟ [ϊ,ω,ω,ψ,ϋ] 166);have i:Ϝ w (World.alloc w (.cells ([ϊ,ω,ω,ψ,ϋ]:List Value).toArray 166)):=Ϩ;generalize (World.alloc w _)=V at e i⊢;refine(H.o V i).mono ?_;rintro o a ⟨l,⟨x,t,v,z,rfl,rfl,⟨m,rfl,d⟩,n⟩|⟨k,v,rfl⟩⟩
 rotate_left
 ·exact⟨rfl,e.o.keep.trans l,.inr ⟨k,_,rfl⟩⟩
 have G:ϛ (Eg x):=z;replace e:=hy (e.o.call I l n);have p:ϛ (a.there w.heap.size 0 5):=(e.o.blk 0 _ rfl).1.there;have f:ϛ (RR (World.setCells a w.heap.size 0 [.string m.key,vI m.time,vI m.seq,vS m.row.1 m.row.2.1 m.row.2.2,.bool m.met]) R t/\Al R w (World.setCells a w.heap.size 0 [.string m.key,vI m.time,vI m.seq,vS m.row.1 m.row.2.1 m.row.2.2,.bool m.met])/\OR (World.setCells a w.heap.size 0 [.string m.key,vI m.time,vI m.seq,vS m.row.1 m.row.2.1 m.row.2.2,.bool m.met]) w.heap.size m x):=
  ⟨n.sets ϝ _ _,C1 e.o.keep nR _ _,⟨d.key,d.time,d.seq,d.met,d.len,World.ownsRow.mono (A4 d.row (λg J=>BS (tyAt_apart (Av d.row J) (e.o.blk 0 _ rfl).2 Ϟ) _ _ _)) i.size⟩⟩
 unfold EM.val hdV;clear n l d i z;have c:ϛ ((World.setCells a w.heap.size 0 [.string m.key,vI m.time,vI m.seq,vS m.row.1 m.row.2.1 m.row.2.2,.bool m.met]).rangeAt w.heap.size 0 [.string m.key,vI m.time,vI m.seq,vS m.row.1 m.row.2.1 m.row.2.2,.bool m.met]):=World.rangeAt_setCells_same _ _ _ _ p.o;go_wp2_with ((with_reducible refine wpList_store_mid ?_ 166 (.tmp 1) (.tmp 3) ?_ w.heap.size 0 #[.string m.key,vI m.time,vI m.seq,vS m.row.1 m.row.2.1 m.row.2.2,.bool m.met] ?_ ?_ ?_ ?_ ?_ ?_);exact rfl;exact rfl;exact rfl;exact rfl;exact p.o;exact ZH;exact Ϧ);generalize (World.setCells a w.heap.size 0 [.string m.key,vI m.time,vI m.seq,vS m.row.1 m.row.2.1 m.row.2.2,.bool m.met])=K at c f⊢;have A:=c.o 0 _ rfl;have B:=c.o 1 _ rfl;have D:=c.o 2 _ rfl;have E:=c.o 3 _ rfl;have F:=c.o 4 _ rfl;simp only[Nat.zero_add]at A B D E F;exact bodyPost_ret (v:=.agg #[.string m.key,vI m.time,vI m.seq,vS m.row.1 m.row.2.1 m.row.2.2,.bool m.met]) (by simp[results,results204,go_sem,A,B,D,E,F]) rfl ⟨f.o.2.1,.inl ⟨x,t,_,G.o,rfl,rfl,⟨m,rfl,f.o.2.2⟩,f.o.1⟩⟩
theorem Oz(R C:Nat)(s:List UInt8)(w:ϙ)(h:RQ w R s)(hp:RP w C R)(Z:s.length<=2000000):
 η 206 #[μ R,.func (.func 204) #[] #[μ C]] w (Rd (lst AN) (okL Eg) (VL1 w.heap.size) R s w):=by
 have Y:=hy (CH R s w h ϝ);have X:=hIz (λso (f:ϙ) t (y:Al R w f) (P:RR f R t)=>Dz R so f (h.go y P).err);have KO:=hIz (λt (f:ϙ) (y:Al R w f) (P:RR f R t) (ht:t.length<=2000000)=>Zc R C t f (h.go y P) (hp.keep y) ϝ);have U:=hqz Z;clear h hp Z;go_enter func206,ntmps206;go_wp2_with fail;refine Y.o.mono ?_;rintro e f ⟨D,⟨n,t,v,hn,rfl,rfl,rfl,Q⟩|⟨M,v,rfl⟩⟩
 rotate_left
 ·exact⟨rfl,D,.inr ⟨M.len,_,rfl⟩⟩
 have K:ϛ (okN n):=hn;clear hn Y;by_cases h0:0<=n
 rotate_left
 ·go_wp2_with (go_at_call 139;refine(X.o _ _ _ D Q).mono ?_;rintro e w2 ⟨rfl,_,L⟩;obtain⟨v,rfl⟩:=L Ϥ);exact⟨rfl,D,.inr ⟨Bad.neg K.o ϝ,_,rfl⟩⟩
 obtain⟨m,rfl⟩:∃m:Nat,n=m:=⟨n.toNat,ϝ⟩;have V:ϛ (m<=9223372036854775807):=by have:=K.o.2;show _<=_;omega
 have A:ϛ (RR f R t/\Al R w f):=⟨Q,D⟩;clear Q D K;go_wp2_with (go_at_call 139;refine(X.o _ _ _ A.o.2 A.o.1).mono ?_;rintro e w2 ⟨rfl,L,_⟩;obtain rfl:=L ϟ)
 go_loopw [6,14] (λv i wr=> ∃(k:Nat) (l:List Ent) (c:List EM) (u:List UInt8),l.length=k/\k<=m/\i=vI k/\OE wr w v c l/\(∀x∈l,Eg x)/\t=l.flatMap AN++u/\RR wr R u/\Al R w wr) (λ_ i _=>m - (intOf i).toNat)
 case atStart=>exact⟨0,[],[],t,rfl,Nat.zero_le _,rfl,E4 A.o.2.1.size,ϟ,rfl,A.o⟩
 case round=>
  obtain⟨k,l,c,u,G,am,rfl,z,J,rfl,H,o⟩:=hrel;have F:c.length=k:=by rw[z.len,G]
  have an:8 * k+u.length<=2000000:=by
   have:=U.o;have:=E6 Td l;rw[lAp,lAp,Am]at *;omega
  by_cases ag:k<m
  ·have a:ϛ (OE wr w u6 c l/\Ai wr R 124/\(∀x∈l,Eg x)/\Al R w wr/\l.length=k):=⟨z,H.tb,J,o,G⟩;have i1:(0:Int)<=(k:Int):=ϝ;have i2:(k:Int)<(m:Int):=ϝ;have ak:u.length<=2000000:=ϝ;clear z J G U A;go_wp2_with fail;refine(KO.o u wr o H ak).mono ?_;rintro e q ⟨E,⟨x,u2,v,hx,rfl,rfl,⟨d,rfl,p⟩,aa⟩|⟨M,v,rfl⟩⟩
   rotate_left
   ·exact⟨rfl,o.trans E,.inr ⟨Bad.elem J8 a.o.2.2.1 V.o (by rw[a.o.2.2.2.2];exact ag) M,_,rfl⟩⟩
   have I:ϛ (OE q w u6 c l):=OE.keptR a.o.1 E a.o.2.1;have B:ϛ (OR q w.heap.size d x/\RR q R u2/\Al R w q/\Eg x):=⟨⟨p.key,p.time,p.seq,p.met,p.len,World.ownsRow.mono p.row o.1.size⟩,aa,o.trans E,hx⟩;have ae:w.heap.size<=q.heap.size:=Nat.le_trans o.1.size E.1.size;have ab:ϛ (q.ownsRow w 166 5 u6 k (A1 c)):=by
    have:=I.o.own;rw[F]at this;exact this
   unfold EM.val hdV;clear p aa E H o hx;go_wp2_with (at_builtin;refine jn.F7 rfl (.tmp 16) (.tmp 19) rfl w.heap.size u6 c d.key d.time d.seq d.row.1 d.row.2.1 d.row.2.2 d.met q k F ab.o ϝ ae rfl rfl ?_;intro g al w4 ai O);have hs:=LW (e:=d) (x:=x) I.o bR B.o.1 (by rw[F];exact ai) O;have ah:u6.ownBlock≠some R:=λe=>tyAt_apart B.o.2.1.tb (Av I.o.own e) Ϟ rfl;have aj:=B.o.2.1.grown O ah;have af:=DJ B.o.2.2.1 O (λg e=>(AE I.o.own e).1);rw[F]at hs;go_wp2;go_roundw
   case rel=>exact⟨k+1,l++[x],c++[d],u2,by simp[a.o.2.2.2.2],ϝ,by go_num,hs.1,EF a.o.2.2.1 B.o.2.2.2,Da _ _ _ _,aj,af⟩
   case measure=>simp[intOf];omega
  ·have y:k=m:=ϝ;subst y;have i2:¬((k:Int)<(k:Int)):=ϝ;obtain⟨ad,ac,hv⟩:=z.form;rw[F]at hv;have a:ϛ (OE wr w u6 c l/\(∀x∈l,Eg x)/\RR wr R u/\Al R w wr/\l.length=k):=⟨z,J,H,o,G⟩;clear z H o J G;subst hv;go_wp2;go_ret;exact⟨a.o.2.2.2.1,.inl ⟨l,u,_,⟨by rw[a.o.2.2.2.2];exact V.o,a.o.2.1⟩,by unfold lst;rw[a.o.2.2.2.2,append_assoc],rfl,⟨ad,ac,c,by rw[a.o.2.2.2.2];rfl,a.o.1⟩,a.o.2.2.1⟩⟩
def Dx(tys:List TypeId)(P:World->Nat->Prop):Prop:=
 ∀w w' b b',P w b->b'<=b->w.heap.size<=w'.heap.size->(∀g T,Ai w g T->T∈tys->w'.heap[g]? =w.heap[g]?)->P w' b'
theorem Dx.mono{e:List TypeId}{P:World->Nat->Prop}(h:Dx e P){a:Nat}(d:P w b)(c:a<=b):P w a:=h w w b a d c nR (λ_ _ _ _=>rfl)
theorem Dx.keptR{d:List TypeId}{P:World->Nat->Prop}(h:Dx d P)(l:124 ∉ d)(k:P w b)(c:Al R w w')(f:Ai w R 124):P w' b:=
 h w w' b b k nR c.1.size (λg T a i=>c.2 g (A2 a) (λe=>tyAt_apart a f (λe=>l (e▸i)) e))
theorem Dx.put{a:List TypeId}{P:World->Nat->Prop}(h:Dx a P)(l:T ∉ a)(k:P w b)(d:w.setCell ⟨N,j,none⟩ u=S)(c:Ai w N T):P S b:=by
 subst d;exact h w _ b b k nR ϟ (λg m i f=>heap_setCell_other _ _ _ _ (tyAt_apart i c (λe=>l (e▸f))))
theorem Dx.sets{c:List TypeId}{P:World->Nat->Prop}(h:Dx c P)(a:T ∉ c):∀(l:List Value) (o:Nat) (w:ϙ),P w b->Ai w N T->P (w.setCells N o l) b
 |[],_,_,hp,_=>hp
 |u::l,o,w,hp,hN=>h.sets a l (o+1) _ (h.put a hp rfl hN) (A6 hN _ _)
theorem Dx.grown{i:List TypeId}{P:World->Nat->Prop}(h:Dx i P)(n:T ∉ i){a:ϙ}{o:Obj}{f:Option Nat}(l:P w b)(c:(w.alloc o).grownBy a f)(m:∀g,f=some g->Ai w g T):P a b:=
 h w a b b l nR (by have:=c.size;simp at this;omega) (λg p d k=>Eo (bR.alloc nR o) c (A2 d) (λe=>tyAt_apart d (m g e) (λe=>n (e▸k)) rfl))
theorem CE(T:TypeId)(f:Nat)(v:Value)(n:Nat)(h:List Value):Dx [T] (λw b=>w.ownsRow b T f v n h):=λw w' b i a c k e=>
 World.ownsRow.mono (A4 a (λg d=>e g T (Av a d) (mem_singleton.2 rfl))) c
theorem Dx.and{s t:List TypeId}{P Q:World->Nat->Prop}(h:Dx s P)(k:Dx t Q):Dx (s++t) (λw b=>P w b/\Q w b):=λw w' b d i e l f=>
 ⟨h w w' b d i.1 e l (λg T c a=>f g T c (mem_append_left _ a)),k w w' b d i.2 e l (λg T c a=>f g T c (mem_append_right _ a))⟩
theorem Fc(p:Prop):Dx [] (λ_ _=>p):=λ_ _ _ _ a _ _ _=>a
structure OL{α β:Type} [Inhabited α] [Inhabited β](T:TypeId)(sz:Nat)(cells:β->List Value)(P:β->α->World->Nat->Prop)(st:List β)(l:List α)(v:Value)(w:World)(b:Nat):Prop where
 own:w.ownsRow b T sz v l.length (st.flatMap cells)
 len:st.length=l.length
 each:∀i,i<l.length->P (st.getD i default) (l.getD i default) w b
theorem CR{α β:Type} [Inhabited α] [Inhabited β]{T:TypeId}{o:Nat}{cells:β->List Value}{P:β->α->World->Nat->Prop}{p:List TypeId}(h:∀x y,Dx p (P x y))(t:List β)(l:List α)(v:Value):Dx (T::p) (OL T o cells P t l v):=λw w' b f e k n m=>
 ⟨CE T o v _ _ w w' b f e.own k n (λg a d c=>m g a d (by rw[mem_singleton.1 c];exact mem_cons_self ..)),e.len,λi q=>h _ _ w w' b f (e.each i q) k n (λg a d c=>m g a d (mem_cons_of_mem _ c))⟩
theorem OL.nil{α β:Type} [Inhabited α] [Inhabited β](T:TypeId)(c:Nat)(cells:β->List Value)(P:β->α->World->Nat->Prop)(w:ϙ)(b:Nat):OL T c cells P [] [] (vS none 0 0) w b:=⟨World.ownsRow_nil _ _ _ _,rfl,λi a=>absurd a (Nat.not_lt_zero i)⟩
theorem OL.snoc{α β:Type} [Inhabited α] [Inhabited β]{T:TypeId}{d:Nat}{cells:β->List Value}{P:β->α->World->Nat->Prop}{q:List TypeId}(p:∀x y,Dx q (P x y))(k:T ∉ q){c:List β}{l:List α}{v t:Value}{w f:ϙ}{b:Nat}{o:Obj}{y:β}{x:α}
 (h:OL T d cells P c l v w b) (B:P y x w b) (m:(w.alloc o).grownBy f v.ownBlock) (A:f.ownsRow b T d t (l.length+1) (c.flatMap cells++cells y)):OL T d cells P (c++[y]) (l++[x]) t f b:=by
 have n:∀g,v.ownBlock=some g->Ai w g T:=λg e=>Av h.own e;refine⟨by simpa using A,by simp[h.len],λi z=>?_⟩;by_cases a:i<l.length
 ·rw[Bc (by rw[h.len];exact a),Bc a];exact(p _ _).grown k (h.each i a) m n
 ·have:i=l.length:=by simp at z;omega
  subst this;rw[AP (by rw[h.len];exact Nat.le_refl _),AP nR,h.len,Nat.sub_self];exact(p _ _).grown k B m n
theorem OL.form{α β:Type} [Inhabited α] [Inhabited β]{T:TypeId}{e:Nat}{cells:β->List Value}{P:β->α->World->Nat->Prop}{d:List β}{l:List α}{v:Value}{w:ϙ}{b:Nat}(h:OL T e cells P d l v w b):∃a c,v=vS a l.length c:=U8 h.own
theorem Wv{a:List Value}:∀j u,a[j]? =some u->(w.alloc (.cells a.toArray T)).cell? ((⟨w,0,none⟩:Addr).add j)=some u:=λj u h=>by
 rw[C3,Nat.zero_add];exact(SB.new w a T).cell j u h
theorem EG{q:Array Oper}{rest:List Oper}{o:Oper}{a:Act}{Q:Exit->Act->World->Prop}(D:o.guard=none)(s x:Operand)(T k:TypeId)
 (F:o.op= .call {callee:=.builtin .append,args:=#[s,x],argTypes:=#[k,k]}) (z:Value) (d l:Nat)
 (I:Tryz.prog.underlying k=some (.slice T)) (n:(Tryz.prog.info? T).map (λi=>(i.zero,i.size,i.bytes))=some (some z,d,l)) (O:z.cells.size=d) (H:0<d) (B:l<=1000)
 (base:Nat) (v:Value) (p e:List Value) (w:ϙ) (c:Nat) (E:w.ownsRow base T d v c p) (C:e.length=d) (t:∀u∈e,u.oneCell'=true) (Y:c<=1000000) (X:base<=w.heap.size)
 (G:a.eval s=v) (J:a.eval x=vS (τ w) 1 1)
 (h:∀g m f,f.ownsRow base T d (vS (τ g) (c+1) m) (c+1) (p++e)->(w.alloc (.cells e.toArray T)).grownBy f v.ownBlock->wpList Tryz.prog q Q rest (a.put o.dst (vS (τ g) (c+1) m)) f):
 wpList Tryz.prog q Q (o::rest) a (w.alloc (.cells e.toArray T)):=by
 obtain⟨P,n,K,L,M⟩:=info_parts n;refine wpList_append_lies _ D s x k F base T P z d l I n K L M O H v c p G
  (E.alloc _) ⟨w,0,none⟩ 1 1 e J (by rw[Nat.one_mul];exact C) Wv t Ϟ ϧ ?_ Ϣ (w.heap.size+1) ϟ ?_
 ·have:(c+1) * l<=1000001 * 1000:=Nat.mul_le_mul ϝ B;omega
 intro g m f y A U V;exact h g m f y A
end cd
namespace cd
open vl bf bt
variable {s : List UInt8} {v : Value} {w : ϙ} {b : Nat}
def Bq(t:Tal):List UInt8:=C7 [t.1]++AU t.2
def GY(t:Tal):Prop:=rowOk [t.1]/\okN t.2
def ptT(t:Tal):List Cel×Int:=([t.1],t.2)
theorem UK:Pre Bq GY:=Pre.via (E8.cat Bu) ptT (λx y _ _ e=>by
 obtain⟨a,b⟩:=x;obtain⟨c,d⟩:=y;simp only[ptT,Prod.mk.injEq,List.cons.injEq,and_true]at e;rw[e.1,e.2]) (λ_=>rfl) (λ_ h=>h)
theorem Bad.tal(h:Bad (cat C7 AU) (okP rowOk okN) s):Bad Bq GY s:=h.via ptT (λ_=>rfl) (λ_ h=>h)
theorem Bad.tal1{r:List Cel}(a:rowOk r)(h:r.length≠1):Bad Bq GY (C7 r++s):=by
 intro t u c e;unfold Bq at e;rw[append_assoc]at e;rw[(E8 _ _ _ _ a c.1 e).1]at h;exact h rfl
def Ady(t:Tal):Value:=.agg #[vI t.1.k,vI t.1.n,.string t.1.s,vI t.2]
def VTl(_:Nat)(t:Tal)(v:Value)(_:World):Prop:=v=Ady t
theorem Zd:(Tryz.prog.info? 121).map (·.size)=some 4:=Ϡ
theorem Te(R:Nat)(s:List UInt8)(w:ϙ)(h:RQ w R s)(X:s.length<=10000000):
 η 144 #[μ R] w (Rd Bq GY (VTl w.heap.size) R s w):=by
 have KR:=hIz (λ(f:ϙ) (g:Al R w f) (l:RR f R s)=>JW R s f (h.go g l) X);have KM:=hIz (λso (f:ϙ) t (g:Al R w f) (l:RR f R t)=>Dz R so f (h.go g l).err);have KN:=hIz (λt (f:ϙ) (g:Al R w f) (l:RR f R t) (ht:t.length<=10000000)=>CH R t f (h.go g l) ht);have hR:=h.rr.lt;have H:=hqz X;have HR:ϛ (RR w R s):=h.rr;clear h X;go_enter func144,ntmps144;go_wp2_with fail;have d:=hy ((ES.base HR.o).new ϟ [ω,ω,ϊ,ω] 121);generalize (World.alloc w _)=V at d⊢;refine(KR.o V d.o.keep d.o.rr).mono ?_;rintro o f ⟨g,⟨r,t,v,C,rfl,rfl,⟨ad,af,rfl,Y⟩,l⟩|⟨U,v,rfl⟩⟩
 rotate_left
 ·exact⟨rfl,d.o.keep.trans g,.inr ⟨U.fst.tal,_,rfl⟩⟩
 replace d:=hy (d.o.call hR g l);have I:=hqz C;replace H:ϛ (t.length<=10000000):=by have:=H.o;rw[lAp]at this;show _<=_;omega
 clear C g l KR;by_cases P:r.length=1
 rotate_left
 ·have b1:((r.length:Int)==1)=false:=by simpa using(show¬((r.length:Int)=1) by omega)
  go_wp2_with (go_at_call 139;refine(KM.o _ _ _ d.o.keep d.o.rr).mono ?_;rintro e F ⟨rfl,_,Q⟩;obtain⟨v,rfl⟩:=Q (by simp[b1]));exact⟨rfl,d.o.keep,.inr ⟨Bad.tal1 I.o P,_,rfl⟩⟩
 obtain⟨c,rfl⟩:=List.length_eq_one_iff.1 P;have ae:=Fg Y;obtain⟨B,O,rfl,J,L,M⟩:=ae 0 ϟ;simp only[List.getD_cons_zero,Nat.zero_mul,Nat.add_zero]at J L M;obtain⟨k,n,q⟩:=c;dsimp only at J L M;have D:Ai f B 119:=Av Y rfl;have ab:B≠R:=tyAt_apart D d.o.rr.tb Ϟ;have Z:ϛ (∀w',Al R f w'->Ϗ w' B O (vI k) (vI n) (.string q)):=λw' g=>by
  have p:=g.2 B (A2 D) ab;exact⟨(cOb (w:=f) (a:=⟨B,O,none⟩) p).trans J,(cOb (w:=f) (a:=⟨B,O+1,none⟩) p).trans L,(cOb (w:=f) (a:=⟨B,O+1+1,none⟩) p).trans M⟩
 clear Y ae P;go_upto_region 3 with(go_at_call 139;refine(KM.o _ _ _ d.o.keep d.o.rr).mono ?_;rintro e F ⟨rfl,Q,_⟩;obtain rfl:=Q ϟ);have y:Al R F F.drew:=Al.of bR.drew;refine gr.Ds 7 rfl Ϡ (S:=(λw'=>Ϗ w' B O (vI k) (vI n) (.string q))) (Z.o _ y) (λx=>?_);refine tkz 0 11 x ?_;refine tkz 1 12 x ?_;refine tkz 2 13 x ?_;refine tkz 3 14 x ?_;refine rD 4 λK A=>?_;go_simp;refine(KN.o t F.drew (d.o.keep.trans y) (d.o.rr.below bR.drew) H.o).mono ?_;rintro o i ⟨g,⟨m,t2,v,C,rfl,rfl,rfl,l⟩|⟨U,v,rfl⟩⟩
 rotate_left
 ·exact⟨rfl,(d.o.keep.trans y).trans g,.inr ⟨(U.snd E8 I.o).tal,_,rfl⟩⟩
 have HN:ϛ (okN m):=C;replace d:=hy (d.o.call hR (y.trans g) l);have E:=Z.o i (y.trans g);have aa:ϛ (i.there w.heap.size 0 4):=(d.o.blk 0 _ rfl).1.there;clear C l;go_wp2_with fail;refine A.out _ _ E (λx=>?_);clear A K
 try simp only[Act.put,sI,sZ,sS]
 refine tkz 5 16 x ?_;refine rD 6 λK A=>?_;refine jn.Jb rfl 121 (.tmp 2) (.tmp 16) rfl w.heap.size 0 #[vI k,vI n,.string q,vI m] rfl rfl aa.o Zd Ϧ ?_;have G:ϛ (RR (World.setCells i w.heap.size 0 [vI k,vI n,.string q,vI m]) R t2/\Al R w (World.setCells i w.heap.size 0 [vI k,vI n,.string q,vI m])):=⟨d.o.rr.sets ϝ _ _,C1 d.o.keep nR _ _⟩;have z:ϛ ((World.setCells i w.heap.size 0 [vI k,vI n,.string q,vI m]).rangeAt w.heap.size 0 [vI k,vI n,.string q,vI m]):=World.rangeAt_setCells_same _ _ _ _ aa.o;have ac:Ϗ (World.setCells i w.heap.size 0 [vI k,vI n,.string q,vI m]) B O (vI k) (vI n) (.string q):=by
  have p:(World.setCells i w.heap.size 0 [vI k,vI n,.string q,vI m]).heap[B]? =i.heap[B]? :=BS (tyAt_apart (A0 D ((y.trans g).2 B (A2 D) ab)) (d.o.blk 0 _ rfl).2 Ϟ) _ _ _;exact⟨(cOb (w:=i) (a:=⟨B,O,none⟩) p).trans E.1,(cOb (w:=i) (a:=⟨B,O+1,none⟩) p).trans E.2.1,(cOb (w:=i) (a:=⟨B,O+1+1,none⟩) p).trans E.2.2⟩
 generalize (World.setCells i w.heap.size 0 [vI k,vI n,.string q,vI m])=W' at z G ac⊢;refine A.out _ _ ac (λx=>?_);clear A K;refine wpAnyH_done Ϡ ?_ _;have z0:=z.o 0 _ rfl;have z1:=z.o 1 _ rfl;have z2:=z.o 2 _ rfl;have z3:=z.o 3 _ rfl;simp only[Nat.zero_add]at z0 z1 z2 z3;go_wp2_with fail;exact bodyPost_ret (v:=.agg #[vI k,vI n,.string q,vI m]) (by simp[results,results144,go_sem,z0,z1,z2,z3]) rfl ⟨G.o.2,.inl ⟨(⟨k,n,q⟩,m),t2,_,⟨I.o,HN.o⟩,by unfold Bq;rw[append_assoc],rfl,rfl,G.o.1⟩⟩
def Ww(t:Tal):List Value:=[vI t.1.k,vI t.1.n,.string t.1.s,vI t.2]
def PTl(y x:Tal)(_:World)(_:Nat):Prop:=y=x
theorem QR(y x:Tal):Dx [] (PTl y x):=Fc _
def VLt(base:Nat)(l:List Tal)(v:Value)(w:World):Prop:=∃ad cap st,v=vS ad l.length cap/\OL 121 4 Ww PTl st l v w base
theorem Ze(t:Tal):8<=(Bq t).length:=by
 unfold Bq;rw[lAp,Am];omega
theorem Wx{α:Type} [Inhabited α]{s l:List α}(h:s.length=l.length)(e:∀i,i<l.length->s.getD i default=l.getD i default):s=l:=by
 apply List.ext_getElem h;intro i c a;have:=e i a;rwa[gDe,gEe c,gDe,gEe a]at this
theorem Adz{a l:List Tal}(h:OL 121 4 Ww PTl a l v w b):AbV w b v l:=by
 have e:=Wx h.len h.each;subst e;exact h.own
def Bo:List Tal->List UInt8:=lst Bq
def ID:List Tal->Prop:=okL GY
def VTs(base:Nat)(l:List Tal)(v:Value)(w:World):Prop:=∃ad cap,v=vS ad l.length cap/\AbV w base v l
theorem Ad0(l:List Tal):8<=(Bo l).length:=by
 unfold Bo lst;rw[lAp,Am];omega
theorem UL:Pre Bo ID:=UK.lst
def hdC(h:Option Addr×Nat×Nat):List Value:=[hdV h]
def PBg(h:Option Addr×Nat×Nat)(l:List Tal)(w:World)(b:Nat):Prop:=h.2.1=l.length/\AbV w b (hdV h) l
theorem Ga(h:Option Addr×Nat×Nat)(l:List Tal):Dx ([]++[121]) (PBg h l):=(Fc _).and (CE 121 4 (hdV h) _ _)
def VBs(base:Nat)(l:List (List Tal))(v:Value)(w:World):Prop:=∃ad cap st,v=vS ad l.length cap/\OL 117 1 hdC PBg st l v w base
theorem Abu:(Tryz.prog.info? 117).map (λi=>(i.zero,i.size,i.bytes))=some (some (vS none 0 0),1,24):=Ϡ
theorem Wy(R C:Nat)(s:List UInt8)(w:ϙ)(h:RQ w R s)(m:RP w C R)(E:s.length<=2000000):
 η 143 #[μ C] w (Rd Bq GY (VTl w.heap.size) R s w):=by
 have B:=hIz (λ(a:ϙ) (f:Ϝ w a)=>Te R s a (h.below f) ϝ);have G:=m.cell;have H:=m.lt;have D:=h.rr.lt;have c:ϛ (RR w R s):=h.rr;clear h E;go_enter func143,ntmps143;go_wp2_with fail;have d:=hy ((ES.base c.o).new ϟ [ω,ω,ϊ,ω] 121);have g:Ϝ w (World.alloc w (.cells ([ω,ω,ϊ,ω]:List Value).toArray 121)):=Ϩ;generalize (World.alloc w _)=V at d g⊢;refine(B.o V g).mono ?_;rintro o a ⟨i,⟨x,t,v,n,rfl,rfl,rfl,k⟩|⟨f,v,rfl⟩⟩
 rotate_left
 ·exact⟨rfl,d.o.keep.trans i,.inr ⟨f,_,rfl⟩⟩
 have A:ϛ (GY x):=n;replace d:=hy (d.o.call D i k);have l:ϛ (a.there w.heap.size 0 4):=(d.o.blk 0 _ rfl).1.there;have e:ϛ (RR (World.setCells a w.heap.size 0 [vI x.1.k,vI x.1.n,.string x.1.s,vI x.2]) R t/\Al R w (World.setCells a w.heap.size 0 [vI x.1.k,vI x.1.n,.string x.1.s,vI x.2])/\True):=
  ⟨k.sets ϝ _ _,C1 d.o.keep nR _ _,trivial⟩
 unfold Ady;clear k i n g;have c:ϛ ((World.setCells a w.heap.size 0 [vI x.1.k,vI x.1.n,.string x.1.s,vI x.2]).rangeAt w.heap.size 0 [vI x.1.k,vI x.1.n,.string x.1.s,vI x.2]):=World.rangeAt_setCells_same _ _ _ _ l.o;go_wp2_with ((with_reducible refine wpList_store_mid ?_ 121 (.tmp 1) (.tmp 3) ?_ w.heap.size 0 #[vI x.1.k,vI x.1.n,.string x.1.s,vI x.2] ?_ ?_ ?_ ?_ ?_ ?_);exact rfl;exact rfl;exact rfl;exact rfl;exact l.o;exact Zd;exact Ϧ);generalize (World.setCells a w.heap.size 0 [vI x.1.k,vI x.1.n,.string x.1.s,vI x.2])=F at c e⊢;have p:=c.o 0 _ rfl;have q:=c.o 1 _ rfl;have y:=c.o 2 _ rfl;have z:=c.o 3 _ rfl;simp only[Nat.zero_add]at p q y z;exact bodyPost_ret (v:=.agg #[vI x.1.k,vI x.1.n,.string x.1.s,vI x.2]) (by simp[results,results143,go_sem,p,q,y,z]) rfl ⟨e.o.2.1,.inl ⟨x,t,_,A.o,rfl,rfl,rfl,e.o.1⟩⟩
theorem Wz(R C:Nat)(s:List UInt8)(w:ϙ)(h:RQ w R s)(hp:RP w C R)(Y:s.length<=2000000):
 η 142 #[μ R,.func (.func 143) #[] #[μ C]] w (Rd (lst Bq) (okL GY) (VLt w.heap.size) R s w):=by
 have X:=hy (CH R s w h ϝ);have V:=hIz (λso (c:ϙ) t (o:Al R w c) (M:RR c R t)=>Dz R so c (h.go o M).err);have KO:=hIz (λt (c:ϙ) (o:Al R w c) (M:RR c R t) (ht:t.length<=2000000)=>Wy R C t c (h.go o M) (hp.keep o) ϝ);have P:=hqz Y;clear h hp Y;go_enter func142,ntmps142;go_wp2_with fail;refine X.o.mono ?_;rintro e c ⟨q,⟨n,t,v,Z,rfl,rfl,rfl,O⟩|⟨K,v,rfl⟩⟩
 rotate_left
 ·exact⟨rfl,q,.inr ⟨K.len,_,rfl⟩⟩
 have I:ϛ (okN n):=Z;clear Z X;by_cases h0:0<=n
 rotate_left
 ·go_wp2_with (go_at_call 139;refine(V.o _ _ _ q O).mono ?_;rintro e w2 ⟨rfl,_,J⟩;obtain⟨v,rfl⟩:=J Ϥ);exact⟨rfl,q,.inr ⟨Bad.neg I.o ϝ,_,rfl⟩⟩
 obtain⟨m,rfl⟩:∃m:Nat,n=m:=⟨n.toNat,ϝ⟩;have Q:ϛ (m<=9223372036854775807):=by have:=I.o.2;show _<=_;omega
 have F:ϛ (RR c R t/\Al R w c):=⟨O,q⟩;clear O q I;go_wp2_with (go_at_call 139;refine(V.o _ _ _ F.o.2 F.o.1).mono ?_;rintro e w2 ⟨rfl,J,_⟩;obtain rfl:=J ϟ)
 go_loopw [6,14] (λv i wr=> ∃(k:Nat) (l:List Tal) (f:List Tal) (u:List UInt8),l.length=k/\k<=m/\i=vI k/\OL 121 4 Ww PTl f l v wr w.heap.size/\(∀x∈l,GY x)/\t=l.flatMap Bq++u/\RR wr R u/\Al R w wr) (λ_ i _=>m - (intOf i).toNat)
 case atStart=>exact⟨0,[],[],t,rfl,Nat.zero_le _,rfl,OL.nil ..,ϟ,rfl,F.o⟩
 case round=>
  obtain⟨k,l,f,u,A,am,rfl,B,H,rfl,D,d⟩:=hrel;have an:8 * k+u.length<=2000000:=by
   have:=P.o;have:=E6 Ze l;rw[lAp,lAp,Am]at *;omega
  by_cases ag:k<m
  ·have a:ϛ (OL 121 4 Ww PTl f l u6 wr w.heap.size/\Ai wr R 124/\(∀x∈l,GY x)/\Al R w wr/\l.length=k):=⟨B,D.tb,H,d,A⟩;have i1:(0:Int)<=(k:Int):=ϝ;have i2:(k:Int)<(m:Int):=ϝ;have ak:u.length<=2000000:=ϝ;clear B H A P F;go_wp2_with fail;refine(KO.o u wr d D ak).mono ?_;rintro e p ⟨z,⟨x,u2,v,hx,rfl,rfl,rfl,aa⟩|⟨K,v,rfl⟩⟩
   rotate_left
   ·exact⟨rfl,d.trans z,.inr ⟨Bad.elem UK a.o.2.2.1 Q.o (by rw[a.o.2.2.2.2];exact ag) K,_,rfl⟩⟩
   have E:ϛ (OL 121 4 Ww PTl f l u6 p w.heap.size):=(CR QR f l u6).keptR Ϟ a.o.1 z a.o.2.1;have ae:=d.1.size;have HP:ϛ (PTl x x p w.heap.size):=rfl;unfold Ady;have G:ϛ (RR p R u2/\Al R w p/\GY x):=⟨aa,d.trans z,hx⟩;have ac:w.heap.size<=p.heap.size:=Nat.le_trans d.1.size z.1.size;have U:=hy E.o.own;rw[a.o.2.2.2.2]at U;clear aa z D d hx ae;go_wp2_with (at_builtin;refine EG rfl (.tmp 16) (.tmp 19) 121 117 rfl (.agg #[ω,ω,ϊ,ω]) 4 40 underlying117 Aex rfl Ϟ Ϟ w.heap.size u6 _ [vI x.1.k,vI x.1.n,.string x.1.s,vI x.2] p k U.o rfl Ϧ ϝ ac rfl rfl ?_;intro g al w4 ai L);have hs:=OL.snoc QR Ϟ (y:=x) (x:=x) E.o HP.o L (by rw[a.o.2.2.2.2];exact ai);have ah:u6.ownBlock≠some R:=λe=>tyAt_apart G.o.1.tb (Av E.o.own e) Ϟ rfl;have aj:=G.o.1.grown L ah;have af:=DJ G.o.2.1 L (λg e=>(AE E.o.own e).1);go_wp2;go_roundw
   case rel=>exact⟨k+1,l++[x],f++[x],u2,by simp[a.o.2.2.2.2],ϝ,by go_num,hs,EF a.o.2.2.1 G.o.2.2,Da _ _ _ _,aj,af⟩
   case measure=>simp[intOf];omega
  ·have o:k=m:=ϝ;subst o;have i2:¬((k:Int)<(k:Int)):=ϝ;obtain⟨ad,ab,hv⟩:=B.form;rw[A]at hv;have a:ϛ (OL 121 4 Ww PTl f l u6 wr w.heap.size/\(∀x∈l,GY x)/\RR wr R u/\Al R w wr/\l.length=k):=⟨B,H,D,d,A⟩;clear B D d H A;subst hv;go_wp2;go_ret;exact⟨a.o.2.2.2.1,.inl ⟨l,u,_,⟨by rw[a.o.2.2.2.2];exact Q.o,a.o.2.1⟩,by unfold lst;rw[a.o.2.2.2.2,append_assoc],rfl,⟨ad,ab,f,by rw[a.o.2.2.2.2];rfl,a.o.1⟩,a.o.2.2.1⟩⟩
theorem Zf(R C:Nat)(s:List UInt8)(w:ϙ)(h:RQ w R s)(c:RP w C R)(g:s.length<=2000000):
 η 141 #[μ C] w (Rd Bo ID (VTs w.heap.size) R s w):=by
 have z:∀(d:Fn) (first a:Array Value) (w:ϙ),(Instr.makeFunc d first a).run Tryz.prog w= .ok (.func d first a) w:=λ_ _ _ _=>rfl;have l:=hy (Wz R C s w h c g);have y:=c.cell;have q:=c.lt;clear h c g;go_enter func141,ntmps141;go_wp2_with fail;refine l.o.mono ?_;rintro e B ⟨f,⟨x,t,v,p,rfl,rfl,⟨m,a,A,rfl,i⟩,o⟩|⟨n,v,rfl⟩⟩
 rotate_left
 ·exact⟨rfl,f,.inr ⟨n,_,rfl⟩⟩
 have k:=hy (Adz i);clear i;go_wp2;go_ret;exact⟨f,.inl ⟨x,t,_,p,rfl,rfl,⟨m,a,rfl,k.o⟩,o⟩⟩
theorem W6(R C:Nat)(s:List UInt8)(w:ϙ)(h:RQ w R s)(hp:RP w C R)(hm:s.length<=2000000):
 η 140 #[μ R,.func (.func 141) #[] #[μ C]] w (Rd (lst Bo) (okL ID) (VBs w.heap.size) R s w):=by
 have Z:=hy (CH R s w h ϝ);have Y:=hIz (λso (c:ϙ) t (q:Al R w c) (P:RR c R t)=>Dz R so c (h.go q P).err);have KO:=hIz (λt (c:ϙ) (q:Al R w c) (P:RR c R t) (ht:t.length<=2000000)=>Zf R C t c (h.go q P) (hp.keep q) ϝ);have U:=hqz hm;clear h hp hm;go_enter func140,ntmps140;go_wp2_with fail;refine Z.o.mono ?_;rintro e c ⟨A,⟨n,t,v,hn,rfl,rfl,rfl,Q⟩|⟨M,v,rfl⟩⟩
 rotate_left
 ·exact⟨rfl,A,.inr ⟨M.len,_,rfl⟩⟩
 have K:ϛ (okN n):=hn;clear hn Z;by_cases h0:0<=n
 rotate_left
 ·go_wp2_with (go_at_call 139;refine(Y.o _ _ _ A Q).mono ?_;rintro e w2 ⟨rfl,_,L⟩;obtain⟨v,rfl⟩:=L Ϥ);exact⟨rfl,A,.inr ⟨Bad.neg K.o ϝ,_,rfl⟩⟩
 obtain⟨m,rfl⟩:∃m:Nat,n=m:=⟨n.toNat,ϝ⟩;have V:ϛ (m<=9223372036854775807):=by have:=K.o.2;show _<=_;omega
 have H:ϛ (RR c R t/\Al R w c):=⟨Q,A⟩;clear Q A K;go_wp2_with (go_at_call 139;refine(Y.o _ _ _ H.o.2 H.o.1).mono ?_;rintro e w2 ⟨rfl,L,_⟩;obtain rfl:=L ϟ)
 go_loopw [6,14] (λv i wr=> ∃(k:Nat) (l:List (List Tal)) (f:List (Option Addr×Nat×Nat)) (u:List UInt8),l.length=k/\k<=m/\i=vI k/\OL 117 1 hdC PBg f l v wr w.heap.size/\(∀x∈l,ID x)/\t=l.flatMap Bo++u/\RR wr R u/\Al R w wr) (λ_ i _=>m - (intOf i).toNat)
 case atStart=>exact⟨0,[],[],t,rfl,Nat.zero_le _,rfl,OL.nil ..,ϟ,rfl,H.o⟩
 case round=>
  obtain⟨k,l,f,u,D,am,rfl,E,J,rfl,F,d⟩:=hrel;have an:8 * k+u.length<=2000000:=by
   have:=U.o;have:=E6 Ad0 l;rw[lAp,lAp,Am]at *;omega
  by_cases af:k<m
  ·have a:ϛ (OL 117 1 hdC PBg f l u6 wr w.heap.size/\Ai wr R 124/\(∀x∈l,ID x)/\Al R w wr/\l.length=k):=⟨E,F.tb,J,d,D⟩;have i1:(0:Int)<=(k:Int):=ϝ;have i2:(k:Int)<(m:Int):=ϝ;have ak:u.length<=2000000:=ϝ;clear E J D U H;go_wp2_with fail;refine(KO.o u wr d F ak).mono ?_;rintro e z ⟨B,⟨x,u2,v,hx,rfl,rfl,⟨o,p,rfl,ah⟩,ab⟩|⟨M,v,rfl⟩⟩
   rotate_left
   ·exact⟨rfl,d.trans B,.inr ⟨Bad.elem UL a.o.2.2.1 V.o (by rw[a.o.2.2.2.2];exact af) M,_,rfl⟩⟩
   have G:ϛ (OL 117 1 hdC PBg f l u6 z w.heap.size):=(CR Ga f l u6).keptR Ϟ a.o.1 B a.o.2.1;have aa:=d.1.size;have HP:ϛ (PBg (o,x.length,p) x z w.heap.size):=⟨rfl,World.ownsRow.mono ah aa⟩;have I:ϛ (RR z R u2/\Al R w z/\ID x):=⟨ab,d.trans B,hx⟩;have ac:w.heap.size<=z.heap.size:=Nat.le_trans d.1.size B.1.size;have X:=hy G.o.own;rw[a.o.2.2.2.2]at X;clear ab B F d hx aa;go_wp2_with (at_builtin;refine EG rfl (.tmp 16) (.tmp 19) 117 100 rfl (vS none 0 0) 1 24 underlying100 Abu rfl Ϟ Ϟ w.heap.size u6 _ [vS o x.length p] z k X.o rfl Ϧ ϝ ac rfl rfl ?_;intro g al w4 ai O);have hs:=OL.snoc Ga Ϟ (y:=(o,x.length,p)) (x:=x) G.o HP.o O (by rw[a.o.2.2.2.2];exact ai);have ag:u6.ownBlock≠some R:=λe=>tyAt_apart I.o.1.tb (Av G.o.own e) Ϟ rfl;have aj:=I.o.1.grown O ag;have ae:=DJ I.o.2.1 O (λg e=>(AE G.o.own e).1);go_wp2;go_roundw
   case rel=>exact⟨k+1,l++[x],f++[(o,x.length,p)],u2,by simp[a.o.2.2.2.2],ϝ,by go_num,hs,EF a.o.2.2.1 I.o.2.2,Da _ _ _ _,aj,ae⟩
   case measure=>simp[intOf];omega
  ·have q:k=m:=ϝ;subst q;have i2:¬((k:Int)<(k:Int)):=ϝ;obtain⟨o,p,hv⟩:=E.form;rw[D]at hv;have a:ϛ (OL 117 1 hdC PBg f l u6 wr w.heap.size/\(∀x∈l,ID x)/\RR wr R u/\Al R w wr/\l.length=k):=⟨E,J,F,d,D⟩;clear E F d J D;subst hv;go_wp2;go_ret;exact⟨a.o.2.2.2.1,.inl ⟨l,u,_,⟨by rw[a.o.2.2.2.2];exact V.o,a.o.2.1⟩,by unfold lst;rw[a.o.2.2.2.2,append_assoc],rfl,⟨o,p,f,by rw[a.o.2.2.2.2];rfl,a.o.1⟩,a.o.2.2.1⟩⟩
def AM(g:gr.Grp):List UInt8:=C7 g.row++AU g.n++lst Bo g.bags
def F4(g:gr.Grp):Prop:=rowOk g.row/\okN g.n/\okL ID g.bags
def ptG(g:gr.Grp):List Cel×Int×List (List Tal):=(g.row,g.n,g.bags)
def Ad1:List Cel×Int×List (List Tal)->List UInt8:=cat C7 (cat AU (lst Bo))
def Aep:List Cel×Int×List (List Tal)->Prop:=okP rowOk (okP okN (okL ID))
theorem QS(g:gr.Grp):AM g=Ad1 (ptG g):=by
 unfold AM Ad1 ptG;simp only[cat,append_assoc]
theorem QT(g:gr.Grp)(h:F4 g):Aep (ptG g):=h
theorem Abv(x y:gr.Grp)(h:ptG x=ptG y):x=y:=by
 obtain⟨a,b,c⟩:=x;obtain⟨d,e,f⟩:=y;simp only[ptG,Prod.mk.injEq]at h;obtain⟨rfl,rfl,rfl⟩:=h;rfl
theorem P5:Pre AM F4:=Pre.via (E8.cat (Bu.cat UL.lst)) ptG (λx y _ _=>Abv x y) QS QT
theorem Bad.grp(h:Bad Ad1 Aep s):Bad AM F4 s:=h.via ptG QS QT
theorem Ad2(g:gr.Grp):8<=(AM g).length:=by
 unfold AM;simp only[lAp,Am];omega
def OG1(x:gr.GX)(g:gr.Grp)(w:World)(b:Nat):Prop:=AA w b (vS x.r g.row.length x.rc) g.row/\OL 117 1 hdC PBg x.hs g.bags (vS x.b g.bags.length x.bc) w b
def Ad3:List TypeId:=[119]++(117::([]++[121]))
theorem J9(x:gr.GX)(g:gr.Grp):Dx Ad3 (OG1 x g):=(CE 119 3 (vS x.r g.row.length x.rc) _ _).and (CR Ga _ _ _)
def VG(base:Nat)(g:gr.Grp)(v:Value)(w:World):Prop:=∃x:gr.GX,v=gr.Hz x g/\OG1 x g w base
theorem Zg:(Tryz.prog.info? 102).map (·.size)=some 3:=Ϡ
theorem Tf(R:Nat)(s:List UInt8)(w:ϙ)(h:RQ w R s)(hm:s.length<=2000000):
 η 78 #[μ R] w (Rd AM F4 (VG w.heap.size) R s w):=by
 have aa:∀(fn:Fn) (first c:Array Value) (w:ϙ),(Instr.makeFunc fn first c).run Tryz.prog w= .ok (.func fn first c) w:=λ_ _ _ _=>rfl;have KR:=hIz (λ(g:ϙ) (e:Al R w g) (l:RR g R s)=>JW R s g (h.go e l) ϝ);have KN:=hIz (λt (g:ϙ) (e:Al R w g) (l:RR g R t) (ht:t.length<=2000000)=>CH R t g (h.go e l) ϝ);have Z:=hIz (λt (g:ϙ) C (e:Al R w g) (l:RR g R t) (hp:RP g C R) (ht:t.length<=2000000)=>W6 R C t g (h.go e l) hp ht);have z:=h.rr.lt;have y:=hqz hm;have HR:ϛ (RR w R s):=h.rr;clear h hm;go_enter func78,ntmps78;go_wp2_with fail;have a:=hy ((((ES.base HR.o).new ϟ [μ R] 71).new ϟ [ψ,ω,ψ] 102).new ϟ [ψ,ω,ψ] 102);generalize World.alloc (World.alloc (World.alloc w _) _) _=V at a⊢;refine(KR.o V a.o.keep a.o.rr).mono ?_;rintro o g ⟨e,⟨r,t,v,x,rfl,rfl,⟨d,c,rfl,G⟩,l⟩|⟨F,v,rfl⟩⟩
 rotate_left
 ·exact⟨rfl,a.o.keep.trans e,.inr ⟨F.fst.grp,_,rfl⟩⟩
 have M:=hqz x;replace y:ϛ (t.length<=2000000):=by have:=y.o;rw[lAp]at this;show _<=_;omega
 have m:ϛ (AA g w (vS d r.length c) r):=World.ownsRow.mono G a.o.keep.1.size;obtain⟨f,O⟩:=nM r.length;have L:=hqz O;unfold AA at m;rw[O]at m⊢;clear x G O KR;replace a:=hy (a.o.call z e l);have D:=(a.o.blk 2 _ rfl).1.cell 0 _ rfl;have E:=(a.o.blk 2 _ rfl).1.frz 0;clear l e;go_upto_region 3 with fail;generalize p:World.setCell g _ _=S1;replace m:=hy ((CE 119 3 (vS d f c) _ _).put (T:=102) Ϟ m.o p (a.o.blk 2 _ rfl).2);replace a:=hy (a.o.put p z 2 rfl rfl ϟ);clear D E p;have B:=(a.o.blk 0 _ rfl).1.cell 0 _ rfl;rw[Nat.add_zero]at B;go_wp2_with fail;clear B;refine(KN.o t S1 a.o.keep a.o.rr y.o).mono ?_;rintro o w2 ⟨e,⟨n,t2,v,x,rfl,rfl,rfl,l⟩|⟨F,v,rfl⟩⟩
 rotate_left
 ·exact⟨rfl,a.o.keep.trans e,.inr ⟨((F.fst).snd E8 M.o).grp,_,rfl⟩⟩
 have U:ϛ (okN n):=x;replace y:ϛ (t2.length<=2000000):=by have:=y.o;rw[lAp]at this;show _<=_;omega
 replace m:=hy ((CE 119 3 (vS d f c) _ _).keptR Ϟ m.o e a.o.rr.tb);clear x KN;replace a:=hy (a.o.call z e l);have D:=(a.o.blk 2 _ rfl).1.cell 1 _ rfl;have E:=(a.o.blk 2 _ rfl).1.frz 1;clear l e;go_upto_region 4 with fail;generalize p:World.setCell w2 _ _=S2;replace m:=hy ((CE 119 3 (vS d f c) _ _).put (T:=102) Ϟ m.o p (a.o.blk 2 _ rfl).2);replace a:=hy (a.o.put p z 2 rfl rfl ϟ);clear D E p;have B:=(a.o.blk 0 _ rfl).1.cell 0 _ rfl;rw[Nat.add_zero]at B;go_wp2_with fail;clear B;have X:ϛ (RP S2 w.heap.size R):=⟨(a.o.blk 0 _ rfl).1.cell 0 _ rfl,ϝ,(a.o.blk 0 _ rfl).1.lt⟩;refine(Z.o t2 S2 w.heap.size a.o.keep a.o.rr X.o y.o).mono ?_;rintro o w3 ⟨e,⟨I,t3,v,x,rfl,rfl,⟨i,k,P,rfl,G⟩,l⟩|⟨F,v,rfl⟩⟩
 rotate_left
 ·exact⟨rfl,a.o.keep.trans e,.inr ⟨((F.snd Bu U.o).snd E8 M.o).grp,_,rfl⟩⟩
 have HY:=hqz x;replace m:=hy ((CE 119 3 (vS d f c) _ _).keptR Ϟ m.o e a.o.rr.tb);obtain⟨bl,J⟩:=nM I.length;have Q:=hqz J;have K:ϛ (OL 117 1 hdC PBg P I (vS i bl k) w3 w.heap.size):=(CR Ga _ _ _).mono (by rw[<-J];exact G) a.o.keep.1.size;rw[J];clear x G J Z X;replace a:=hy (a.o.call z e l);have D:=(a.o.blk 2 _ rfl).1.cell 2 _ rfl;have E:=(a.o.blk 2 _ rfl).1.frz 2;clear l e;go_upto_region 5 with fail;generalize p:World.setCell w3 _ _=q;replace m:=hy ((CE 119 3 (vS d f c) _ _).put (T:=102) Ϟ m.o p (a.o.blk 2 _ rfl).2);replace K:=hy ((CR Ga _ _ _).put (T:=102) Ϟ K.o p (a.o.blk 2 _ rfl).2);replace a:=hy (a.o.put p z 2 rfl rfl ϟ);clear D E p;have d0:=(a.o.blk 2 _ rfl).1.cell 0 _ rfl;have d1:=(a.o.blk 2 _ rfl).1.cell 1 _ rfl;have d2:=(a.o.blk 2 _ rfl).1.cell 2 _ rfl;have Y:ϛ (q.there (w.heap.size+1) 0 3):=(a.o.blk 1 _ rfl).1.there;have A:ϛ (RR (World.setCells q (w.heap.size+1) 0 [vS d f c,vI n,vS i bl k]) R t3/\Al R w (World.setCells q (w.heap.size+1) 0 [vS d f c,vI n,vS i bl k])/\AA (World.setCells q (w.heap.size+1) 0 [vS d f c,vI n,vS i bl k]) w.heap.size (vS d f c) r/\OL 117 1 hdC PBg P I (vS i bl k) (World.setCells q (w.heap.size+1) 0 [vS d f c,vI n,vS i bl k]) w.heap.size):=
  ⟨a.o.rr.sets ϝ _ _,C1 a.o.keep (Nat.le_succ _) _ _,by have:=(CE 119 3 (vS d f c) _ _).sets (T:=102) Ϟ [vS d f c,vI n,vS i bl k] 0 q m.o (a.o.blk 1 _ rfl).2;unfold AA;rw[L.o];exact this,(CR Ga _ _ _).sets (T:=102) Ϟ [vS d f c,vI n,vS i bl k] 0 q K.o (a.o.blk 1 _ rfl).2⟩
 have H:ϛ ((World.setCells q (w.heap.size+1) 0 [vS d f c,vI n,vS i bl k]).rangeAt (w.heap.size+1) 0 [vS d f c,vI n,vS i bl k]):=World.rangeAt_setCells_same _ _ _ _ Y.o;go_wp2_with ((with_reducible refine wpList_store_mid ?_ 102 (.tmp 2) (.tmp 14) ?_ (w.heap.size+1) 0 #[vS d f c,vI n,vS i bl k] ?_ ?_ ?_ ?_ ?_ ?_);exact rfl;exact rfl;exact rfl;exact rfl;exact Y.o;exact Zg;exact Ϧ);generalize (World.setCells q (w.heap.size+1) 0 [vS d f c,vI n,vS i bl k])=W' at H A⊢;have z0:=H.o 0 _ rfl;have z1:=H.o 1 _ rfl;have z2:=H.o 2 _ rfl;simp only[Nat.zero_add]at z0 z1 z2;exact bodyPost_ret (v:=.agg #[vS d f c,vI n,vS i bl k]) (by simp[results,results78,go_sem,z0,z1,z2]) rfl ⟨A.o.2.1,.inl ⟨⟨r,n,I⟩,t3,_,⟨M.o,U.o,HY.o⟩,by unfold AM;simp only[append_assoc],rfl,⟨⟨d,c,i,k,P⟩,by unfold gr.Hz;dsimp only;rw[L.o,Q.o],by dsimp only;rw[L.o];exact A.o.2.2.1,by dsimp only;rw[Q.o];exact A.o.2.2.2⟩,A.o.1⟩⟩
theorem P6(v:Value)(a:List EM)(l:List Ent):Dx [166,119] (λw b=>OE w b v a l):=λw w' b k f c h e=>
 (f.same h (λg m t d i=>e g t ⟨_,_,d⟩ (by
  rcases i with⟨_,rfl⟩|rfl
  ·decide
  ·decide))).mono c
def Tg(p:Part):List Value:=[hdV p.1]
def PRn(p:Part)(r:List Ent)(w:World)(b:Nat):Prop:=p.1.2.1=r.length/\OE w b (hdV p.1) p.2 r
theorem JA(p:Part)(r:List Ent):Dx ([]++[166,119]) (PRn p r):=(Fc _).and (P6 _ _ _)
def VL2(base:Nat)(l:List (List Ent))(v:Value)(w:World):Prop:=∃ad cap st,v=vS ad l.length cap/\OL 33 1 Tg PRn st l v w base
theorem Aeq{a:List Part}{l:List (List Ent)}(h:OL 33 1 Tg PRn a l v w b):RS w b v a l:=
 ⟨by
  have:=h.own;rw[<-h.len]at this;rw[List.map_eq_flatMap];exact this,h.len,h.each⟩
theorem Abw(l:List Ent):8<=(lst AN l).length:=by
 unfold lst;rw[lAp,Am];omega
theorem Zh(R C D:Nat)(s:List UInt8)(w:ϙ)(h:RQ w R s)(a:RP w C R)(c:GP w D C R)(f:s.length<=2000000):
 η 208 #[μ C,μ D] w (Rd (lst AN) (okL Eg) (VL1 w.heap.size) R s w):=by
 have g:=hy (Oz R C s w h a f);have A:=a.cell;have n:=c.cell;unfold G1 at n;have y:=a.lt;have z:=c.lt;clear h a c f;go_enter func208,ntmps208;go_wp2_with fail;refine g.o.mono ?_;rintro e B ⟨d,⟨x,t,v,q,rfl,rfl,⟨i,k,l,rfl,o⟩,p⟩|⟨m,v,rfl⟩⟩
 rotate_left
 ·exact⟨rfl,d,.inr ⟨m,_,rfl⟩⟩
 go_wp2;go_ret;exact⟨d,.inl ⟨x,t,_,q,rfl,rfl,⟨i,k,l,rfl,o⟩,p⟩⟩
theorem W7(R C D:Nat)(s:List UInt8)(w:ϙ)(h:RQ w R s)(hp:RP w C R)(hd:GP w D C R)(hm:s.length<=2000000):
 η 207 #[μ R,.func (.func 208) #[] #[μ C,μ D]] w (Rd (lst (lst AN)) (okL (okL Eg)) (VL2 w.heap.size) R s w):=by
 have KN:=hy (CH R s w h ϝ);have KM:=hIz (λso (c:ϙ) t (o:Al R w c) (U:RR c R t)=>Dz R so c (h.go o U).err);have KO:=hIz (λt (c:ϙ) (o:Al R w c) (U:RR c R t) (ht:t.length<=2000000)=>Zh R C D t c (h.go o U) (hp.keep o) (hd.keep o) ϝ);have X:=hqz hm;clear h hp hm;go_enter func207,ntmps207;go_wp2_with fail;refine KN.o.mono ?_;rintro e c ⟨A,⟨n,t,v,hn,rfl,rfl,rfl,V⟩|⟨P,v,rfl⟩⟩
 rotate_left
 ·exact⟨rfl,A,.inr ⟨P.len,_,rfl⟩⟩
 have L:ϛ (okN n):=hn;clear hn KN;by_cases h0:0<=n
 rotate_left
 ·go_wp2_with (go_at_call 139;refine(KM.o _ _ _ A V).mono ?_;rintro e w2 ⟨rfl,_,O⟩;obtain⟨v,rfl⟩:=O Ϥ);exact⟨rfl,A,.inr ⟨Bad.neg L.o ϝ,_,rfl⟩⟩
 obtain⟨m,rfl⟩:∃m:Nat,n=m:=⟨n.toNat,ϝ⟩;have Y:ϛ (m<=9223372036854775807):=by have:=L.o.2;show _<=_;omega
 have I:ϛ (RR c R t/\Al R w c):=⟨V,A⟩;clear V A L;go_wp2_with (go_at_call 139;refine(KM.o _ _ _ I.o.2 I.o.1).mono ?_;rintro e w2 ⟨rfl,O,_⟩;obtain rfl:=O ϟ)
 go_loopw [6,14] (λv i wr=> ∃(k:Nat) (l:List (List Ent)) (f:List Part) (u:List UInt8),l.length=k/\k<=m/\i=vI k/\OL 33 1 Tg PRn f l v wr w.heap.size/\(∀x∈l,(okL Eg) x)/\t=l.flatMap (lst AN)++u/\RR wr R u/\Al R w wr) (λ_ i _=>m - (intOf i).toNat)
 case atStart=>exact⟨0,[],[],t,rfl,Nat.zero_le _,rfl,OL.nil ..,ϟ,rfl,I.o⟩
 case round=>
  obtain⟨k,l,f,u,E,am,rfl,F,K,rfl,G,d⟩:=hrel;have an:8 * k+u.length<=2000000:=by
   have:=X.o;have:=E6 Abw l;rw[lAp,lAp,Am]at *;omega
  by_cases af:k<m
  ·have a:ϛ (OL 33 1 Tg PRn f l u6 wr w.heap.size/\Ai wr R 124/\(∀x∈l,(okL Eg) x)/\Al R w wr/\l.length=k):=⟨F,G.tb,K,d,E⟩;have i1:(0:Int)<=(k:Int):=ϝ;have i2:(k:Int)<(m:Int):=ϝ;have ak:u.length<=2000000:=ϝ;clear F K E X I;go_wp2_with fail;refine(KO.o u wr d G ak).mono ?_;rintro e z ⟨B,⟨x,u2,v,hx,rfl,rfl,⟨p,q,M,rfl,ah⟩,ab⟩|⟨P,v,rfl⟩⟩
   rotate_left
   ·exact⟨rfl,d.trans B,.inr ⟨Bad.elem J8.lst a.o.2.2.1 Y.o (by rw[a.o.2.2.2.2];exact af) P,_,rfl⟩⟩
   have H:ϛ (OL 33 1 Tg PRn f l u6 z w.heap.size):=(CR JA f l u6).keptR Ϟ a.o.1 B a.o.2.1;have aa:=d.1.size;have HP:ϛ (PRn ((p,x.length,q),M) x z w.heap.size):=⟨rfl,ah.mono aa⟩;have J:ϛ (RR z R u2/\Al R w z/\(okL Eg) x):=⟨ab,d.trans B,hx⟩;have ac:w.heap.size<=z.heap.size:=Nat.le_trans d.1.size B.1.size;have Z:=hy H.o.own;rw[a.o.2.2.2.2]at Z;clear ab B G d hx aa;go_wp2_with (at_builtin;refine EG rfl (.tmp 16) (.tmp 19) 33 34 rfl (vS none 0 0) 1 24 underlying34 AbP rfl Ϟ Ϟ w.heap.size u6 _ [vS p x.length q] z k Z.o rfl Ϧ ϝ ac rfl rfl ?_;intro g al w4 ai Q);have hs:=OL.snoc JA Ϟ (y:=((p,x.length,q),M)) (x:=x) H.o HP.o Q (by rw[a.o.2.2.2.2];exact ai);have ag:u6.ownBlock≠some R:=λe=>tyAt_apart J.o.1.tb (Av H.o.own e) Ϟ rfl;have aj:=J.o.1.grown Q ag;have ae:=DJ J.o.2.1 Q (λg e=>(AE H.o.own e).1);go_wp2;go_roundw
   case rel=>exact⟨k+1,l++[x],f++[((p,x.length,q),M)],u2,by simp[a.o.2.2.2.2],ϝ,by go_num,hs,EF a.o.2.2.1 J.o.2.2,Da _ _ _ _,aj,ae⟩
   case measure=>simp[intOf];omega
  ·have o:k=m:=ϝ;subst o;have i2:¬((k:Int)<(k:Int)):=ϝ;obtain⟨p,q,hv⟩:=F.form;rw[E]at hv;have a:ϛ (OL 33 1 Tg PRn f l u6 wr w.heap.size/\(∀x∈l,(okL Eg) x)/\RR wr R u/\Al R w wr/\l.length=k):=⟨F,K,G,d,E⟩;clear F G d K E;subst hv;go_wp2;go_ret;exact⟨a.o.2.2.2.1,.inl ⟨l,u,_,⟨by rw[a.o.2.2.2.2];exact Y.o,a.o.2.1⟩,by unfold lst;rw[a.o.2.2.2.2,append_assoc],rfl,⟨p,q,f,by rw[a.o.2.2.2.2];rfl,a.o.1⟩,a.o.2.2.1⟩⟩
end cd
end Go.Proofs.YtfkihidbnfkbaaaGreatDoor
