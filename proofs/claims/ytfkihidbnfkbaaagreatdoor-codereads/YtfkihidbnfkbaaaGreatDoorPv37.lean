import Derived.Test.YtfkihidbnfkbaaaGreatDoorPv34
set_option linter.all false
set_option maxHeartbeats 8000000
set_option maxRecDepth 100000
open List renaming length->ϲ
namespace Go.Proofs.YtfkihidbnfkbaaaGreatDoor
open ChangeShapes WideShapes ChangeAt RowKit List Proofs.Tryz
namespace cd
open vl bf
variable {S W w w' w2 : ϟ} {N R j m : Nat} {s t u : List UInt8} {v : Value} {r : List Cel} {T : TypeId} {b b' b1 b2 : Bool} {o : Obj} {row : Option Nat}
structure ES(w:World)(R:Nat)(s:List UInt8)(W:World)(bs:List (TypeId×List Value)):Prop where
 keep:Ah R w W
 rr:RR W R s
 blk:∀k b,bs[k]? =some b->SB W (w.heap.size+k) b.2/\Am W (w.heap.size+k) b.1
def ES.call{a:ϟ}{d:List (TypeId×List Value)}(h:ES w R s W d)(g:R<w.heap.size)(c:Ah R W a)(f:RR a R t):ES w R t a d:=
 ⟨h.keep.trans c,f,λk b e=>⟨(h.blk k b e).1.keep c ϣ,A1 (h.blk k b e).2 (c.2 _ (h.blk k b e).1.lt ϣ)⟩⟩
def ES.put{a:List (TypeId×List Value)}(h:ES w R s W a)(n:W.setCell ⟨N,j,none⟩ v=S)(y:R<w.heap.size)(k:Nat){b:TypeId×List Value}(l:w.heap.size+k=N)(d:a[k]? =some b)(x:j<ϲ b.2):ES w R s S (a.set k (b.1,b.2.set j v)):=by
 subst n l;refine⟨⟨h.keep.1.setCell (At _) _,λg p q=>(CB _ _ _ _ ϩ).trans (h.keep.2 g p q)⟩,h.rr.set ϣ,λi c e=>?_⟩;by_cases f:i=k
 ·subst f;rw[dW (JT.1 d).1]at e;obtain rfl:=(aI e);exact⟨(h.blk i b d).1.set j v x,tyAt_set (h.blk i b d).2 _ _⟩
 ·rw[dC (λe=>f e.symm)]at e;exact⟨(h.blk i c e).1.same (CB _ _ _ _ ϩ) ϥ,tyAt_set (h.blk i c e).2 _ _⟩
def ES.len{a:List (TypeId×List Value)}(h:ES w R s W a)(k:Nat){b:TypeId×List Value}(c:a[k]? =some b):w.heap.size+k<W.heap.size:=(h.blk k b c).1.lt
def ES.base(h:RR w R s):ES w R s w []:=⟨Ah.refl _ _,h,λk b e=>by simp at e⟩
def ES.new{a:List (TypeId×List Value)}(h:ES w R s W a)(i:W.heap.size=w.heap.size+ϲ a)(d:List Value)(t:TypeId):ES w R s (W.alloc (.cells d.toArray t)) (a++[(t,d)]):=by
 have c:=(RK W.heap.size W).alloc nR (.cells d.toArray t);refine⟨h.keep.trans (Ah.of c),h.rr.below c,λk b e=>?_⟩;by_cases f:k<ϲ a
 ·rw[aM f]at e;exact⟨(h.blk k b e).1.below c,Ak (h.blk k b e).2 c⟩
 ·have g:k=ϲ a:=by
   have:=(JT.1 e).1;rw[lAp,bV]at this;omega
  subst g;rw[List.getElem?_concat_length]at e;obtain rfl:=aI e;rw[<-i];exact⟨SB.new W d t,⟨_,_,DE W _⟩⟩
def Aac{base:Nat}(h:AF w base v r)(d:Ah R w w')(c:Am w R 124):AF w' base v r:=
 A4 h (λg a=>d.2 g (AL h a).2 (tyAt_apart (Az h a) c Ϥ))
def LF{base:Nat}{u:Value}(h:AF w base v r)(c:w.setCell ⟨N,j,none⟩ u=S)(a:Am w N T)(d:T≠119):AF S base v r:=by
 subst c;exact A4 h (λg f=>CB _ _ _ _ (λe=>tyAt_apart (Az h f) a (λe=>d e.symm) e))
def VE(base:Nat)(x:Ent)(v:Value)(w:World):Prop:=∃m:EM,v=m.val/\OR w base m x
def VL1(base:Nat)(l:List Ent)(v:Value)(w:World):Prop:=∃ad cap es,v=vS ad (ϲ l) cap/\OE w base v es l
def ptE(x:Ent):List UInt8×Int×Int×List Cel×Bool:=(x.key.data.toList,x.time,x.seq,x.row,x.met)
def Dg(x:Ent):Prop:=okT x.key.data.toList/\okN x.time/\okN x.seq/\rowOk x.row
def Afa:List UInt8×Int×Int×List Cel×Bool->List UInt8:=cat txt (cat AM (cat AM (cat Ck Hm)))
def Ag2:List UInt8×Int×Int×List Cel×Bool->Prop:=okP okT (okP okN (okP okN (okP rowOk λ_=>True)))
def OY(x:Ent):AD x=Afa (ptE x):=by
 unfold AD Afa ptE;simp only[cat,Bx]
def So(x:Ent)(h:Dg x):Ag2 (ptE x):=⟨h.1,h.2.1,h.2.2.1,h.2.2.2,trivial⟩
def Afb(x y:Ent)(h:ptE x=ptE y):x=y:=by
 obtain⟨k,t,q,r,m⟩:=x;obtain⟨c,g,e,f,d⟩:=y;simp only[ptE,bG]at h;obtain⟨a,rfl,rfl,rfl,rfl⟩:=h;rw[str_eq a]
def Ha:Pre AD Dg:=Pre.via (Hc.cat (Bn.cat (Bn.cat (D4.cat Adg)))) ptE (λx y _ _=>Afb x y) OY So
def Bad.ent(h:Bad Afa Ag2 s):Bad AD Dg s:=h.via ptE OY So
theorem WN(R:Nat)(s:List UInt8)(w:ϟ)(h:RQ w R s)(L:ϲ s<=10000000):
 χ 205 #[ω R] w (Rd AD Dg (VE w.heap.size) R s w):=by
 have KT:=hIz (λ(e:ϟ) (c:Ah R w e) (d:RR e R s)=>QN R s e (h.go c d) L);have Q:=hIz (λt (e:ϟ) (c:Ah R w e) (d:RR e R t) (H:ϲ t<=10000000)=>Dq R t e (h.go c d) H);have KR:=hIz (λt (e:ϟ) (c:Ah R w e) (d:RR e R t) (H:ϲ t<=10000000)=>LN R t e (h.go c d) H);have KF:=hIz (λt (e:ϟ) (c:Ah R w e) (d:RR e R t) (H:ϲ t<=10000000)=>Aau R t e (h.go c d) H);have y:=h.rr.lt;have k:=hV0 L;have B:ϡ (RR w R s):=h.rr;clear h L;go_enter func205,ntmps205;go_wp2_with fail;have a:=hy (((ES.base B.o).new ϥ [ϐ,Ϗ,Ϗ,ώ,ϑ] 166).new ϥ [ϐ,Ϗ,Ϗ,ώ,ϑ] 166);generalize World.alloc (World.alloc w _) _=V at a⊢;clear B;refine(KT.o V a.o.keep a.o.rr).mono ?_;rintro o e ⟨c,⟨x,t,v,i,rfl,rfl,rfl,d⟩|⟨E,v,rfl⟩⟩
 rotate_left
 ·exact⟨rfl,a.o.keep.trans c,.inr ⟨E.fst.ent,_,rfl⟩⟩
 have G:ϡ (okT x):=i;replace k:ϡ (ϲ t<=10000000):=by have:=k.o;rw[lAp]at this;show _<=_;omega
 clear i;replace a:=hy (a.o.call y c d);have C:=(a.o.blk 1 _ rfl).1.cell 0 _ rfl;have D:=(a.o.blk 1 _ rfl).1.frz 0;clear d c;go_wp2_with fail;generalize f:World.setCell e _ _=S1;replace a:=hy (a.o.put f y 1 rfl rfl ϥ);clear C D f;refine(Q.o t S1 a.o.keep a.o.rr k.o).mono ?_;rintro o w2 ⟨c,⟨n,X,v,i,rfl,rfl,rfl,d⟩|⟨E,v,rfl⟩⟩
 rotate_left
 ·exact⟨rfl,a.o.keep.trans c,.inr ⟨((E.fst).snd Hc G.o).ent,_,rfl⟩⟩
 have J:ϡ (okN n):=i;replace k:ϡ (ϲ X<=10000000):=by have:=k.o;rw[lAp]at this;show _<=_;omega
 clear i;replace a:=hy (a.o.call y c d);have C:=(a.o.blk 1 _ rfl).1.cell 1 _ rfl;have D:=(a.o.blk 1 _ rfl).1.frz 1;clear d c;go_wp2_with fail;generalize f:World.setCell w2 _ _=S2;replace a:=hy (a.o.put f y 1 rfl rfl ϥ);clear C D f;refine(Q.o X S2 a.o.keep a.o.rr k.o).mono ?_;rintro o w3 ⟨c,⟨q,Y,v,i,rfl,rfl,rfl,d⟩|⟨E,v,rfl⟩⟩
 rotate_left
 ·exact⟨rfl,a.o.keep.trans c,.inr ⟨(((E.fst).snd Bn J.o).snd Hc G.o).ent,_,rfl⟩⟩
 have K:ϡ (okN q):=i;replace k:ϡ (ϲ Y<=10000000):=by have:=k.o;rw[lAp]at this;show _<=_;omega
 clear i;replace a:=hy (a.o.call y c d);have C:=(a.o.blk 1 _ rfl).1.cell 2 _ rfl;have D:=(a.o.blk 1 _ rfl).1.frz 2;clear d c;go_wp2_with fail;generalize f:World.setCell w3 _ _=S3;replace a:=hy (a.o.put f y 1 rfl rfl ϥ);clear C D f;refine(KR.o Y S3 a.o.keep a.o.rr k.o).mono ?_;rintro o w4 ⟨c,⟨r,Z,v,i,rfl,rfl,⟨l,p,rfl,U⟩,d⟩|⟨E,v,rfl⟩⟩
 rotate_left
 ·exact⟨rfl,a.o.keep.trans c,.inr ⟨((((E.fst).snd Bn K.o).snd Bn J.o).snd Hc G.o).ent,_,rfl⟩⟩
 have P:=hV0 i;replace k:ϡ (ϲ Z<=10000000):=by have:=k.o;rw[lAp]at this;show _<=_;omega
 have A:ϡ (AF w4 w (vS l (ϲ r) p) r):=World.ownsRow.mono U a.o.keep.1.size;obtain⟨z,M⟩:=nM (ϲ r);have HL:=hV0 M;rw[M]at A⊢;clear i U M;replace a:=hy (a.o.call y c d);have C:=(a.o.blk 1 _ rfl).1.cell 3 _ rfl;have D:=(a.o.blk 1 _ rfl).1.frz 3;clear d c;go_wp2_with fail;generalize f:World.setCell w4 _ _=S4;replace A:=hy (LF (T:=166) A.o f (a.o.blk 1 _ rfl).2 Ϥ);replace a:=hy (a.o.put f y 1 rfl rfl ϥ);clear C D f;refine(KF.o Z S4 a.o.keep a.o.rr k.o).mono ?_;rintro o w5 ⟨c,⟨m,t5,v,i,rfl,rfl,rfl,d⟩|⟨E,v,rfl⟩⟩
 rotate_left
 ·exact⟨rfl,a.o.keep.trans c,.inr ⟨((((E.snd D4 P.o).snd Bn K.o).snd Bn J.o).snd Hc G.o).ent,_,rfl⟩⟩
 replace A:=hy (Aac A.o c a.o.rr.tb);clear i;replace a:=hy (a.o.call y c d);have C:=(a.o.blk 1 _ rfl).1.cell 4 _ rfl;have D:=(a.o.blk 1 _ rfl).1.frz 4;clear d c;go_upto_region 7 with fail;generalize f:World.setCell w5 _ _=F;replace A:=hy (LF (T:=166) A.o f (a.o.blk 1 _ rfl).2 Ϥ);replace a:=hy (a.o.put f y 1 rfl rfl ϥ);clear C D f;have d0:=(a.o.blk 1 _ rfl).1.cell 0 _ rfl;have d1:=(a.o.blk 1 _ rfl).1.cell 1 _ rfl;have d2:=(a.o.blk 1 _ rfl).1.cell 2 _ rfl;have d3:=(a.o.blk 1 _ rfl).1.cell 3 _ rfl;have d4:=(a.o.blk 1 _ rfl).1.cell 4 _ rfl;have O:ϡ (F.there w.heap.size 0 5):=(a.o.blk 0 _ rfl).1.there;have I:ϡ (RR (World.setCells F w.heap.size 0 [.string ⟨x.toArray⟩,vI n,vI q,vS l z p,.bool m]) R t5/\Ah R w (World.setCells F w.heap.size 0 [.string ⟨x.toArray⟩,vI n,vI q,vS l z p,.bool m])/\AF (World.setCells F w.heap.size 0 [.string ⟨x.toArray⟩,vI n,vI q,vS l z p,.bool m]) w.heap.size (vS l z p) r):=
  ⟨a.o.rr.sets ϣ _ _,Dd a.o.keep nR _ _,A4 A.o (λg hg=>BA (tyAt_apart (Az A.o hg) (a.o.blk 0 _ rfl).2 Ϥ) _ _ _)⟩
 have B:ϡ ((World.setCells F w.heap.size 0 [.string ⟨x.toArray⟩,vI n,vI q,vS l z p,.bool m]).rangeAt w.heap.size 0 [.string ⟨x.toArray⟩,vI n,vI q,vS l z p,.bool m]):=Wf _ _ _ _ O.o;go_wp2_with ((with_reducible refine Ft ?_ 166 (.tmp 2) (.tmp 19) ?_ w.heap.size 0 #[.string ⟨x.toArray⟩,vI n,vI q,vS l z p,.bool m] ?_ ?_ ?_ ?_ ?_ ?_);exact rfl;exact rfl;exact rfl;exact rfl;exact O.o;exact Ada;exact Ϭ);generalize (World.setCells F w.heap.size 0 [.string ⟨x.toArray⟩,vI n,vI q,vS l z p,.bool m])=W' at B I⊢;have z0:=B.o 0 _ rfl;have z1:=B.o 1 _ rfl;have z2:=B.o 2 _ rfl;have z3:=B.o 3 _ rfl;have z4:=B.o 4 _ rfl;simp only[Fr]at z0 z1 z2 z3 z4;exact CD (v:=.agg #[.string ⟨x.toArray⟩,vI n,vI q,vS l z p,.bool m]) (by simp[results,results205,go_sem,z0,z1,z2,z3,z4]) rfl ⟨I.o.2.1,.inl ⟨⟨⟨x.toArray⟩,n,q,r,m⟩,t5,_,⟨G.o,J.o,K.o,P.o⟩,by unfold AD;simp only[Bx],rfl,⟨⟨⟨x.toArray⟩,n,q,(l,z,p),m⟩,rfl,⟨rfl,rfl,rfl,rfl,HL.o.symm,I.o.2.2⟩⟩,I.o.1⟩⟩
theorem Ee{α:Type}{f:α->List UInt8}(a:∀x,8<=ϲ (f x)):∀l:List α,8 * ϲ l<=ϲ (l.flatMap f)
 |[]=>by simp
 |x::l=>by
  have c:=a x;have d:=Ee a l;rw[aH,lAp,DP];omega
def DC{α:Type}(f:α->List UInt8)(l:List α)(x:α)(u:List UInt8):l.flatMap f++(f x++u)=(l++[x]).flatMap f++u:=ϥ
def FK{α:Type}{P:α->Prop}{l:List α}{x:α}(h:∀y∈l,P y)(a:P x):∀y∈l++[x],P y:=λy hy=>by
 rcases Fk.1 hy with k|k
 ·exact h y k
 ·rw[M2.1 k];exact a
def OZ(x:Ent):8<=ϲ (AD x):=by
 unfold AD;simp only[lAp,As];omega
theorem AcJ(R C:Nat)(s:List UInt8)(w:ϟ)(h:RQ w R s)(y:RP w C R)(q:ϲ s<=10000000):
 χ 204 #[ω C] w (Rd AD Dg (VE w.heap.size) R s w):=by
 have H:=hIz (λ(a:ϟ) (k:Ϣ w a)=>WN R s a (h.below k) q);have L:=y.cell;have M:=y.lt;have I:=h.rr.lt;have c:ϡ (RR w R s):=h.rr;clear h q;go_enter func204,ntmps204;go_wp2_with fail;have e:=hy ((ES.base c.o).new ϥ [ϐ,Ϗ,Ϗ,ώ,ϑ] 166);have i:Ϣ w (World.alloc w (.cells ([ϐ,Ϗ,Ϗ,ώ,ϑ]:List Value).toArray 166)):=Ϯ;generalize (World.alloc w _)=V at e i⊢;refine(H.o V i).mono ?_;rintro o a ⟨l,⟨x,t,v,z,rfl,rfl,⟨m,rfl,d⟩,n⟩|⟨k,v,rfl⟩⟩
 rotate_left
 ·exact⟨rfl,e.o.keep.trans l,.inr ⟨k,_,rfl⟩⟩
 have G:ϡ (Dg x):=z;replace e:=hy (e.o.call I l n);have p:ϡ (a.there w.heap.size 0 5):=(e.o.blk 0 _ rfl).1.there;have f:ϡ (RR (World.setCells a w.heap.size 0 [.string m.key,vI m.time,vI m.seq,vS m.row.1 m.row.2.1 m.row.2.2,.bool m.met]) R t/\Ah R w (World.setCells a w.heap.size 0 [.string m.key,vI m.time,vI m.seq,vS m.row.1 m.row.2.1 m.row.2.2,.bool m.met])/\OR (World.setCells a w.heap.size 0 [.string m.key,vI m.time,vI m.seq,vS m.row.1 m.row.2.1 m.row.2.2,.bool m.met]) w.heap.size m x):=
  ⟨n.sets ϣ _ _,Dd e.o.keep nR _ _,⟨d.key,d.time,d.seq,d.met,d.len,World.ownsRow.mono (A4 d.row (λg J=>BA (tyAt_apart (Az d.row J) (e.o.blk 0 _ rfl).2 Ϥ) _ _ _)) i.size⟩⟩
 unfold EM.val hdV;clear n l d i z;have c:ϡ ((World.setCells a w.heap.size 0 [.string m.key,vI m.time,vI m.seq,vS m.row.1 m.row.2.1 m.row.2.2,.bool m.met]).rangeAt w.heap.size 0 [.string m.key,vI m.time,vI m.seq,vS m.row.1 m.row.2.1 m.row.2.2,.bool m.met]):=Wf _ _ _ _ p.o;go_wp2_with ((with_reducible refine Ft ?_ 166 (.tmp 1) (.tmp 3) ?_ w.heap.size 0 #[.string m.key,vI m.time,vI m.seq,vS m.row.1 m.row.2.1 m.row.2.2,.bool m.met] ?_ ?_ ?_ ?_ ?_ ?_);exact rfl;exact rfl;exact rfl;exact rfl;exact p.o;exact Ada;exact Ϭ);generalize (World.setCells a w.heap.size 0 [.string m.key,vI m.time,vI m.seq,vS m.row.1 m.row.2.1 m.row.2.2,.bool m.met])=K at c f⊢;have A:=c.o 0 _ rfl;have B:=c.o 1 _ rfl;have D:=c.o 2 _ rfl;have E:=c.o 3 _ rfl;have F:=c.o 4 _ rfl;simp only[Fr]at A B D E F;exact CD (v:=.agg #[.string m.key,vI m.time,vI m.seq,vS m.row.1 m.row.2.1 m.row.2.2,.bool m.met]) (by simp[results,results204,go_sem,A,B,D,E,F]) rfl ⟨f.o.2.1,.inl ⟨x,t,_,G.o,rfl,rfl,⟨m,rfl,f.o.2.2⟩,f.o.1⟩⟩
theorem QG(R C:Nat)(s:List UInt8)(w:ϟ)(h:RQ w R s)(hp:RP w C R)(hm:ϲ s<=2000000):
 χ 206 #[ω R,.func (.func 204) #[] #[ω C]] w (Rd (lst AD) (okL Dg) (VL1 w.heap.size) R s w):=by
 have Z:=hy (Dq R s w h ϣ);have Y:=hIz (λso (f:ϟ) t (z:Ah R w f) (Q:RR f R t)=>Ey R so f (h.go z Q).err);have KO:=hIz (λt (f:ϟ) (z:Ah R w f) (Q:RR f R t) (ht:ϲ t<=2000000)=>AcJ R C t f (h.go z Q) (hp.keep z) ϣ);have V:=hV0 hm;clear h hp hm;go_enter func206,ntmps206;go_wp2_with fail;refine Z.o.mono ?_;rintro e f ⟨E,⟨n,t,v,hn,rfl,rfl,rfl,U⟩|⟨O,v,rfl⟩⟩
 rotate_left
 ·exact⟨rfl,E,.inr ⟨O.len,_,rfl⟩⟩
 have L:ϡ (okN n):=hn;clear hn Z;by_cases h0:0<=n
 rotate_left
 ·go_wp2_with (go_at_call 139;refine(Y.o _ _ _ E U).mono ?_;rintro e w2 ⟨rfl,_,M⟩;obtain⟨v,rfl⟩:=M Ϫ);exact⟨rfl,E,.inr ⟨Bad.neg L.o ϣ,_,rfl⟩⟩
 obtain⟨m,rfl⟩:∃m:Nat,n=m:=⟨n.toNat,ϣ⟩;have X:ϡ (m<=9223372036854775807):=by have:=L.o.2;show _<=_;omega
 have B:ϡ (RR f R t/\Ah R w f):=⟨U,E⟩;clear U E L;go_wp2_with (go_at_call 139;refine(Y.o _ _ _ B.o.2 B.o.1).mono ?_;rintro e w2 ⟨rfl,M,_⟩;obtain rfl:=M ϥ)
 go_loopw [6,14] (λv i wr=> ∃(k:Nat) (l:List Ent) (c:List EM) (u:List UInt8),ϲ l=k/\k<=m/\i=vI k/\OE wr w v c l/\(∀x∈l,Dg x)/\t=l.flatMap AD++u/\RR wr R u/\Ah R w wr) (λ_ i _=>m - (intOf i).toNat)
 case atStart=>exact⟨0,[],[],t,rfl,At _,rfl,DJ B.o.2.1.size,ϥ,rfl,B.o⟩
 case round=>
  obtain⟨k,l,c,u,H,am,rfl,A,K,rfl,I,p⟩:=hrel;have G:ϲ c=k:=by rw[A.len,H]
  have an:8 * k+ϲ u<=2000000:=by
   have:=V.o;have:=Ee OZ l;rw[lAp,lAp,As]at *;omega
  by_cases ag:k<m
  ·have a:ϡ (OE wr w u6 c l/\Am wr R 124/\(∀x∈l,Dg x)/\Ah R w wr/\(ϲ l)=k):=⟨A,I.tb,K,p,H⟩;have i1:=nn0 k;have i2:(k:Int)<(m:Int):=ϣ;have ak:ϲ u<=2000000:=ϣ;clear A K H V B;go_wp2_with fail;refine(KO.o u wr p I ak).mono ?_;rintro e y ⟨F,⟨x,u2,v,hx,rfl,rfl,⟨d,rfl,q⟩,aa⟩|⟨O,v,rfl⟩⟩
   rotate_left
   ·exact⟨rfl,p.trans F,.inr ⟨Bad.elem Ha a.o.2.2.1 X.o (by rw[a.o.2.2.2.2];exact ag) O,_,rfl⟩⟩
   have J:ϡ (OE y w u6 c l):=OE.keptR a.o.1 F a.o.2.1;have D:ϡ (OR y w.heap.size d x/\RR y R u2/\Ah R w y/\Dg x):=⟨⟨q.key,q.time,q.seq,q.met,q.len,World.ownsRow.mono q.row p.1.size⟩,aa,p.trans F,hx⟩;have ae:w.heap.size<=y.heap.size:=B0 p.1.size F.1.size;have ab:ϡ (y.ownsRow w 166 5 u6 k (Ap c)):=by
    have:=J.o.own;rw[G]at this;exact this
   unfold EM.val hdV;clear q aa F I p hx;go_wp2_with (at_builtin;refine jn.Na rfl (.tmp 16) (.tmp 19) rfl w.heap.size u6 c d.key d.time d.seq d.row.1 d.row.2.1 d.row.2.2 d.met y k G ab.o ϣ ae rfl rfl ?_;intro g al w4 ai P);have hs:=JC (e:=d) (x:=x) J.o bR D.o.1 (by rw[G];exact ai) P;have ah:u6.ownBlock≠some R:=λe=>tyAt_apart D.o.2.1.tb (Az J.o.own e) Ϥ rfl;have aj:=D.o.2.1.grown P ah;have af:=Cy D.o.2.2.1 P (λg e=>(AL J.o.own e).1);rw[G]at hs;go_wp2;go_roundw;exact⟨k+1,l++[x],c++[d],u2,by simp[a.o.2.2.2.2],ϣ,by go_num,hs.1,FK a.o.2.2.1 D.o.2.2.2,DC _ _ _ _,aj,af⟩;simp[intOf];omega
  ·have z:k=m:=ϣ;subst z;have i2:¬((k:Int)<(k:Int)):=ϣ;obtain⟨ad,ac,hv⟩:=A.form;rw[G]at hv;have a:ϡ (OE wr w u6 c l/\(∀x∈l,Dg x)/\RR wr R u/\Ah R w wr/\(ϲ l)=k):=⟨A,K,I,p,H⟩;clear A I p K H;subst hv;go_wp2;go_ret;exact⟨a.o.2.2.2.1,.inl ⟨l,u,_,⟨by rw[a.o.2.2.2.2];exact X.o,a.o.2.1⟩,by unfold lst;rw[a.o.2.2.2.2,Bx],rfl,⟨ad,ac,c,by rw[a.o.2.2.2.2];rfl,a.o.1⟩,a.o.2.2.1⟩⟩
structure EY(w:World)(R:Nat)(s:List UInt8)(b:Bool):Prop where
 c0:Δ w R 0 (.string ⟨s.toArray⟩)
 c1:Δ w R 1 (.bool b)
 f0:Ξ w R 0
 f1:Ξ w R 1
 tb:Am w R 76
def EY.same(h:EY w R s b)(c:w'.heap[R]? =w.heap[R]?):EY w' R s b:=
 ⟨(cOb (w:=w) (a:=⟨R,0,none⟩) c).trans h.c0,(cOb (w:=w) (a:=⟨R,1,none⟩) c).trans h.c1,(aG (w:=w) (a:=⟨R,0,none⟩) c).trans h.f0,(aG (w:=w) (a:=⟨R,1,none⟩) c).trans h.f1,A1 h.tb c⟩
def EY.lt(h:EY w R s b):R<w.heap.size:=A7 h.tb
def EY.below(h:EY w R s b)(a:Ϣ w w'):EY w' R s b:=h.same (a.block R h.lt)
def EY.putS(h:EY w R s b):EY (ό w R 0 (.string ⟨t.toArray⟩)) R t b:=
 ⟨cI _ _ _ (by rw[h.c0];rfl),by rw[bJ (h:=λk=>by injection k;omega)];exact h.c1,by rw[aD];exact h.f0,by rw[aD];exact h.f1,tyAt_set h.tb _ _⟩
def EY.putB{c:Bool}(h:EY w R s b):EY (ό w R 1 (.bool c)) R s c:=
 ⟨by rw[bJ (h:=λk=>by injection k;omega)];exact h.c0,cI _ _ _ (by rw[h.c1];rfl),by rw[aD];exact h.f0,by rw[aD];exact h.f1,tyAt_set h.tb _ _⟩
def Ef(R j:Nat)(v:Value)(w:ϟ):Ah R w (ό w R j v):=⟨(RK 0 w).setCell (At _) _,λg c a=>CB _ _ _ _ a⟩
abbrev YP{α:Type}(f:α->List UInt8)(ok:α->Prop)(x:α)(s:List UInt8)(b:Bool)(t:List UInt8)(b':Bool):Prop:=
 (ϲ t)<=ϲ s/\(b'=false->b=false/\ok x/\s=f x++t)/\(b'=true->b=true\/Bad f ok s)
def Ye{α:Type}(f:α->List UInt8)(ok:α->Prop)(V:α->Value->World->Prop)(R:Nat)(s:List UInt8)(b:Bool)(w:World)(e:Ending)(w':World):Prop:=
 Ah R w w'/\∃x v t b',e= .returned v/\V x v w'/\EY w' R t b'/\YP f ok x s b t b'
theorem YP.cat{α β:Type}{f:α->List UInt8}{g:β->List UInt8}{a:α->Prop}{c:β->Prop}{x:α}{y:β}(p:Pre f a)(h:YP f a x s b t b1)(k:YP g c y t b1 u b2):YP (cat f g) (okP a c) (x,y) s b u b2:=by
 refine⟨B0 k.1 h.1,λe=>?_,λe=>?_⟩
 ·obtain⟨n,d,q⟩:=k.2.1 e;obtain⟨e0,i,l⟩:=h.2.1 n;exact⟨e0,⟨i,d⟩,by rw[l,q];simp[cd.cat]⟩
 ·cases hb:b1 with
  |true=>exact(h.2.2 hb).imp id Bad.fst
  |false=>
   obtain⟨e0,i,l⟩:=h.2.1 hb;rcases k.2.2 e with d|d
   ·rw[hb]at d;cases d
   ·exact .inr (l▸Bad.snd p i d)
def YP.via{α β:Type}{f:α->List UInt8}{ok:α->Prop}{g:β->List UInt8}{d:β->Prop}(m:β->α){x:β}(h:YP f ok (m x) s b t b')(a:∀x,g x=f (m x))(c:∀x,d x↔ok (m x)):YP g d x s b t b':=
 ⟨h.1,λe=>⟨(h.2.1 e).1,(c x).2 (h.2.1 e).2.1,by rw[a];exact(h.2.1 e).2.2⟩,λe=>(h.2.2 e).imp id λk=>k.via m a λx=>(c x).1⟩
theorem YP.flag{n:Int}(h:YP AM okN n s b t b1)(a:b2=(b1|| !(decide (n=0)||decide (n=1)))):YP Hm (λ_=>True) (n==1) s b t b2:=by
 refine⟨h.1,λe=>?_,λe=>?_⟩
 ·rw[e]at a;have c:b1=false:=by
   cases b1 with
   |true=>simp at a
   |false=>rfl
  obtain⟨e0,f,d⟩:=h.2.1 c;subst c;have:n=0\/n=1:=by
   simp only[fV]at a;by_cases k:n=0
   ·exact .inl k
   ·by_cases g:n=1
    ·exact .inr g
    ·simp[k,g]at a
  refine⟨e0,trivial,?_⟩;rw[d];rcases this with rfl|rfl<;>rfl
 ·cases c:b1 with
  |true=>exact(h.2.2 c).imp id Bad.flagN
  |false=>
   obtain⟨e0,f,d⟩:=h.2.1 c;rw[e,c]at a;exact .inr (d▸Bad.flagO f (λk=>by rcases k with rfl|rfl<;>simp at a))
theorem Jm(R:Nat)(s:List UInt8)(b:Bool)(w:ϟ)(h:EY w R s b)(Q:ϲ s<=10000000):
 χ 38 #[ω R] w (Ye AM okN VN R s b w):=by
 have d:=hV0 h;obtain⟨F,y,K,L,_⟩:=h
 cases b with
 |true=>
  go_enter func38,ntmps38;go_wp2;go_ret;exact⟨Ef _ _ _ _,0,_,s,true,rfl,rfl,d.o.putB,HU _,(λh=>by cases h),λ_=>.inl rfl⟩
 |false=>
  obtain⟨q,a⟩:=nM (⟨s.toArray⟩:ByteArray);have B:=hV0 a;have U:q.size=ϲ s:=by rw[<-a];exact size_mk s
  rw[a]at F;by_cases f:ϲ s<8
  ·have H:(q.size:Int)<8:=ϣ;have c:ϡ (Bad AM okN s):=Bad.short f;clear a f;go_enter func38,ntmps38;go_wp2;go_ret;exact⟨Ef _ _ _ _,0,_,s,true,rfl,rfl,d.o.putB,HU _,(λh=>by cases h),λ_=>.inr c.o⟩
  ·have H:¬(q.size:Int)<8:=ϣ;have A:ϡ (okN (MC (AK (s.take 8)))/\s=AM (MC (AK (s.take 8)))++s.drop 8):=Adf ϣ;have O:8<=q.size:=ϣ;have p:ϡ (q.data.toList=s):=by show _=_;rw[<-a]
   clear a f;go_enter func38,ntmps38;go_wp2
   go_loopw [3,4] (λn i wr=> ∃k:Nat,k<=8/\i=vI k/\n=vI (wrap64 (AK (s.take k):Nat))/\wr=w) (λ_ i _=>8 - (intOf i).toNat)
   case atStart=>exact⟨0,ϣ,rfl,by simp[AK,wrap64],rfl⟩
   case round=>
    obtain⟨k,M,rfl,rfl,rfl⟩:=hrel;by_cases P:k<8
    ·have I:k<q.size:=ϣ;obtain⟨u,g⟩:∃u,AK (s.take k)=u:=⟨_,rfl⟩;have x:=hV0 g;rw[g];have c:ϡ (u<72057594037927936):=by
      show u<72057594037927936;have y:=EN (s.take k);rw[x.o,DA]at y;have J:256 ^ (min k (ϲ s))<=256 ^ 7:=dV ϣ ϣ;omega
     have z:ϡ (AK (s.take (k+1))=u * 256+q[k].toNat):=by
      show AK (s.take (k+1))=_;rw[<-p.o,Dk q k I,Ij,p.o,x.o]
     have l:ϡ (wrap64 (wrap64 (u:Int) * 256)=wrap64 ((u:Int) * 256)/\wrap64 (q[k].toNat:Int)=(q[k].toNat:Int)):=by
      have:=q[k].toNat_lt;unfold wrap64;exact⟨ϣ,ϣ⟩
     clear g;go_wp2;go_roundw;exact⟨k+1,ϣ,by go_num,by rw[z.o,l.o.1,l.o.2,U8 u _ c.o q[k].toNat_lt],trivial⟩;simp[intOf];omega
    ·have G:k=8:=ϣ;subst G;have D:ϡ ((⟨(s.drop 8).toArray⟩:ByteArray)=q.extract 8 (ϲ s)):=by
      have e:=Pp (s.take 8) (s.drop 8);rw[PP,DA,RC,B.o]at e;rw[show min 8 (ϲ s)=8 by omega,show 8+(ϲ s - 8)=ϲ s by omega]at e;exact e.symm
     have C:ϡ (wrap64 (AK (s.take 8):Nat)=MC (AK (s.take 8))):=QM _ (Hs _ (by rw[DA];omega));have E:ϡ (EY (ό wr R 0 (.string (q.extract 8 (ϲ s)))) R (s.drop 8) false):=by
      rw[<-D.o];exact d.o.putS
     go_wp2;go_ret;exact⟨Ef _ _ _ _,MC (AK (s.take 8)),_,s.drop 8,false,rfl,by rw[<-C.o];rfl,E.o,by rw[RC];omega,λ_=>⟨rfl,A.o⟩,λh=>by cases h⟩
def E7(s:List UInt8):Prop:=Bad AM okN s\/∃n t,okN n/\s=AM n++t/\¬(0<=n/\n<=ϲ t)
theorem Up{α:Type}{f:α->List UInt8}:∀(l:List α),(∀x∈l,1<=ϲ (f x))->ϲ l<=ϲ (l.flatMap f)
 |[],_=>At _
 |x::l,h=>by
  rw[aH,lAp,DP];have:=h x (E0 ..);have:=Up l (λy hy=>h y (EQ _ hy));omega
theorem E7.lst{α:Type}{f:α->List UInt8}{ok:α->Prop}(h:E7 s)(d:∀x,ok x->1<=ϲ (f x)):Bad (lst f) (okL ok) s:=by
 rcases h with h|⟨n,t,g,rfl,h⟩
 ·exact h.len
 ·intro l u a e;simp only[cd.lst,Bx]at e;obtain⟨k,c⟩:=Bn _ _ _ _ g ⟨ϣ,by have:=a.1;omega⟩ e;have:=Bk List.length c;rw[lAp]at this;have:=Up l (λx i=>d x (a.2 x i));omega
theorem E7.txt(h:E7 s):Bad txt okT s:=by
 rcases h with h|⟨n,t,a,rfl,h⟩
 ·exact h.txtN
 ·exact Bad.txtL a h
def EyC(R:Nat)(s:List UInt8)(b:Bool)(w:World)(e:Ending)(w':World):Prop:=
 Ah R w w'/\∃(n:Nat) (t:List UInt8) (b':Bool),e= .returned (vI n)/\EY w' R t b'/\(ϲ t)<=ϲ s/\n<=ϲ t/\(b'=false->b=false/\s=AM n++t)/\(b'=true->n=0/\(b=true\/E7 s))
theorem Gw(R:Nat)(s:List UInt8)(b:Bool)(w:ϟ)(h:EY w R s b)(i:ϲ s<=10000000):
 χ 40 #[ω R] w (EyC R s b w):=by
 have C:ϡ (CT 38 #[ω R] w (Ye AM okN VN R s b w)):=Jm R s b w h i;have G:=hV0 i;clear h i;go_enter func40,ntmps40;go_wp2_with fail;refine C.o.mono ?_;rintro e l ⟨y,n,v,t,b',rfl,rfl,hy,A,x,z⟩;have f:=hV0 hy;obtain⟨q,k⟩:=nM (⟨t.toArray⟩:ByteArray);have J:q.size=ϲ t:=by rw[<-k];exact size_mk t
 have F:=hy.c0;have H:=hy.c1;have I:=hy.f1;rw[k]at F;have d:ϡ (Ah R w l/\(ϲ t)<=ϲ s):=⟨y,A⟩;have a:ϡ ((b'=false->b=false/\okN n/\s=AM n++t)/\(b'=true->b=true\/Bad AM okN s)):=⟨x,z⟩;clear hy y A x z k;by_cases D:n<0
 ·have c:ϡ (b=true\/E7 s):=by
   cases b' with
   |true=>exact(a.o.2 rfl).elim .inl (λh=>.inr (.inl h))
   |false=>exact .inr (.inr ⟨n,t,(a.o.1 rfl).2.1,(a.o.1 rfl).2.2,ϣ⟩)
  have g:ϡ (EY (ό l R 1 (.bool true)) R t true):=f.o.putB;clear a;go_wp2;go_ret;exact⟨d.o.1.trans (Ef _ _ _ _),0,t,true,rfl,g.o,d.o.2,At _,(λh=>by cases h),λ_=>⟨rfl,c.o⟩⟩
 ·obtain⟨m,rfl⟩:∃m:Nat,n=m:=⟨n.toNat,ϣ⟩;by_cases p:ϲ t<m
  ·have E:(m:Int)>(q.size:Int):=ϣ;have c:ϡ (b=true\/E7 s):=by
    cases b' with
    |true=>exact(a.o.2 rfl).elim .inl (λh=>.inr (.inl h))
    |false=>exact .inr (.inr ⟨m,t,(a.o.1 rfl).2.1,(a.o.1 rfl).2.2,ϣ⟩)
   have g:ϡ (EY (ό l R 1 (.bool true)) R t true):=f.o.putB;clear a p;go_wp2;go_ret;exact⟨d.o.1.trans (Ef _ _ _ _),0,t,true,rfl,g.o,d.o.2,At _,(λh=>by cases h),λ_=>⟨rfl,c.o⟩⟩
  ·have E:¬((m:Int)>(q.size:Int)):=ϣ;have B:ϡ (m<=ϲ t):=by show _<=_;omega
   clear p D
   cases b' with
   |true=>
    have c:ϡ (b=true\/E7 s):=(a.o.2 rfl).elim .inl (λh=>.inr (.inl h));clear a;go_wp2;go_ret;exact⟨d.o.1,0,t,true,rfl,f.o,d.o.2,At _,(λh=>by cases h),λ_=>⟨rfl,c.o⟩⟩
   |false=>
    have c:ϡ (b=false/\okN m/\s=AM m++t):=a.o.1 rfl;clear a;go_wp2;go_ret;exact⟨d.o.1,m,t,false,rfl,f.o,d.o.2,B.o,(λ_=>⟨c.o.1,c.o.2.2⟩),λh=>by cases h⟩
def VTb(x:List UInt8)(v:Value)(w:World):Prop:=VT x v w/\(ϲ x)<=10000000
theorem QH(R:Nat)(s:List UInt8)(b:Bool)(w:ϟ)(h:EY w R s b)(l:ϲ s<=10000000):
 χ 92 #[ω R] w (Ye txt okT VTb R s b w):=by
 have G:ϡ (CT 40 #[ω R] w (EyC R s b w)):=Gw R s b w h l;have z:=hV0 l;clear h l;go_enter func92,ntmps92;go_wp2_with fail;refine G.o.mono ?_;rintro e D ⟨k,n,t,b',rfl,hy,x,C,i,p⟩;have A:=hV0 hy;obtain⟨q,c⟩:=nM (⟨t.toArray⟩:ByteArray);have E:=hV0 c;have L:q.size=ϲ t:=by rw[<-c];exact size_mk t
 have H:=hy.c0;have I:=hy.c1;have J:=hy.f0;rw[c]at H;have a:ϡ (Ah R w D/\(ϲ t)<=ϲ s):=⟨k,x⟩
 cases b' with
 |true=>
  have d:ϡ (b=true\/E7 s):=(p rfl).2;clear hy k x i p c;go_wp2;go_ret;exact⟨a.o.1,[],_,t,true,rfl,⟨rfl,At _⟩,A.o,a.o.2,(λh=>by cases h),λ_=>d.o.imp id E7.txt⟩
 |false=>
  have d:ϡ (b=false/\s=AM n++t):=i rfl;have f:=hV0 C;have K:n<=q.size:=ϣ;clear hy k x i p c C;have y:ϡ (q.extract 0 n=⟨(t.take n).toArray⟩/\q.extract n (ϲ t)=⟨(t.drop n).toArray⟩):=by
   have B:=Yv (t.take n) (t.drop n);have g:=Pp (t.take n) (t.drop n);rw[PP,DA,fC f.o,E.o]at B g;rw[RC,show n+(ϲ t - n)=ϲ t by have:=f.o;omega]at g;exact⟨B,g⟩
  have F:ϡ (EY (ό D R 0 (.string (q.extract n (ϲ t)))) R (t.drop n) false):=by
   rw[y.o.2];exact A.o.putS
  go_wp2;go_ret;refine⟨a.o.1.trans (Ef _ _ _ _),t.take n,_,t.drop n,false,rfl,⟨?_,?_⟩,F.o,?_,(λ_=>⟨d.o.1,?_,?_⟩),λh=>by cases h⟩
  ·show _=Value.string _;rw[<-y.o.1];rfl
  ·have:=a.o.2;have:=z.o;rw[DA];omega
  ·have:=a.o.2;rw[RC];omega
  ·have:=a.o.2;have:=z.o;unfold okT;rw[DA];omega
  ·rw[JG,PP,DA,fC f.o];exact d.o.2
def key_or(k:List UInt8):(∃r,rowOk r/\encR r=k)\/IW k:=by
 by_cases h:∃r,rowOk r/\encR r=k
 ·exact .inl h
 ·exact .inr λr a e=>h ⟨r,a,e⟩
theorem LG(R:Nat)(s:List UInt8)(b:Bool)(w:ϟ)(h:EY w R s b)(D:ϲ s<=10000000):
 χ 41 #[ω R] w (Ye Ck rowOk (VR w.heap.size) R s b w):=by
 have K:ϡ (CT 92 #[ω R] w (Ye txt okT VTb R s b w)):=QH R s b w h D;have L:ϡ (∀(k:List UInt8) r a,ϲ k<=10000000->rowOk r->encR r=k->CT 91 #[.string ⟨k.toArray⟩] a λe w'=>(∃i l,e= .returned (.tuple #[vS i (ϲ r) l,.bool true])/\AF w' a (vS i (ϲ r) l) r)/\Ϣ a w'):=λk r a P q n=>QP ⟨k.toArray⟩ r a (by rw[size_mk];omega) q n;have J:ϡ (∀(k:List UInt8) a,ϲ k<=10000000->IW k->CT 91 #[.string ⟨k.toArray⟩] a (ψ a (.tuple #[ώ,ϑ]))):=λk a P p=>UD ⟨k.toArray⟩ a (by rw[size_mk];omega) p;clear h D;go_enter func41,ntmps41;go_wp2_with fail;refine K.o.mono ?_;rintro e a ⟨B,k,v,t,b',rfl,⟨rfl,C⟩,hy,G,A,F⟩;have g:ϡ (Ah R w a/\(ϲ t)<=ϲ s):=⟨B,G⟩;have f:ϡ ((b'=false->b=false/\okT k/\s=txt k++t)/\(b'=true->b=true\/Bad txt okT s)):=⟨A,F⟩;have z:=hV0 hy;clear B G A F hy;rcases key_or k with⟨r,q,n⟩|p
 ·have y:ϡ (rowOk r/\encR r=k):=⟨q,n⟩;go_wp2_with fail;refine(L.o k r a C q n).mono ?_;rintro e w2 ⟨⟨i,l,rfl,E⟩,c⟩;clear q n;have d:ϡ (AF w2 w (vS i (ϲ r) l) r/\Ah R w w2/\EY w2 R t b'):=⟨World.ownsRow.mono E g.o.1.1.size,g.o.1.trans (Ah.of c),z.o.below c⟩;clear E c;go_wp2;go_ret;exact⟨d.o.2.1,r,_,t,b',rfl,⟨i,l,rfl,d.o.1⟩,d.o.2.2,g.o.2,(λh=>⟨(f.o.1 h).1,y.o.1,by unfold Ck;rw[y.o.2];exact(f.o.1 h).2.2⟩),λh=>(f.o.2 h).imp id Bad.rowT⟩
 ·have I:ϡ (IW k):=p;go_wp2_with fail;refine(J.o k a C p).mono ?_;rintro e w2 ⟨rfl,c⟩;have x:=z.o.below c;have Q:=x.c1;have U:=x.f1;have d:ϡ (Ah R w (ό w2 R 1 (.bool true))/\EY (ό w2 R 1 (.bool true)) R t true):=⟨(g.o.1.trans (Ah.of c)).trans (Ef _ _ _ _),x.putB⟩;have H:ϡ (b=true\/Bad Ck rowOk s):=by
   cases b' with
   |true=>exact(f.o.2 rfl).imp id Bad.rowT
   |false=>
    obtain⟨_,M,O⟩:=f.o.1 rfl;rw[O];exact .inr (Bad.rowK M I.o)
  clear x c p;go_wp2;go_ret;exact⟨d.o.1,[],_,t,true,rfl,⟨none,0,rfl,KX _ _ _ _⟩,d.o.2,g.o.2,(λh=>by cases h),λ_=>H.o⟩
def LI{α:Type}(f:α->List UInt8)(ok:α->Prop)(m:Nat)(l:List α)(s:List UInt8)(b:Bool)(u:List UInt8)(bb:Bool):Prop:=
 (ϲ u)<=ϲ s/\(bb=false->b=false/\s=AM m++(l.flatMap f++u)/\∀x∈l,ok x)/\(bb=true->b=true\/Bad (lst f) (okL ok) s)
def LI.start{α:Type}{f:α->List UInt8}{ok:α->Prop}(a:∀x,ok x->1<=ϲ (f x))(c:ϲ t<=ϲ s)(h:b'=false->b=false/\s=AM m++t)(k:b'=true->m=0/\(b=true\/E7 s)):LI f ok m [] s b t b':=
 ⟨c,λe=>⟨(h e).1,by rw[flatMap_nil,JV];exact(h e).2,λx d=>absurd d SW⟩,λe=>(k e).2.imp id λq=>q.lst a⟩
def LI.step{α:Type}{f:α->List UInt8}{ok:α->Prop}{l:List α}{x:α}(g:Pre f ok)(h:LI f ok m l s b u false)(n:m<=9223372036854775807)(i:ϲ l<m)(a:YP f ok x u false t b'):LI f ok m (l++[x]) s b t b':=by
 obtain⟨e0,c,d⟩:=h.2.1 rfl;refine⟨B0 a.1 h.1,λe=>?_,λe=>?_⟩
 ·obtain⟨_,p,q⟩:=a.2.1 e;refine⟨e0,by rw[c,q,SN];simp,λy hy=>?_⟩;rcases Fk.1 hy with hy|hy
  ·exact d y hy
  ·rw[M2.1 hy];exact p
 ·rcases a.2.2 e with k|k
  ·cases k
  ·exact .inr (c▸Bad.elem g d n i k)
def LI.done{α:Type}{f:α->List UInt8}{ok:α->Prop}{l:List α}{a:Bool}(h:LI f ok m l s b u a)(i:m<=9223372036854775807)(c:a=false->ϲ l=m):YP (lst f) (okL ok) l s b u a:=by
 refine⟨h.1,λe=>?_,h.2.2⟩;obtain⟨e0,d,g⟩:=h.2.1 e;exact⟨e0,⟨by rw[c e];exact i,g⟩,by unfold lst;rw[c e,Bx];exact d⟩
def EY.grown{a:ϟ}(h:EY a R s b)(c:(a.alloc o).grownBy w2 row)(d:row≠some R):EY w2 R s b:=
 h.same (Ed (bR.alloc nR o) c h.lt d)
def OE.keptY{base:Nat}{a:List EM}{l:List Ent}(h:OE w base v a l)(d:Ah R w w')(f:Am w R 76):OE w' base v a l:=
 h.same d.1.size (λg k t c i=>d.2 g (A7 ⟨_,_,c⟩) (λe=>by
  subst e;have:t≠76:=by
   rcases i with⟨_,rfl⟩|rfl
   ·decide
   ·decide
  exact tyAt_apart ⟨_,_,c⟩ f this rfl))
def QI{base:Nat}(h:AF w base v r)(d:Ah R w w')(c:Am w R 76):AF w' base v r:=
 A4 h (λg a=>d.2 g (AL h a).2 (tyAt_apart (Az h a) c Ϥ))
theorem Aad(R:Nat)(s:List UInt8)(b:Bool)(w:ϟ)(h:EY w R s b)(hm:ϲ s<=2000000):
 χ 89 #[ω R] w (Ye (lst AD) (okL Dg) (VL1 w.heap.size) R s b w):=by
 have KC:ϡ (CT 40 #[ω R] w (EyC R s b w)):=Gw R s b w h ϣ;have KT:=hIz (λu p (J:ϟ) (M:EY J R u p) (hl:ϲ u<=2000000)=>QH R u p J M ϣ);have KN:=hIz (λu p (J:ϟ) (M:EY J R u p) (hl:ϲ u<=2000000)=>Jm R u p J M ϣ);have KR:=hIz (λu p (J:ϟ) (M:EY J R u p) (hl:ϲ u<=2000000)=>LG R u p J M ϣ);have HM:=hV0 hm;clear h hm;go_enter func89,ntmps89;go_wp2_with fail;refine KC.o.mono ?_;rintro e J ⟨a6,m,t,b',rfl,hy,bd,br,hf,ht⟩;have HS:ϡ (LI AD Dg m [] s b t b'/\m<=2000000/\(b'=true->m=0)):=⟨LI.start (λx _=>by have:=OZ x;omega) bd hf ht,by have:=HM.o;omega,λe=>(ht e).1⟩;have aq:ϡ (EY J R t b'/\Ah R w J):=⟨hy,a6⟩;clear a6 hy bd br hf ht KC;go_wp2
 go_loopw [3,4] (λv i wr=> ∃(j:Nat) (l:List Ent) (H:List EM) (u:List UInt8) (p:Bool),ϲ l+j=m/\i=vI j/\OE wr w v H l/\EY wr R u p/\Ah R w wr/\LI AD Dg m l s b u p) (λ_ i _=>(intOf i).toNat)
 case atStart=>exact⟨m,[],[],t,b',Fr _,rfl,DJ aq.o.2.1.size,aq.o.1,aq.o.2,HS.o.1⟩
 case round=>
  obtain⟨j,l,H,u,p,ba,rfl,O,an,av,af⟩:=hrel;have y:ϡ (OE wr w u3 H l/\EY wr R u p/\Ah R w wr/\LI AD Dg m l s b u p/\(ϲ l)+j=m/\(ϲ H)=ϲ l):=⟨O,an,av,af,ba,O.len⟩;have c1:=an.c1;by_cases ae:0<j/\p=false
  rotate_left
  ·obtain⟨n,q,hv⟩:=O.form;rw[y.o.2.2.2.2.2]at hv;have HD:ϡ (YP (lst AD) (okL Dg) l s b u p):=af.done (by have:=HS.o.2.1;omega) (λe=>by
    have:¬0<j:=λk=>ae ⟨k,e⟩;omega)
   have HG:=hV0 ae;clear O an av af ba HS KT KN KR;subst hv;by_cases h0:0<j
   ·have bm:p=true:=by cases p with
     |true=>rfl
     |false=>exact absurd ⟨h0,rfl⟩ ae
    subst bm;have i1:(j:Int)>0:=ϣ;clear ae;go_wp2;go_ret;exact⟨y.o.2.2.1,l,_,u,true,rfl,⟨n,q,H,rfl,y.o.1⟩,y.o.2.1,HD.o⟩
   ·have i1:¬((j:Int)>0):=ϣ;clear ae;go_wp2;go_ret;exact⟨y.o.2.2.1,l,_,u,p,rfl,⟨n,q,H,rfl,y.o.1⟩,y.o.2.1,HD.o⟩
  obtain⟨h0,rfl⟩:=ae;have i1:(j:Int)>0:=ϣ;have ap:ϡ (ϲ u<=2000000/\(ϲ l)<=1000000):=by
   have M:=af.1;have h2:=HM.o;have h3:=Bk List.length (af.2.1 rfl).2.1;have h4:=Ee OZ l;rw[lAp,lAp]at h3;exact⟨ϣ,ϣ⟩
  clear O an av af;go_wp2_with fail;refine(KT.o u false wr y.o.2.1 ap.o.1).mono ?_;rintro e w2 ⟨a7,C,v1,t1,b1,rfl,⟨rfl,bu⟩,be,aw⟩;have ag:ϡ (Ah R wr w2/\YP txt okT C u false t1 b1/\(ϲ t1)<=2000000/\EY w2 R t1 b1):=⟨a7,aw,by have:=aw.1;have:=ap.o.1;omega,be⟩;clear a7 bu be aw c1;go_wp2_with fail;refine(KN.o t1 b1 w2 ag.o.2.2.2 ag.o.2.2.1).mono ?_;rintro e w3 ⟨a8,A,v2,t2,b2,rfl,rfl,bg,ax⟩;have ah:ϡ (Ah R wr w3/\YP AM okN A t1 b1 t2 b2/\(ϲ t2)<=2000000/\EY w3 R t2 b2):=⟨ag.o.1.trans a8,ax,by have:=ax.1;have:=ag.o.2.2.1;omega,bg⟩;clear a8 bg ax;go_wp2_with fail;refine(KN.o t2 b2 w3 ah.o.2.2.2 ah.o.2.2.1).mono ?_;rintro e w4 ⟨a9,B,v3,t3,b3,rfl,rfl,bh,ay⟩;have U:ϡ (Ah R wr w4/\YP AM okN B t2 b2 t3 b3/\(ϲ t3)<=2000000/\EY w4 R t3 b3):=⟨ah.o.1.trans a9,ay,by have:=ay.1;have:=ah.o.2.2.1;omega,bh⟩;clear a9 bh ay;go_wp2_with fail;have K:ϡ (w4.heap.size≠R/\w.heap.size<=w4.heap.size/\wr.heap.size<=w4.heap.size):=by
   have M:=U.o.2.2.2.lt;have h2:=U.o.1.1.size;have h3:=y.o.2.2.1.1.size;exact⟨ϣ,ϣ,h2⟩
  generalize F:World.alloc w4 _=V;have am:Ϣ w4 V:=by rw[<-F];exact Ϯ
  have d:ϡ (SB V w4.heap.size [.string ⟨C.toArray⟩,vI A,vI B,ώ,ϑ]/\Am V w4 166):=by
   subst F;exact⟨SB.new ..,⟨_,_,DE _ _⟩⟩
  clear F;refine(KR.o t3 b3 V (U.o.2.2.2.below am) U.o.2.2.1).mono ?_;rintro e w5 ⟨ao,r,v,t4,b4,rfl,⟨n,q,rfl,I⟩,bi,az⟩;have Z:ϡ (Ah R wr w5/\YP Ck rowOk r t3 b3 t4 b4/\(ϲ t4)<=2000000/\EY w5 R t4 b4/\AF w5 w (vS n (ϲ r) q) r):=⟨(U.o.1.trans (Ah.of am)).trans ao,az,by have:=az.1;have:=U.o.2.2.1;omega,bi,World.ownsRow.mono I (B0 K.o.2.1 am.size)⟩;replace d:ϡ (SB w5 w4.heap.size [.string ⟨C.toArray⟩,vI A,vI B,ώ,ϑ]/\Am w5 w4 166):=⟨d.o.1.keep ao K.o.1,A1 d.o.2 (ao.2 _ d.o.1.lt K.o.1)⟩;have z3:=d.o.1.cell 3 _ rfl;have g3:=d.o.1.frz 3;clear am ao I bi az;go_wp2_with fail;generalize F:World.setCell w5 _ _=V5;have X:ϡ (Ah R wr V5/\EY V5 R t4 b4/\AF V5 w (vS n (ϲ r) q) r/\SB V5 w4.heap.size [.string ⟨C.toArray⟩,vI A,vI B,vS n (ϲ r) q,ϑ]/\Am V5 w4 166):=by
   have h3:=K.o.2.2;have h4:=K.o.1;have I:=LF Z.o.2.2.2.2 F d.o.2 Ϥ;subst F;exact⟨⟨Z.o.1.1.setCell (At _) _,λg hg hR=>(CB _ _ _ _ ϩ).trans (Z.o.1.2 g hg hR)⟩,Z.o.2.2.2.1.same (CB _ _ _ _ ϩ),I,d.o.1.set 3 _ ϥ,tyAt_set d.o.2 _ _⟩
  clear F z3 g3 d;refine(KN.o t4 b4 V5 X.o.2.1 Z.o.2.2.1).mono ?_;rintro e Y ⟨al,a,v5,G,D,rfl,rfl,bj,bc⟩;have ai:ϡ (Ah R wr Y/\YP AM okN a t4 b4 G D/\EY Y R G D/\AF Y w (vS n (ϲ r) q) r):=⟨X.o.1.trans al,bc,bj,QI X.o.2.2.1 al X.o.2.1.tb⟩;have d:ϡ (SB Y w4.heap.size [.string ⟨C.toArray⟩,vI A,vI B,vS n (ϲ r) q,ϑ]/\Am Y w4 166):=⟨X.o.2.2.2.1.keep al K.o.1,A1 X.o.2.2.2.2 (al.2 _ X.o.2.2.2.1.lt K.o.1)⟩;have a0:ϡ (∀W L,Ah R wr W->EY W R G L->L=(D|| !(decide (a=0)||decide (a=1)))->LI AD Dg m (l++[⟨⟨C.toArray⟩,A,B,r,a==1⟩]) s b G L/\Ah R w W/\OE W w u3 H l):=λW L hk hy hb=>by
   have hc:=YP.cat Hc ag.o.2.1 (YP.cat Bn ah.o.2.1 (YP.cat Bn U.o.2.1 (YP.cat D4 Z.o.2.1 (YP.flag ai.o.2.1 hb))));have P:YP AD Dg ⟨⟨C.toArray⟩,A,B,r,a==1⟩ u false G L:=YP.via (f:=Afa) (ok:=Ag2) ptE hc OY (λx=>⟨So x,λh=>⟨h.1,h.2.1,h.2.2.1,h.2.2.2.1⟩⟩);exact⟨y.o.2.2.2.1.step Ha (by have:=HS.o.2.1;omega) (by have:=y.o.2.2.2.2.1;omega) P,y.o.2.2.1.trans hk,OE.keptY y.o.1 hk y.o.2.1.tb⟩
  have z4:=d.o.1.cell 4 _ rfl;have g4:=d.o.1.frz 4;have z0:=d.o.1.cell 0 _ rfl;have z1:=d.o.1.cell 1 _ rfl;have z2:=d.o.1.cell 2 _ rfl;have z3:=d.o.1.cell 3 _ rfl;have a2:ϡ (∀W u,Y.setCell ⟨w4,4,none⟩ (.bool u)=W->Ah R wr W/\EY W R G D/\AF W w (vS n (ϲ r) q) r/\SB W w4.heap.size [.string ⟨C.toArray⟩,vI A,vI B,vS n (ϲ r) q,.bool u]):=λW u F=>by
   have h3:=K.o.2.2;have h4:=K.o.1;have I:=LF ai.o.2.2.2 F d.o.2 Ϥ;subst F;exact⟨⟨ai.o.1.1.setCell (At _) _,λg hg hR=>(CB _ _ _ _ ϩ).trans (ai.o.1.2 g hg hR)⟩,ai.o.2.2.1.same (CB _ _ _ _ ϩ),I,d.o.1.set 4 _ ϥ⟩
  clear al bj bc;go_upto_region 9 with fail;generalize F:World.setCell Y _ _=E;have z:=hy (a2.o _ _ F);clear F z0 z1 z2 z3 z4 g4 a2;have a1:ϡ (∀W L,Ah R wr W->EY W R G L->AF W w (vS n (ϲ r) q) r->LI AD Dg m (l++[⟨⟨C.toArray⟩,A,B,r,a==1⟩]) s b G L->Ah R w W->OE W w u3 H l->∀g aj Q,Q.ownsRow w 166 5 (vS (ϋ g) (ϲ l+1) aj) (ϲ l+1) (Ap H++[.string ⟨C.toArray⟩,vI A,vI B,vS n (ϲ r) q,.bool (a==1)])->(W.alloc (.cells #[.string ⟨C.toArray⟩,vI A,vI B,vS n (ϲ r) q,.bool (a==1)] 166)).grownBy Q u3.ownBlock->OE Q w (vS (ϋ g) (ϲ l+1) aj) (H++[⟨⟨C.toArray⟩,A,B,(n,ϲ r,q),a==1⟩]) (l++[⟨⟨C.toArray⟩,A,B,r,a==1⟩])/\EY Q R G L/\Ah R w Q):=λW L hk bk I hL bp O g aj Q M h2=>by
   rw[<-y.o.2.2.2.2.2]at M⊢;have hs:=JC (e:=⟨⟨C.toArray⟩,A,B,(n,ϲ r,q),a==1⟩) (x:=⟨⟨C.toArray⟩,A,B,r,a==1⟩) O bR ⟨rfl,rfl,rfl,rfl,rfl,I⟩ M h2;have bq:u3.ownBlock≠some R:=λe=>tyAt_apart bk.tb (Az O.own e) Ϥ rfl;exact⟨hs.1,bk.grown h2 bq,Cy bp h2 (λg e=>(AL O.own e).1)⟩
  by_cases aa:a=0
  case' pos=>
   have ac:ϡ (D=(D|| !(decide (a=0)||decide (a=1)))):=by show _=_;rw[DB aa];cases D<;>rfl
   have e0:(a !=0)=false:=by rw[aa];rfl
   go_upto_region 11 with fail;have HF:=hy (show EY E R G D/\Ah R wr E/\AF E w (vS n (ϲ r) q) r/\SB E w4.heap.size _/\_ from⟨z.o.2.1,z.o.1,z.o.2.2.1,z.o.2.2.2,ac.o⟩)
  case' neg=>
   have e0:(a !=0)=true:=by simpa using aa
   by_cases ak:a=1
   case' pos=>
    have ac:ϡ (D=(D|| !(decide (a=0)||decide (a=1)))):=by show _=_;rw[DB ak,BP aa];cases D<;>rfl
    have e1:(a !=1)=false:=by rw[ak];rfl
    go_upto_region 11 with fail;have HF:=hy (show EY E R G D/\Ah R wr E/\AF E w (vS n (ϲ r) q) r/\SB E w4.heap.size _/\_ from⟨z.o.2.1,z.o.1,z.o.2.2.1,z.o.2.2.2,ac.o⟩)
   case' neg=>
    have ac:ϡ (true=(D|| !(decide (a=0)||decide (a=1)))):=by show _=_;rw[BP ak,BP aa];cases D<;>rfl
    have e1:(a !=1)=true:=by simpa using ak
    have c1:=z.o.2.1.c1;have f1:=z.o.2.1.f1;go_upto_region 11 with fail;have hR:=z.o.2.1.putB (c:=true);have I:=LF z.o.2.2.1 (rfl:E.setCell ⟨R,1,none⟩ (.bool true)=_) z.o.2.1.tb Ϥ;have HF:=hy (show EY (ό E R 1 (.bool true)) R G true/\Ah R wr (ό E R 1 (.bool true))/\AF (ό E R 1 (.bool true)) w.heap.size (vS n (ϲ r) q) r/\SB (ό E R 1 (.bool true)) w4.heap.size _/\_ from⟨hR,z.o.1.trans (Ef _ _ _ _),I,z.o.2.2.2.same (CB _ _ _ _ K.o.1) ϥ,ac.o⟩);clear c1 f1 hR I
  all_goals
   have bw:j<=2000000:=by have:=y.o.2.2.2.2.1;have:=HS.o.2.1;omega
   have bv:IntKind.i64.wrap ((j:Int) - 1)=((j - 1:Nat):Int):=by rw[RW];omega
   obtain⟨ar,au,a4,ab,a5⟩:=HF.o;have P:=a0.o _ _ au ar a5;have HZ:=hy (And.intro (a1.o _ _ au ar a4 P.1 P.2.1 P.2.2) P.1);have a3:=P.2.2.own;rw[y.o.2.2.2.2.2]at a3;have bn:w.heap.size<=_:=P.2.1.1.size;have bx:ϲ l<=1000000:=ap.o.2;obtain⟨q0,q1,q2,q3,q4⟩:=(show _/\_/\_/\_/\_ from⟨ab.cell 0 _ rfl,ab.cell 1 _ rfl,ab.cell 2 _ rfl,ab.cell 3 _ rfl,ab.cell 4 _ rfl⟩)
   try clear e1
   try clear ak
   clear e0 aa;clear HF a1 a0 ar au a4 ab a5 P z ac;generalize World.setCell _ ⟨R,1,none⟩ _=V8 at *;go_wp2_with (at_builtin;refine jn.Na rfl (.tmp 44) (.tmp 46) rfl w.heap.size u3 H ⟨C.toArray⟩ A B n (ϲ r) q (a==1) _ (ϲ l) y.o.2.2.2.2.2 a3 ϣ bn rfl rfl ?_;intro g aj Q bs bo);have hz:=HZ.o.1 g aj Q bs bo;go_wp2;go_roundw;exact⟨j - 1,_,_,G,_,by rw[lAp,bV];omega,rfl,hz.1,hz.2.1,hz.2.2,HZ.o.2⟩;simp[intOf];omega
def Dt(tys:List TypeId)(P:World->Nat->Prop):Prop:=
 ∀w w' b b',P w b->b'<=b->w.heap.size<=w'.heap.size->(∀g T,Am w g T->T∈tys->w'.heap[g]? =w.heap[g]?)->P w' b'
def Dt.mono{d:List TypeId}{P:World->Nat->Prop}(h:Dt d P){b b':Nat}(c:P w b)(a:b'<=b):P w b':=h w w b b' c a nR (λ_ _ _ _=>rfl)
def Dt.keptR{d:List TypeId}{P:World->Nat->Prop}(h:Dt d P)(ht:124 ∉ d){b:Nat}(k:P w b)(c:Ah R w w')(f:Am w R 124):P w' b:=
 h w w' b b k nR c.1.size (λg T a i=>c.2 g (A7 a) (λe=>tyAt_apart a f (λe=>ht (e▸i)) e))
def Dt.put{a:List TypeId}{P:World->Nat->Prop}(h:Dt a P)(ht:T ∉ a){b:Nat}{u:Value}(k:P w b)(d:w.setCell ⟨N,j,none⟩ u=S)(c:Am w N T):P S b:=by
 subst d;exact h w _ b b k nR ϥ (λg l i f=>CB _ _ _ _ (tyAt_apart i c (λe=>ht (e▸f))))
theorem Dt.sets{a:List TypeId}{P:World->Nat->Prop}(h:Dt a P)(ht:T ∉ a){b:Nat}:∀(l:List Value) (o:Nat) (w:ϟ),P w b->Am w N T->P (w.setCells N o l) b
 |[],_,_,hp,_=>hp
 |u::l,o,w,hp,hN=>h.sets ht l (o+1) _ (h.put ht hp rfl hN) (tyAt_set hN _ _)
def Dt.grown{d:List TypeId}{P:World->Nat->Prop}(h:Dt d P)(ht:T ∉ d){b:Nat}(i:P w b)(a:(w.alloc o).grownBy w2 row)(k:∀g,row=some g->Am w g T):P w2 b:=
 h w w2 b b i nR (by have:=a.size;simp at this;omega) (λg l c f=>Ed (bR.alloc nR o) a (A7 c) (λe=>tyAt_apart c (k g e) (λe=>ht (e▸f)) rfl))
def Cp(T:TypeId)(f:Nat)(v:Value)(n:Nat)(h:List Value):Dt [T] (λw b=>w.ownsRow b T f v n h):=λw w' b b' a c i e=>
 World.ownsRow.mono (A4 a (λg d=>e g T (Az a d) (M2.2 rfl))) c
def Dt.and{s t:List TypeId}{P Q:World->Nat->Prop}(h:Dt s P)(k:Dt t Q):Dt (s++t) (λw b=>P w b/\Q w b):=λw w' b b' f d i e=>
 ⟨h w w' b b' f.1 d i (λg T c a=>e g T c (mem_append_left _ a)),k w w' b b' f.2 d i (λg T c a=>e g T c (mem_append_right _ a))⟩
def DG(p:Prop):Dt [] (λ_ _=>p):=λ_ _ _ _ a _ _ _=>a
structure OL{α β:Type} [Inhabited α] [Inhabited β](T:TypeId)(sz:Nat)(cells:β->List Value)(P:β->α->World->Nat->Prop)(st:List β)(l:List α)(v:Value)(w:World)(b:Nat):Prop where
 own:w.ownsRow b T sz v (ϲ l) (st.flatMap cells)
 len:ϲ st=ϲ l
 each:∀i,i<ϲ l->P (st.getD i default) (l.getD i default) w b
def Bu{α β:Type} [Inhabited α] [Inhabited β]{T:TypeId}{p:Nat}{cells:β->List Value}{P:β->α->World->Nat->Prop}{q:List TypeId}(h:∀x y,Dt q (P x y))(st:List β)(l:List α)(v:Value):Dt (T::q) (OL T p cells P st l v):=λw w' b b' e f n k=>
 ⟨Cp T p v _ _ w w' b b' e.own f n (λg a d c=>k g a d (by rw[M2.1 c];exact E0 ..)),e.len,λi z=>h _ _ w w' b b' (e.each i z) f n (λg a d c=>k g a d (EQ _ c))⟩
def OL.nil{α β:Type} [Inhabited α] [Inhabited β](T:TypeId)(c:Nat)(cells:β->List Value)(P:β->α->World->Nat->Prop)(w:ϟ)(b:Nat):OL T c cells P [] [] (vS none 0 0) w b:=⟨KX _ _ _ _,rfl,λi a=>absurd a (CA i)⟩
theorem OL.snoc{α β:Type} [Inhabited α] [Inhabited β]{T:TypeId}{c:Nat}{cells:β->List Value}{P:β->α->World->Nat->Prop}{p:List TypeId}(n:∀x y,Dt p (P x y))(d:T ∉ p){st:List β}{l:List α}{v q:Value}{w w2:ϟ}{b:Nat}{o:Obj}{y:β}{x:α}
 (h:OL T c cells P st l v w b) (B:P y x w b) (f:(w.alloc o).grownBy w2 v.ownBlock) (A:w2.ownsRow b T c q (ϲ l+1) (st.flatMap cells++cells y)):OL T c cells P (st++[y]) (l++[x]) q w2 b:=by
 have k:∀g,v.ownBlock=some g->Am w g T:=λg e=>Az h.own e;refine⟨by simpa using A,by simp[h.len],λi z=>?_⟩;by_cases a:i<ϲ l
 ·rw[Ba (by rw[h.len];exact a),Ba a];exact(n _ _).grown d (h.each i a) f k
 ·have:i=ϲ l:=by simp at z;omega
  subst this;rw[Bf (by rw[h.len];exact HU _),Bf nR,h.len,cW];exact(n _ _).grown d B f k
def OL.form{α β:Type} [Inhabited α] [Inhabited β]{T:TypeId}{d:Nat}{cells:β->List Value}{P:β->α->World->Nat->Prop}{st:List β}{l:List α}{v:Value}{w:ϟ}{b:Nat}(h:OL T d cells P st l v w b):∃a c,v=vS a (ϲ l) c:=Yi h.own
def QJ{a:List Value}:∀j u,a[j]? =some u->(w.alloc (.cells a.toArray T)).cell? ((⟨w,0,none⟩:Addr).add j)=some u:=λj u h=>by
 rw[Di,Fr];exact(SB.new w a T).cell j u h
theorem Dw{q:Array Oper}{rest:List Oper}{o:Oper}{a:Act}{Q:Exit->Act->World->Prop}(D:o.guard=none)(s x:Operand)(T f:TypeId)
 (F:o.op= .call {callee:=.builtin .append,args:=#[s,x],argTypes:=#[f,f]}) (z:Value) (d k:Nat)
 (I:prog.underlying f=some (.slice T)) (n:(prog.info? T).map (λi=>(i.zero,i.size,i.bytes))=some (some z,d,k)) (O:z.cells.size=d) (H:0<d) (B:k<=1000)
 (base:Nat) (v:Value) (p e:List Value) (w:ϟ) (c:Nat) (E:w.ownsRow base T d v c p) (C:ϲ e=d) (h1:∀u∈e,u.oneCell'=true) (Y:c<=1000000) (X:base<=w.heap.size)
 (G:a.eval s=v) (J:a.eval x=vS (ϋ w) 1 1)
 (h:∀g l w2,w2.ownsRow base T d (vS (ϋ g) (c+1) l) (c+1) (p++e)->(w.alloc (.cells e.toArray T)).grownBy w2 v.ownBlock->wpList prog q Q rest (a.put o.dst (vS (ϋ g) (c+1) l)) w2):
 wpList prog q Q (o::rest) a (w.alloc (.cells e.toArray T)):=by
 obtain⟨P,n,K,L,M⟩:=IR n;refine wpList_append_lies _ D s x f F base T P z d k I n K L M O H v c p G
  (E.alloc _) ⟨w,0,none⟩ 1 1 e J (by rw[dS];exact C) QJ h1 Ϥ ϭ ?_ Ϩ (w.heap.size+1) ϥ ?_
 ·have:(c+1) * k<=1000001 * 1000:=Nat.mul_le_mul ϣ B;omega
 intro g l w2 y A U V;exact h g l w2 y A
end cd
namespace cd
open vl bf bt
variable {s : List UInt8} {v : Value} {w : ϟ} {b : Nat}
def BC(t:Tal):List UInt8:=Ck [t.1]++AM t.2
def FW(t:Tal):Prop:=rowOk [t.1]/\okN t.2
def ptT(t:Tal):List Cel×Int:=([t.1],t.2)
def Sp:Pre BC FW:=Pre.via (D4.cat Bn) ptT (λx y _ _ e=>by
 obtain⟨a,b⟩:=x;obtain⟨c,d⟩:=y;simp only[ptT,bG,bW,and_true]at e;rw[e.1,e.2]) (λ_=>rfl) (λ_ h=>h)
def Bad.tal(h:Bad (cat Ck AM) (okP rowOk okN) s):Bad BC FW s:=h.via ptT (λ_=>rfl) (λ_ h=>h)
def Bad.tal1{r:List Cel}(a:rowOk r)(h:ϲ r≠1):Bad BC FW (Ck r++s):=by
 intro t u c e;unfold BC at e;rw[Bx]at e;rw[(D4 _ _ _ _ a c.1 e).1]at h;exact h rfl
def Ag3(t:Tal):Value:=.agg #[vI t.1.k,vI t.1.n,.string t.1.s,vI t.2]
def VTl(_:Nat)(t:Tal)(v:Value)(_:World):Prop:=v=Ag3 t
def AcK:(prog.info? 121).map (·.size)=some 4:=Ϧ
theorem WQ(R:Nat)(s:List UInt8)(w:ϟ)(h:RQ w R s)(U:ϲ s<=10000000):
 χ 144 #[ω R] w (Rd BC FW (VTl w.heap.size) R s w):=by
 have KR:=hIz (λ(f:ϟ) (g:Ah R w f) (l:RR f R s)=>LN R s f (h.go g l) U);have KM:=hIz (λso (f:ϟ) t (g:Ah R w f) (l:RR f R t)=>Ey R so f (h.go g l).err);have KN:=hIz (λt (f:ϟ) (g:Ah R w f) (l:RR f R t) (ht:ϲ t<=10000000)=>Dq R t f (h.go g l) ht);have hR:=h.rr.lt;have G:=hV0 U;have HR:ϡ (RR w R s):=h.rr;clear h U;go_enter func144,ntmps144;go_wp2_with fail;have d:=hy ((ES.base HR.o).new ϥ [Ϗ,Ϗ,ϐ,Ϗ] 121);generalize (World.alloc w _)=V at d⊢;refine(KR.o V d.o.keep d.o.rr).mono ?_;rintro o f ⟨g,⟨r,t,v,C,rfl,rfl,⟨ad,ae,rfl,X⟩,l⟩|⟨Q,v,rfl⟩⟩
 rotate_left
 ·exact⟨rfl,d.o.keep.trans g,.inr ⟨Q.fst.tal,_,rfl⟩⟩
 replace d:=hy (d.o.call hR g l);have H:=hV0 C;replace G:ϡ (ϲ t<=10000000):=by have:=G.o;rw[lAp]at this;show _<=_;omega
 clear C g l KR;by_cases M:ϲ r=1
 rotate_left
 ·have b1:((ϲ r:Int)==1)=false:=by simpa using(show¬((ϲ r:Int)=1) by omega)
  go_wp2_with (go_at_call 139;refine(KM.o _ _ _ d.o.keep d.o.rr).mono ?_;rintro e w2 ⟨rfl,_,P⟩;obtain⟨v,rfl⟩:=P (by simp[b1]));exact⟨rfl,d.o.keep,.inr ⟨Bad.tal1 H.o M,_,rfl⟩⟩
 obtain⟨c,rfl⟩:=List.length_eq_one_iff.1 M;have ac:=D5 X;obtain⟨B,O,rfl,I,J,L⟩:=ac 0 ϥ;simp only[List.getD_cons_zero,bU,aE]at I J L;obtain⟨k,n,q⟩:=c;dsimp only at I J L;have D:Am f B 119:=Az X rfl;have aa:B≠R:=tyAt_apart D d.o.rr.tb Ϥ;have Y:ϡ (∀w',Ah R f w'->ϙ w' B O (vI k) (vI n) (.string q)):=λw' g=>by
  have p:=g.2 B (A7 D) aa;exact⟨(cOb (w:=f) (a:=⟨B,O,none⟩) p).trans I,(cOb (w:=f) (a:=⟨B,O+1,none⟩) p).trans J,(cOb (w:=f) (a:=⟨B,O+1+1,none⟩) p).trans L⟩
 clear X ac M;go_upto_region 3 with(go_at_call 139;refine(KM.o _ _ _ d.o.keep d.o.rr).mono ?_;rintro e w2 ⟨rfl,P,_⟩;obtain rfl:=P ϥ);have y:Ah R w2 w2.drew:=Ah.of bR.drew;refine gr.CZ 7 rfl Ϧ (S:=(λw'=>ϙ w' B O (vI k) (vI n) (.string q))) (Y.o _ y) (λx=>?_);refine tkz 0 11 x ?_;refine tkz 1 12 x ?_;refine tkz 2 13 x ?_;refine tkz 3 14 x ?_;refine rD 4 λK A=>?_;go_simp;refine(KN.o t w2.drew (d.o.keep.trans y) (d.o.rr.below bR.drew) G.o).mono ?_;rintro o i ⟨g,⟨m,t2,v,C,rfl,rfl,rfl,l⟩|⟨Q,v,rfl⟩⟩
 rotate_left
 ·exact⟨rfl,(d.o.keep.trans y).trans g,.inr ⟨(Q.snd D4 H.o).tal,_,rfl⟩⟩
 have HN:ϡ (okN m):=C;replace d:=hy (d.o.call hR (y.trans g) l);have E:=Y.o i (y.trans g);have Z:ϡ (i.there w.heap.size 0 4):=(d.o.blk 0 _ rfl).1.there;clear C l;go_wp2_with fail;refine A.out _ _ E (λx=>?_);clear A K
 try simp only[Act.put,sI,sZ,sSz]
 refine tkz 5 16 x ?_;refine rD 6 λK A=>?_;refine jn.Ky rfl 121 (.tmp 2) (.tmp 16) rfl w.heap.size 0 #[vI k,vI n,.string q,vI m] rfl rfl Z.o AcK Ϭ ?_;have F:ϡ (RR (World.setCells i w.heap.size 0 [vI k,vI n,.string q,vI m]) R t2/\Ah R w (World.setCells i w.heap.size 0 [vI k,vI n,.string q,vI m])):=⟨d.o.rr.sets ϣ _ _,Dd d.o.keep nR _ _⟩;have z:ϡ ((World.setCells i w.heap.size 0 [vI k,vI n,.string q,vI m]).rangeAt w.heap.size 0 [vI k,vI n,.string q,vI m]):=Wf _ _ _ _ Z.o;have ab:ϙ (World.setCells i w.heap.size 0 [vI k,vI n,.string q,vI m]) B O (vI k) (vI n) (.string q):=by
  have p:(World.setCells i w.heap.size 0 [vI k,vI n,.string q,vI m]).heap[B]? =i.heap[B]? :=BA (tyAt_apart (A1 D ((y.trans g).2 B (A7 D) aa)) (d.o.blk 0 _ rfl).2 Ϥ) _ _ _;exact⟨(cOb (w:=i) (a:=⟨B,O,none⟩) p).trans E.1,(cOb (w:=i) (a:=⟨B,O+1,none⟩) p).trans E.2.1,(cOb (w:=i) (a:=⟨B,O+1+1,none⟩) p).trans E.2.2⟩
 generalize (World.setCells i w.heap.size 0 [vI k,vI n,.string q,vI m])=W' at z F ab⊢;refine A.out _ _ ab (λx=>?_);clear A K;refine GT Ϧ ?_ _;have z0:=z.o 0 _ rfl;have z1:=z.o 1 _ rfl;have z2:=z.o 2 _ rfl;have z3:=z.o 3 _ rfl;simp only[Fr]at z0 z1 z2 z3;go_wp2_with fail;exact CD (v:=.agg #[vI k,vI n,.string q,vI m]) (by simp[results,results144,go_sem,z0,z1,z2,z3]) rfl ⟨F.o.2,.inl ⟨(⟨k,n,q⟩,m),t2,_,⟨H.o,HN.o⟩,by unfold BC;rw[Bx],rfl,rfl,F.o.1⟩⟩
def Uq(t:Tal):List Value:=[vI t.1.k,vI t.1.n,.string t.1.s,vI t.2]
def PTl(y x:Tal)(_:World)(_:Nat):Prop:=y=x
def LH(y x:Tal):Dt [] (PTl y x):=DG _
def VLt(base:Nat)(l:List Tal)(v:Value)(w:World):Prop:=∃ad cap st,v=vS ad (ϲ l) cap/\OL 121 4 Uq PTl st l v w base
def Sq(t:Tal):8<=ϲ (BC t):=by
 unfold BC;rw[lAp,As];omega
def Aae{α:Type} [Inhabited α]{s l:List α}(h:ϲ s=ϲ l)(e:∀i,i<ϲ l->s.getD i default=l.getD i default):s=l:=by
 apply List.ext_getElem h;intro i c a;have:=e i a;rwa[gDe,gEe c,gDe,gEe a]at this
def AcL{st l:List Tal}(h:OL 121 4 Uq PTl st l v w b):AeM w b v l:=by
 have e:=Aae h.len h.each;subst e;exact h.own
def B6:List Tal->List UInt8:=lst BC
def Gx:List Tal->Prop:=okL FW
def VTs(base:Nat)(l:List Tal)(v:Value)(w:World):Prop:=∃ad cap,v=vS ad (ϲ l) cap/\AeM w base v l
def WS(l:List Tal):8<=ϲ (B6 l):=by
 unfold B6 lst;rw[lAp,As];omega
def Sr:Pre B6 Gx:=Sp.lst
def hdC(h:Option Addr×Nat×Nat):List Value:=[hdV h]
def PBg(h:Option Addr×Nat×Nat)(l:List Tal)(w:World)(b:Nat):Prop:=h.2.1=ϲ l/\AeM w b (hdV h) l
def Ew(h:Option Addr×Nat×Nat)(l:List Tal):Dt ([]++[121]) (PBg h l):=(DG _).and (Cp 121 4 (hdV h) _ _)
def VBs(base:Nat)(l:List (List Tal))(v:Value)(w:World):Prop:=∃ad cap st,v=vS ad (ϲ l) cap/\OL 117 1 hdC PBg st l v w base
def Ym:(prog.info? 117).map (λi=>(i.zero,i.size,i.bytes))=some (some (vS none 0 0),1,24):=Ϧ
theorem Aaf(R C:Nat)(s:List UInt8)(w:ϟ)(h:RQ w R s)(n:RP w C R)(F:ϲ s<=2000000):
 χ 143 #[ω C] w (Rd BC FW (VTl w.heap.size) R s w):=by
 have D:=hIz (λ(a:ϟ) (f:Ϣ w a)=>WQ R s a (h.below f) ϣ);have H:=n.cell;have I:=n.lt;have E:=h.rr.lt;have c:ϡ (RR w R s):=h.rr;clear h F;go_enter func143,ntmps143;go_wp2_with fail;have d:=hy ((ES.base c.o).new ϥ [Ϗ,Ϗ,ϐ,Ϗ] 121);have g:Ϣ w (World.alloc w (.cells ([Ϗ,Ϗ,ϐ,Ϗ]:List Value).toArray 121)):=Ϯ;generalize (World.alloc w _)=V at d g⊢;refine(D.o V g).mono ?_;rintro o a ⟨i,⟨x,t,v,p,rfl,rfl,rfl,k⟩|⟨f,v,rfl⟩⟩
 rotate_left
 ·exact⟨rfl,d.o.keep.trans i,.inr ⟨f,_,rfl⟩⟩
 have B:ϡ (FW x):=p;replace d:=hy (d.o.call E i k);have l:ϡ (a.there w.heap.size 0 4):=(d.o.blk 0 _ rfl).1.there;have e:ϡ (RR (World.setCells a w.heap.size 0 [vI x.1.k,vI x.1.n,.string x.1.s,vI x.2]) R t/\Ah R w (World.setCells a w.heap.size 0 [vI x.1.k,vI x.1.n,.string x.1.s,vI x.2])/\True):=
  ⟨k.sets ϣ _ _,Dd d.o.keep nR _ _,trivial⟩
 unfold Ag3;clear k i p g;have c:ϡ ((World.setCells a w.heap.size 0 [vI x.1.k,vI x.1.n,.string x.1.s,vI x.2]).rangeAt w.heap.size 0 [vI x.1.k,vI x.1.n,.string x.1.s,vI x.2]):=Wf _ _ _ _ l.o;go_wp2_with ((with_reducible refine Ft ?_ 121 (.tmp 1) (.tmp 3) ?_ w.heap.size 0 #[vI x.1.k,vI x.1.n,.string x.1.s,vI x.2] ?_ ?_ ?_ ?_ ?_ ?_);exact rfl;exact rfl;exact rfl;exact rfl;exact l.o;exact AcK;exact Ϭ);generalize (World.setCells a w.heap.size 0 [vI x.1.k,vI x.1.n,.string x.1.s,vI x.2])=G at c e⊢;have q:=c.o 0 _ rfl;have y:=c.o 1 _ rfl;have z:=c.o 2 _ rfl;have A:=c.o 3 _ rfl;simp only[Fr]at q y z A;exact CD (v:=.agg #[vI x.1.k,vI x.1.n,.string x.1.s,vI x.2]) (by simp[results,results143,go_sem,q,y,z,A]) rfl ⟨e.o.2.1,.inl ⟨x,t,_,B.o,rfl,rfl,rfl,e.o.1⟩⟩
theorem Aag(R C:Nat)(s:List UInt8)(w:ϟ)(h:RQ w R s)(hp:RP w C R)(Z:ϲ s<=2000000):
 χ 142 #[ω R,.func (.func 143) #[] #[ω C]] w (Rd (lst BC) (okL FW) (VLt w.heap.size) R s w):=by
 have Y:=hy (Dq R s w h ϣ);have X:=hIz (λso (c:ϟ) t (p:Ah R w c) (O:RR c R t)=>Ey R so c (h.go p O).err);have KO:=hIz (λt (c:ϟ) (p:Ah R w c) (O:RR c R t) (ht:ϲ t<=2000000)=>Aaf R C t c (h.go p O) (hp.keep p) ϣ);have Q:=hV0 Z;clear h hp Z;go_enter func142,ntmps142;go_wp2_with fail;refine Y.o.mono ?_;rintro e c ⟨z,⟨n,t,v,hn,rfl,rfl,rfl,P⟩|⟨L,v,rfl⟩⟩
 rotate_left
 ·exact⟨rfl,z,.inr ⟨L.len,_,rfl⟩⟩
 have J:ϡ (okN n):=hn;clear hn Y;by_cases h0:0<=n
 rotate_left
 ·go_wp2_with (go_at_call 139;refine(X.o _ _ _ z P).mono ?_;rintro e w2 ⟨rfl,_,K⟩;obtain⟨v,rfl⟩:=K Ϫ);exact⟨rfl,z,.inr ⟨Bad.neg J.o ϣ,_,rfl⟩⟩
 obtain⟨m,rfl⟩:∃m:Nat,n=m:=⟨n.toNat,ϣ⟩;have U:ϡ (m<=9223372036854775807):=by have:=J.o.2;show _<=_;omega
 have G:ϡ (RR c R t/\Ah R w c):=⟨P,z⟩;clear P z J;go_wp2_with (go_at_call 139;refine(X.o _ _ _ G.o.2 G.o.1).mono ?_;rintro e w2 ⟨rfl,K,_⟩;obtain rfl:=K ϥ)
 go_loopw [6,14] (λv i wr=> ∃(k:Nat) (l:List Tal) (f:List Tal) (u:List UInt8),ϲ l=k/\k<=m/\i=vI k/\OL 121 4 Uq PTl f l v wr w.heap.size/\(∀x∈l,FW x)/\t=l.flatMap BC++u/\RR wr R u/\Ah R w wr) (λ_ i _=>m - (intOf i).toNat)
 case atStart=>exact⟨0,[],[],t,rfl,At _,rfl,OL.nil ..,ϥ,rfl,G.o⟩
 case round=>
  obtain⟨k,l,f,u,B,am,rfl,D,I,rfl,E,d⟩:=hrel;have an:8 * k+ϲ u<=2000000:=by
   have:=Q.o;have:=Ee Sq l;rw[lAp,lAp,As]at *;omega
  by_cases ag:k<m
  ·have a:ϡ (OL 121 4 Uq PTl f l u6 wr w.heap.size/\Am wr R 124/\(∀x∈l,FW x)/\Ah R w wr/\(ϲ l)=k):=⟨D,E.tb,I,d,B⟩;have i1:=nn0 k;have i2:(k:Int)<(m:Int):=ϣ;have ak:ϲ u<=2000000:=ϣ;clear D I B Q G;go_wp2_with fail;refine(KO.o u wr d E ak).mono ?_;rintro e q ⟨A,⟨x,u2,v,hx,rfl,rfl,rfl,aa⟩|⟨L,v,rfl⟩⟩
   rotate_left
   ·exact⟨rfl,d.trans A,.inr ⟨Bad.elem Sp a.o.2.2.1 U.o (by rw[a.o.2.2.2.2];exact ag) L,_,rfl⟩⟩
   have F:ϡ (OL 121 4 Uq PTl f l u6 q w.heap.size):=(Bu LH f l u6).keptR Ϥ a.o.1 A a.o.2.1;have ae:=d.1.size;have HP:ϡ (PTl x x q w.heap.size):=rfl;unfold Ag3;have H:ϡ (RR q R u2/\Ah R w q/\FW x):=⟨aa,d.trans A,hx⟩;have ac:w.heap.size<=q.heap.size:=B0 d.1.size A.1.size;have V:=hy F.o.own;rw[a.o.2.2.2.2]at V;clear aa A E d hx ae;go_wp2_with (at_builtin;refine Dw rfl (.tmp 16) (.tmp 19) 121 117 rfl (.agg #[Ϗ,Ϗ,ϐ,Ϗ]) 4 40 underlying117 AfN rfl Ϥ Ϥ w.heap.size u6 _ [vI x.1.k,vI x.1.n,.string x.1.s,vI x.2] q k V.o rfl Ϭ ϣ ac rfl rfl ?_;intro g al w4 ai M);have hs:=OL.snoc LH Ϥ (y:=x) (x:=x) F.o HP.o M (by rw[a.o.2.2.2.2];exact ai);have ah:u6.ownBlock≠some R:=λe=>tyAt_apart H.o.1.tb (Az F.o.own e) Ϥ rfl;have aj:=H.o.1.grown M ah;have af:=Cy H.o.2.1 M (λg e=>(AL F.o.own e).1);go_wp2;go_roundw;exact⟨k+1,l++[x],f++[x],u2,by simp[a.o.2.2.2.2],ϣ,by go_num,hs,FK a.o.2.2.1 H.o.2.2,DC _ _ _ _,aj,af⟩;simp[intOf];omega
  ·have p:k=m:=ϣ;subst p;have i2:¬((k:Int)<(k:Int)):=ϣ;obtain⟨ad,ab,hv⟩:=D.form;rw[B]at hv;have a:ϡ (OL 121 4 Uq PTl f l u6 wr w.heap.size/\(∀x∈l,FW x)/\RR wr R u/\Ah R w wr/\(ϲ l)=k):=⟨D,I,E,d,B⟩;clear D E d I B;subst hv;go_wp2;go_ret;exact⟨a.o.2.2.2.1,.inl ⟨l,u,_,⟨by rw[a.o.2.2.2.2];exact U.o,a.o.2.1⟩,by unfold lst;rw[a.o.2.2.2.2,Bx],rfl,⟨ad,ab,f,by rw[a.o.2.2.2.2];rfl,a.o.1⟩,a.o.2.2.1⟩⟩
theorem AcM(R C:Nat)(s:List UInt8)(w:ϟ)(h:RQ w R s)(c:RP w C R)(g:ϲ s<=2000000):
 χ 141 #[ω C] w (Rd B6 Gx (VTs w.heap.size) R s w):=by
 have B:∀(d:Fn) (first a:Array Value) (w:ϟ),(Instr.makeFunc d first a).run prog w= .ok (.func d first a) w:=λ_ _ _ _=>rfl;have l:=hy (Aag R C s w h c g);have A:=c.cell;have z:=c.lt;clear h c g;go_enter func141,ntmps141;go_wp2_with fail;refine l.o.mono ?_;rintro e E ⟨f,⟨x,t,v,y,rfl,rfl,⟨n,a,D,rfl,i⟩,q⟩|⟨p,v,rfl⟩⟩
 rotate_left
 ·exact⟨rfl,f,.inr ⟨p,_,rfl⟩⟩
 have k:=hy (AcL i);clear i;go_wp2;go_ret;exact⟨f,.inl ⟨x,t,_,y,rfl,rfl,⟨n,a,rfl,k.o⟩,q⟩⟩
theorem Aah(R C:Nat)(s:List UInt8)(w:ϟ)(h:RQ w R s)(hp:RP w C R)(hm:ϲ s<=2000000):
 χ 140 #[ω R,.func (.func 141) #[] #[ω C]] w (Rd (lst B6) (okL Gx) (VBs w.heap.size) R s w):=by
 have KN:=hy (Dq R s w h ϣ);have Z:=hIz (λso (c:ϟ) t (z:Ah R w c) (Q:RR c R t)=>Ey R so c (h.go z Q).err);have KO:=hIz (λt (c:ϟ) (z:Ah R w c) (Q:RR c R t) (ht:ϲ t<=2000000)=>AcM R C t c (h.go z Q) (hp.keep z) ϣ);have V:=hV0 hm;clear h hp hm;go_enter func140,ntmps140;go_wp2_with fail;refine KN.o.mono ?_;rintro e c ⟨B,⟨n,t,v,hn,rfl,rfl,rfl,U⟩|⟨O,v,rfl⟩⟩
 rotate_left
 ·exact⟨rfl,B,.inr ⟨O.len,_,rfl⟩⟩
 have L:ϡ (okN n):=hn;clear hn KN;by_cases h0:0<=n
 rotate_left
 ·go_wp2_with (go_at_call 139;refine(Z.o _ _ _ B U).mono ?_;rintro e w2 ⟨rfl,_,M⟩;obtain⟨v,rfl⟩:=M Ϫ);exact⟨rfl,B,.inr ⟨Bad.neg L.o ϣ,_,rfl⟩⟩
 obtain⟨m,rfl⟩:∃m:Nat,n=m:=⟨n.toNat,ϣ⟩;have X:ϡ (m<=9223372036854775807):=by have:=L.o.2;show _<=_;omega
 have I:ϡ (RR c R t/\Ah R w c):=⟨U,B⟩;clear U B L;go_wp2_with (go_at_call 139;refine(Z.o _ _ _ I.o.2 I.o.1).mono ?_;rintro e w2 ⟨rfl,M,_⟩;obtain rfl:=M ϥ)
 go_loopw [6,14] (λv i wr=> ∃(k:Nat) (l:List (List Tal)) (f:List (Option Addr×Nat×Nat)) (u:List UInt8),ϲ l=k/\k<=m/\i=vI k/\OL 117 1 hdC PBg f l v wr w.heap.size/\(∀x∈l,Gx x)/\t=l.flatMap B6++u/\RR wr R u/\Ah R w wr) (λ_ i _=>m - (intOf i).toNat)
 case atStart=>exact⟨0,[],[],t,rfl,At _,rfl,OL.nil ..,ϥ,rfl,I.o⟩
 case round=>
  obtain⟨k,l,f,u,E,am,rfl,F,K,rfl,G,d⟩:=hrel;have an:8 * k+ϲ u<=2000000:=by
   have:=V.o;have:=Ee WS l;rw[lAp,lAp,As]at *;omega
  by_cases af:k<m
  ·have a:ϡ (OL 117 1 hdC PBg f l u6 wr w.heap.size/\Am wr R 124/\(∀x∈l,Gx x)/\Ah R w wr/\(ϲ l)=k):=⟨F,G.tb,K,d,E⟩;have i1:=nn0 k;have i2:(k:Int)<(m:Int):=ϣ;have ak:ϲ u<=2000000:=ϣ;clear F K E V I;go_wp2_with fail;refine(KO.o u wr d G ak).mono ?_;rintro e A ⟨D,⟨x,u2,v,hx,rfl,rfl,⟨p,q,rfl,ah⟩,ab⟩|⟨O,v,rfl⟩⟩
   rotate_left
   ·exact⟨rfl,d.trans D,.inr ⟨Bad.elem Sr a.o.2.2.1 X.o (by rw[a.o.2.2.2.2];exact af) O,_,rfl⟩⟩
   have H:ϡ (OL 117 1 hdC PBg f l u6 A w.heap.size):=(Bu Ew f l u6).keptR Ϥ a.o.1 D a.o.2.1;have aa:=d.1.size;have HP:ϡ (PBg (p,ϲ x,q) x A w.heap.size):=⟨rfl,World.ownsRow.mono ah aa⟩;have J:ϡ (RR A R u2/\Ah R w A/\Gx x):=⟨ab,d.trans D,hx⟩;have ac:w.heap.size<=A.heap.size:=B0 d.1.size D.1.size;have Y:=hy H.o.own;rw[a.o.2.2.2.2]at Y;clear ab D G d hx aa;go_wp2_with (at_builtin;refine Dw rfl (.tmp 16) (.tmp 19) 117 100 rfl (vS none 0 0) 1 24 underlying100 Ym rfl Ϥ Ϥ w.heap.size u6 _ [vS p (ϲ x) q] A k Y.o rfl Ϭ ϣ ac rfl rfl ?_;intro g al w4 ai P);have hs:=OL.snoc Ew Ϥ (y:=(p,ϲ x,q)) (x:=x) H.o HP.o P (by rw[a.o.2.2.2.2];exact ai);have ag:u6.ownBlock≠some R:=λe=>tyAt_apart J.o.1.tb (Az H.o.own e) Ϥ rfl;have aj:=J.o.1.grown P ag;have ae:=Cy J.o.2.1 P (λg e=>(AL H.o.own e).1);go_wp2;go_roundw;exact⟨k+1,l++[x],f++[(p,ϲ x,q)],u2,by simp[a.o.2.2.2.2],ϣ,by go_num,hs,FK a.o.2.2.1 J.o.2.2,DC _ _ _ _,aj,ae⟩;simp[intOf];omega
  ·have z:k=m:=ϣ;subst z;have i2:¬((k:Int)<(k:Int)):=ϣ;obtain⟨p,q,hv⟩:=F.form;rw[E]at hv;have a:ϡ (OL 117 1 hdC PBg f l u6 wr w.heap.size/\(∀x∈l,Gx x)/\RR wr R u/\Ah R w wr/\(ϲ l)=k):=⟨F,K,G,d,E⟩;clear F G d K E;subst hv;go_wp2;go_ret;exact⟨a.o.2.2.2.1,.inl ⟨l,u,_,⟨by rw[a.o.2.2.2.2];exact X.o,a.o.2.1⟩,by unfold lst;rw[a.o.2.2.2.2,Bx],rfl,⟨p,q,f,by rw[a.o.2.2.2.2];rfl,a.o.1⟩,a.o.2.2.1⟩⟩
def JD(v:Value)(a:List EM)(l:List Ent):Dt [166,119] (λw b=>OE w b v a l):=λw w' b b' f c h e=>
 (f.same h (λg k t d i=>e g t ⟨_,_,d⟩ (by
  rcases i with⟨_,rfl⟩|rfl
  ·decide
  ·decide))).mono c
def Ur(p:Part):List Value:=[hdV p.1]
def PRn(p:Part)(r:List Ent)(w:World)(b:Nat):Prop:=p.1.2.1=ϲ r/\OE w b (hdV p.1) p.2 r
def Gy(p:Part)(r:List Ent):Dt ([]++[166,119]) (PRn p r):=(DG _).and (JD _ _ _)
def VL2(base:Nat)(l:List (List Ent))(v:Value)(w:World):Prop:=∃ad cap st,v=vS ad (ϲ l) cap/\OL 33 1 Ur PRn st l v w base
def Ahd{st:List Part}{l:List (List Ent)}(h:OL 33 1 Ur PRn st l v w b):RS w b v st l:=
 ⟨by
  have:=h.own;rw[<-h.len]at this;rw[List.map_eq_flatMap];exact this,h.len,h.each⟩
def Ss(l:List Ent):8<=ϲ (lst AD l):=by
 unfold lst;rw[lAp,As];omega
def AcN(R C D:Nat)(s:List UInt8)(w:ϟ)(h:RQ w R s)(a:RP w C R)(c:GP w D C R)(f:ϲ s<=2000000):
 χ 208 #[ω C,ω D] w (Rd (lst AD) (okL Dg) (VL1 w.heap.size) R s w):=by
 have g:=hy (QG R C s w h a f);have E:=a.cell;have p:=c.cell;unfold G1 at p;have A:=a.lt;have B:=c.lt;clear h a c f;go_enter func208,ntmps208;go_wp2_with fail;refine g.o.mono ?_;rintro e F ⟨d,⟨x,t,v,z,rfl,rfl,⟨i,k,l,rfl,q⟩,y⟩|⟨n,v,rfl⟩⟩
 rotate_left
 ·exact⟨rfl,d,.inr ⟨n,_,rfl⟩⟩
 go_wp2;go_ret;exact⟨d,.inl ⟨x,t,_,z,rfl,rfl,⟨i,k,l,rfl,q⟩,y⟩⟩
theorem Aai(R C D:Nat)(s:List UInt8)(w:ϟ)(h:RQ w R s)(hp:RP w C R)(hd:GP w D C R)(hm:ϲ s<=2000000):
 χ 207 #[ω R,.func (.func 208) #[] #[ω C,ω D]] w (Rd (lst (lst AD)) (okL (okL Dg)) (VL2 w.heap.size) R s w):=by
 have KN:=hy (Dq R s w h ϣ);have KM:=hIz (λso (c:ϟ) t (p:Ah R w c) (V:RR c R t)=>Ey R so c (h.go p V).err);have KO:=hIz (λt (c:ϟ) (p:Ah R w c) (V:RR c R t) (ht:ϲ t<=2000000)=>AcN R C D t c (h.go p V) (hp.keep p) (hd.keep p) ϣ);have Y:=hV0 hm;clear h hp hm;go_enter func207,ntmps207;go_wp2_with fail;refine KN.o.mono ?_;rintro e c ⟨B,⟨n,t,v,hn,rfl,rfl,rfl,X⟩|⟨Q,v,rfl⟩⟩
 rotate_left
 ·exact⟨rfl,B,.inr ⟨Q.len,_,rfl⟩⟩
 have M:ϡ (okN n):=hn;clear hn KN;by_cases h0:0<=n
 rotate_left
 ·go_wp2_with (go_at_call 139;refine(KM.o _ _ _ B X).mono ?_;rintro e w2 ⟨rfl,_,P⟩;obtain⟨v,rfl⟩:=P Ϫ);exact⟨rfl,B,.inr ⟨Bad.neg M.o ϣ,_,rfl⟩⟩
 obtain⟨m,rfl⟩:∃m:Nat,n=m:=⟨n.toNat,ϣ⟩;have Z:ϡ (m<=9223372036854775807):=by have:=M.o.2;show _<=_;omega
 have J:ϡ (RR c R t/\Ah R w c):=⟨X,B⟩;clear X B M;go_wp2_with (go_at_call 139;refine(KM.o _ _ _ J.o.2 J.o.1).mono ?_;rintro e w2 ⟨rfl,P,_⟩;obtain rfl:=P ϥ)
 go_loopw [6,14] (λv i wr=> ∃(k:Nat) (l:List (List Ent)) (f:List Part) (u:List UInt8),ϲ l=k/\k<=m/\i=vI k/\OL 33 1 Ur PRn f l v wr w.heap.size/\(∀x∈l,(okL Dg) x)/\t=l.flatMap (lst AD)++u/\RR wr R u/\Ah R w wr) (λ_ i _=>m - (intOf i).toNat)
 case atStart=>exact⟨0,[],[],t,rfl,At _,rfl,OL.nil ..,ϥ,rfl,J.o⟩
 case round=>
  obtain⟨k,l,f,u,F,an,rfl,G,L,rfl,H,d⟩:=hrel;have ao:8 * k+ϲ u<=2000000:=by
   have:=Y.o;have:=Ee Ss l;rw[lAp,lAp,As]at *;omega
  by_cases ag:k<m
  ·have a:ϡ (OL 33 1 Ur PRn f l u6 wr w.heap.size/\Am wr R 124/\(∀x∈l,(okL Dg) x)/\Ah R w wr/\(ϲ l)=k):=⟨G,H.tb,L,d,F⟩;have i1:=nn0 k;have i2:(k:Int)<(m:Int):=ϣ;have al:ϲ u<=2000000:=ϣ;clear G L F Y J;go_wp2_with fail;refine(KO.o u wr d H al).mono ?_;rintro e A ⟨E,⟨x,u2,v,hx,rfl,rfl,⟨q,z,O,rfl,ai⟩,ac⟩|⟨Q,v,rfl⟩⟩
   rotate_left
   ·exact⟨rfl,d.trans E,.inr ⟨Bad.elem Ha.lst a.o.2.2.1 Z.o (by rw[a.o.2.2.2.2];exact ag) Q,_,rfl⟩⟩
   have I:ϡ (OL 33 1 Ur PRn f l u6 A w.heap.size):=(Bu Gy f l u6).keptR Ϥ a.o.1 E a.o.2.1;have ab:=d.1.size;have HP:ϡ (PRn ((q,ϲ x,z),O) x A w.heap.size):=⟨rfl,ai.mono ab⟩;have K:ϡ (RR A R u2/\Ah R w A/\(okL Dg) x):=⟨ac,d.trans E,hx⟩;have ae:w.heap.size<=A.heap.size:=B0 d.1.size E.1.size;have aa:=hy I.o.own;rw[a.o.2.2.2.2]at aa;clear ac E H d hx ab;go_wp2_with (at_builtin;refine Dw rfl (.tmp 16) (.tmp 19) 33 34 rfl (vS none 0 0) 1 24 underlying34 XX rfl Ϥ Ϥ w.heap.size u6 _ [vS q (ϲ x) z] A k aa.o rfl Ϭ ϣ ae rfl rfl ?_;intro g am w4 aj U);have hs:=OL.snoc Gy Ϥ (y:=((q,ϲ x,z),O)) (x:=x) I.o HP.o U (by rw[a.o.2.2.2.2];exact aj);have ah:u6.ownBlock≠some R:=λe=>tyAt_apart K.o.1.tb (Az I.o.own e) Ϥ rfl;have ak:=K.o.1.grown U ah;have af:=Cy K.o.2.1 U (λg e=>(AL I.o.own e).1);go_wp2;go_roundw;exact⟨k+1,l++[x],f++[((q,ϲ x,z),O)],u2,by simp[a.o.2.2.2.2],ϣ,by go_num,hs,FK a.o.2.2.1 K.o.2.2,DC _ _ _ _,ak,af⟩;simp[intOf];omega
  ·have p:k=m:=ϣ;subst p;have i2:¬((k:Int)<(k:Int)):=ϣ;obtain⟨q,z,hv⟩:=G.form;rw[F]at hv;have a:ϡ (OL 33 1 Ur PRn f l u6 wr w.heap.size/\(∀x∈l,(okL Dg) x)/\RR wr R u/\Ah R w wr/\(ϲ l)=k):=⟨G,L,H,d,F⟩;clear G H d L F;subst hv;go_wp2;go_ret;exact⟨a.o.2.2.2.1,.inl ⟨l,u,_,⟨by rw[a.o.2.2.2.2];exact Z.o,a.o.2.1⟩,by unfold lst;rw[a.o.2.2.2.2,Bx],rfl,⟨q,z,f,by rw[a.o.2.2.2.2];rfl,a.o.1⟩,a.o.2.2.1⟩⟩
end cd
