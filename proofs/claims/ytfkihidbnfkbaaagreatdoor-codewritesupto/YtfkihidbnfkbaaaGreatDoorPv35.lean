import Derived.Test.YtfkihidbnfkbaaaGreatDoorPv34
set_option linter.all false
set_option maxHeartbeats 4000000
set_option maxRecDepth 100000
open Go.ChangeShapes Go.WideShapes Go.ChangeAt Go.RowKit List
open Inhabited renaming default->ϰ
namespace Go.Proofs.YtfkihidbnfkbaaaGreatDoor
open Go.Proofs.Tryz
namespace cd
open vl bf
variable {w w' : Ϡ} {C D : Nat} {b : Buf}
def F1(C:Nat):Value:=.func (.func 178) #[] #[ω C]
def FP(w:World)(D C:Nat):Prop:=CW w D 240 0 (F1 C)
theorem FP.keep(h:FP w D C)(a:keepW w w'):FP w' D C:=CW.keep h a ϥ ϥ
theorem FP.below(h:FP w D C)(a:ϣ w w'):FP w' D C:=CW.below h a
theorem Ac3(c:Ϡ)(C D B:Nat)(d:List UInt8)(a:ϡ)(cap:Nat)(f:List EM)(l:List Ent)(w:Ϡ)(q:ϣ c w)(h:WR w c.heap.size B d)(g:WP w C B)(j:FP w D C)(ha:BR c a f)(i:ERs c f l)(p:∀x∈l,okW x)(m:l.length<=10000)(k:d.length+4000 * l.length<=8900000000000):
 χ 182 #[vS a l.length cap,ω C,ω D] w (WO c.heap.size B w (d++A5 l)):=by
 have e:Ϣ (CT 180 #[ω B,vS a l.length cap,F1 C] w (WO c.heap.size B w (d++A5 l))):=SS c C B d a cap f l w q h g ha i p m k;have y:=g.2;have s:=j.2;unfold F1 at e s;obtain⟨n,o⟩:=nM l.length;rw[o]at e⊢;clear ha i p h g j o m k;go_enter func182,ntmps182;go_wp2_with fail;refine e.o.mono ?_;rintro v z ⟨rfl,u,r,t⟩;go_wp2
 go_end0
 exact⟨rfl,u,r,t⟩
def Db(l:List (List Ent)):List UInt8:=As l.length++l.flatMap A5
theorem MV{l:List Ent}(h:∀x∈l,okW x):(A5 l).length<=8+4000 * l.length:=by
 have:=I5 h;unfold A5;rw[lAp,Am];omega
theorem Ka{l:List (List Ent)}(h:∀r∈l,∀x∈r,okW x):(l.flatMap A5).length<=8 * l.length+4000 * l.flatten.length:=by
 induction l with
 |nil=>simp
 |cons x l ih=>
  have a:=MV (h x (mem_cons_self ..));have c:=ih (λy hy=>h y (mem_cons_of_mem _ hy));rw[flatMap_cons,lAp,length_cons,flatten_cons,lAp];omega
theorem Fj{α:Type}(l:List (List α))(k:Nat):(l.take k).flatten.length<=l.flatten.length:=by
 have:=congrArg (λz=>z.flatten.length) (take_append_drop k l)
 try dsimp only at this
 rw[flatten_append,lAp]at this;omega
theorem Es{α:Type}{l:List (List α)}{r:List α}(h:r∈l):r.length<=l.flatten.length:=by
 induction l with
 |nil=>cases h
 |cons x l ih=>
  rw[flatten_cons,lAp];rcases mem_cons.1 h with rfl|h
  ·omega
  ·have:=ih h;omega
theorem ZH(c:Ϡ)(C D B:Nat)(j:List UInt8)(a:ϡ)(cap:Nat)(rs:List Part)(l:List (List Ent))(w:Ϡ)(L:ϣ c w)(h:WR w c.heap.size B j)(hc:WP w C B)(hd:FP w D C)(ha:FH c a (rs.map (·.1)))(ag:∀p∈rs,p.1.2.1=p.2.length)(ae:∀p∈rs,BR c p.1.1 p.2)(ai:rs.length=l.length)(s:∀i,i<l.length->ERs c (rs.getD i ϰ).2 (l.getD i ϰ))(z:∀r∈l,∀x∈r,okW x)(hn:l.length<=10000)(hf:l.flatten.length<=10000)(hl:j.length<=4000000000000):
 χ 181 #[ω B,vS a l.length cap,.func (.func 182) #[] #[ω C,ω D]] w (WO c.heap.size B w (j++Db l)):=by
 have Z:=hIz (λn=>Cg c.heap.size B j n w L.size h Ϥ);have P:∀i,i<l.length->l.getD i ϰ∈l:=λi N=>by rw[gDe,gEe N];exact getElem_mem N
 have Q:∀i,i<l.length->rs.getD i ϰ∈rs:=λi N=>by rw[gDe,gEe Ϥ];exact getElem_mem _
 have S:=hV0 ha;have HT:Ϣ (∀k,((l.take k).flatMap A5).length<=40100000):=λk=>by
  have:=Ka (l:=l.take k) (λr R=>z r (mem_of_mem_take R));have h2:(l.take k).length<=l.length:=List.length_take_le' ..;have J:=Fj l k;omega
 have F:Ϣ (∀k,k<l.length->(l.take (k+1)).flatMap A5=(l.take k).flatMap A5++A5 (l.getD k ϰ)):=λk f=>Cz A5 l k f;have T:Ϣ (j++As l.length++(l.take l.length).flatMap A5=j++Db l):=by
  show _=_;unfold Db;rw[take_length,append_assoc]
 have H:Ϣ (∀k,k<l.length->(rs.map (·.1)).getD k (none,0,0)=((rs.getD k ϰ).1.1,(l.getD k ϰ).length,(rs.getD k ϰ).1.2.2)):=λk f=>by
  have e1:(rs.map (·.1)).getD k (none,0,0)=(rs.getD k ϰ).1:=by
   rw[gDe,getElem?_map,gDe,gEe Ϥ];rfl
  rw[e1,<-(s k f).1,<-ag _ (Q k f)]
 have I:Ϣ (∀k,k<l.length->∀d g,ϣ c d->WR d c.heap.size B g->WP d C B->FP d D C->g.length<=8900000000000 - 4000 * 10000+4000000000000->g.length+4000 * (l.getD k ϰ).length<=8900000000000->CT 182 #[vS (rs.getD k ϰ).1.1 (l.getD k ϰ).length (rs.getD k ϰ).1.2.2,ω C,ω D] d (WO c.heap.size B d (g++A5 (l.getD k ϰ)))):=λk f d g y h1 am an av aq=>by
  have M:=Es (P k f);exact Ac3 c C D B g _ _ (rs.getD k ϰ).2 _ d y h1 am an (ae _ (Q k f)) (s k f) (z _ (P k f)) Ϥ aq
 have G:Ϣ (∀k,k<l.length->(l.getD k ϰ).length+((l.take k).flatten.length)<=10000):=λk f=>by
  have J:=Fj l (k+1);rw[take_succ_eq_append_getElem f,flatten_append,lAp]at J;have e:l.getD k ϰ=l[k]:=by rw[gDe,gEe f];rfl
  rw[e];simp at J⊢;simp at hf;omega
 have X:Ϣ (∀k,((l.take k).flatMap A5).length<=80000+4000 * (l.take k).flatten.length):=λk=>by
  have:=Ka (l:=l.take k) (λr R=>z r (mem_of_mem_take R));have h2:(l.take k).length<=l.length:=List.length_take_le' ..;omega
 obtain⟨n,v⟩:=nM l.length;have HN:=hV0 v;rw[v]at F I hn H G⊢;rw[v]at T;have V:Ϣ (WP w C B/\FP w D C):=⟨hc,hd⟩;have U:=hV0 L;have ak:Ϣ (rs.length=n):=ai.trans v;clear ha s z v h hc L hd ag ae ai P Q hf HT;go_enter func181,ntmps181;go_wp2_with fail;refine(Z.o _).mono ?_;rintro e d ⟨rfl,aj,y,af⟩;have Y:Ϣ (WR d c.heap.size B (j++As n)/\Below c.heap.size w d/\keepW w d):=⟨aj,y,af⟩;clear aj y af Z;go_wp2_with fail
 go_loopw [14] (λi wr=> ∃k:Nat,k<=n/\i=vI k/\WR wr c.heap.size B (j++As n++(l.take k).flatMap A5)/\Below c.heap.size w wr/\keepW w wr) (λi _=>n - (intOf i).toNat)
 case atStart=>exact⟨0,Nat.zero_le _,rfl,by simpa using Y.o.1,Y.o.2⟩
 case round=>
  obtain⟨k,f,rfl,A,t,O⟩:=hrel;by_cases u:k<n
  ·obtain⟨b,ax,e,o⟩:=S.o k (by rw[lMp,ak.o];exact u);subst e;rw[H.o k u]at o;unfold hdV at o;dsimp only at o;have ab:=U.o.trans t;replace o:=cLz ab o;have ar:=X.o k;have ah:=G.o k u;have K:=I.o k u;have W:Ϣ ((l.take (k+1)).flatMap A5=(l.take k).flatMap A5++A5 (l.getD k ϰ)):=F.o k u;obtain⟨E,s⟩:=nM (A5 (l.getD k ϰ));rw[s]at K W;obtain⟨m,hm⟩:=nM ((l.getD k ϰ).length);rw[hm]at K o ah;obtain⟨ad,aa⟩:=nM ((rs.getD k ϰ).1.1);obtain⟨cp,ac⟩:=nM ((rs.getD k ϰ).1.2.2);rw[aa,ac]at K o;obtain⟨fl,M⟩:=nM ((l.take k).flatten.length);rw[M]at ar ah;have KH:Ϣ (∀d g,ϣ c d->WR d c.heap.size B g->WP d C B->FP d D C->g.length<=8900000000000 - 4000 * 10000+4000000000000->g.length+4000 * m<=8900000000000->CT 182 #[vS ad m cp,ω C,ω D] d (WO c.heap.size B d (g++E))):=K;have q:Ϣ (WR wr c.heap.size B (j++As n++(l.take k).flatMap A5)/\Below c.heap.size w wr/\keepW w wr):=⟨A,t,O⟩;have aw:=t.size;have i1:=nn0 k;have i2:(k:Int)<(n:Int):=Ϥ;clear K s hm aa ac M A t O ab I S F H G X;go_wp2_with fail;refine(KH.o _ _ (U.o.trans q.o.2.1) q.o.1 (V.o.1.keep q.o.2.2) (V.o.2.keep q.o.2.2) (by simp only[lAp,Am];omega) (by simp only[lAp,Am];omega)).mono ?_;rintro e w2 ⟨rfl,au,al,ao⟩;go_wp2;go_roundw;exact⟨k+1,Ϥ,by go_num,by rw[W.o,<-append_assoc];exact au,q.o.2.1.trans al,q.o.2.2.trans ao⟩;simp[intOf];omega
  ·have ap:k=n:=Ϥ;subst ap;have i2:¬((k:Int)<(k:Int)):=Ϥ;rw[T.o]at A;go_wp2
   go_end0
   exact⟨rfl,A,t,O⟩
def Bo(b:Buf):List UInt8:=A5 b.mem++Db b.runs
structure okBW(b:Buf):Prop where
 ents:∀x∈Ab b,okW x
 few:(Ab b).length<=10000
 runs:b.runs.length<=10000
theorem okBW.mem(h:okBW b):(∀x∈b.mem,okW x)/\b.mem.length<=10000:=by
 have e:Ab b=b.mem++b.runs.flatten:=rfl;have:=h.few;rw[e,lAp]at this;exact⟨λx a=>h.ents x (by rw[e];exact mem_append.2 (.inl a)),Ϥ⟩
theorem okBW.run(h:okBW b):(∀r∈b.runs,∀x∈r,okW x)/\b.runs.flatten.length<=10000:=by
 have e:Ab b=b.mem++b.runs.flatten:=rfl;have:=h.few;rw[e,lAp]at this;exact⟨λr a x c=>h.ents x (by rw[e];exact mem_append.2 (.inr (mem_flatten.2 ⟨r,a,c⟩))),Ϥ⟩
theorem MW(h:okBW b):(Db b.runs).length<=8+8 * b.runs.length+4000 * b.runs.flatten.length:=by
 have:=Ka h.run.1;unfold Db;rw[lAp,Am];omega
theorem L3(h:okBW b):(Bo b).length<=41000000:=by
 have c:=MW h;have d:=MV h.mem.1;have a:=h.few;have f:=h.runs;have e:Ab b=b.mem++b.runs.flatten:=rfl;rw[e,lAp]at a;unfold Bo;rw[lAp];omega
theorem run_store_func{P:Program}{a:Addr}{m:Mode}(f:Fn)(x y:Array Value):(store a (.func f x y) m).run P w=stored P w a (.func f x y) m:=run_store P w a _ m rfl
attribute [local go_sem] run_store_func
theorem Ww(c:Ϡ)(B:Nat)(d:List UInt8)(b:Buf)(x:BX)(w:Ϡ)(y:ϣ c w)(h:WR w c.heap.size B d)(ha:bufAt c b x)(g:okBW b)(A:d.length+(A5 b.mem).length<=4000000000000):
 χ 107 #[ω B,.agg (Ω b x)] w (WO c.heap.size B w (d++Bo b)):=by
 have E:x.m.1.2.1=b.mem.length:=((ha.len _ (mem_cons_self ..)).1).trans ha.mem.1;have s:Ϣ (∀C a,ϣ c a->WR a c.heap.size B d->WP a C B->CT 180 #[ω B,vS x.m.1.1 x.m.1.2.1 x.m.1.2.2,F1 C] a (WO c.heap.size B a (d++A5 b.mem))):=λC a i n q=>by
  rw[E];exact SS c C B d _ _ x.m.2 b.mem a i n q (ha.ems _ (mem_cons_self ..)) ha.mem g.mem.1 g.mem.2 (by
   have:=g.mem.2;have S:d.length<=4000000000000:=Ϥ;omega)
 have t:Ϣ (∀C D a,ϣ c a->WR a c.heap.size B (d++A5 b.mem)->WP a C B->FP a D C->CT 181 #[ω B,vS x.ra x.rs.length x.rc,.func (.func 182) #[] #[ω C,ω D]] a (WO c.heap.size B a (d++A5 b.mem++Db b.runs))):=λC D a i n q O=>by
  rw[ha.rlen];exact ZH c C D B _ x.ra x.rc x.rs b.runs a i n q O ha.hds (λp r=>(ha.len p (mem_cons_of_mem _ r)).1) (λp r=>ha.ems p (mem_cons_of_mem _ r)) ha.rlen ha.runs g.run.1 g.runs g.run.2 (by rw[lAp];exact A)
 have H:Ϣ (d++A5 b.mem++Db b.runs=d++Bo b):=by
  show _=_;unfold Bo;rw[append_assoc]
 obtain⟨k,F⟩:=nM x.rs.length;rw[F]at t⊢;clear ha g F A E;unfold F1 at s;go_enter func107,ntmps107;go_wp2_with fail;generalize o:(World.alloc (World.alloc (World.alloc w _) _) _)=V;have l:ϣ w V:=by rw[<-o];exact(ϯ.alloc Ϧ _).alloc ϫ _
 have f:Ϣ (WP V w.heap.size B/\FP V (w.heap.size+1+1) w.heap.size/\CW V (w.heap.size+1) 36 1 (vS x.m.1.1 x.m.1.2.1 x.m.1.2.2)/\CW V (w.heap.size+1) 36 2 (vS x.ra k x.rc)):=by
  subst o;have I:Ah (ϊ w #[ω B] 66) w.heap.size 66:=⟨_,_,World.alloc_heap_new _ _⟩;have u:Ah (ϊ (ϊ w #[ω B] 66) #[vI b.lim,vS x.m.1.1 x.m.1.2.1 x.m.1.2.2,vS x.ra k x.rc] 36) (w.heap.size+1) 36:=by
   have:=World.alloc_heap_new (ϊ w #[ω B] 66) (.cells #[vI b.lim,vS x.m.1.1 x.m.1.2.1 x.m.1.2.2,vS x.ra k x.rc] 36);rw[World.size_alloc]at this;exact⟨_,_,this⟩
  have J:Ah (ϊ (ϊ (ϊ w #[ω B] 66) #[vI b.lim,vS x.m.1.1 x.m.1.2.1 x.m.1.2.2,vS x.ra k x.rc] 36) #[F1 w.heap.size] 240) (w.heap.size+1+1) 240:=by
   have:=World.alloc_heap_new (ϊ (ϊ w #[ω B] 66) #[vI b.lim,vS x.m.1.1 x.m.1.2.1 x.m.1.2.2,vS x.ra k x.rc] 36) (.cells #[F1 w.heap.size] 240);rw[World.size_alloc,World.size_alloc]at this;exact⟨_,_,this⟩
  exact⟨⟨Ak (Ak I ϯ) ϯ,Ϩ⟩,⟨J,by unfold F1;go_simp⟩,⟨Ak u ϯ,Ϩ⟩,⟨Ak u ϯ,Ϩ⟩⟩
 have m:Ϣ (keepW w V/\Below c.heap.size w V):=⟨keepW.of l,l.mono y.size⟩;have z:ϣ c V:=y.trans m.o.2;have Q:WR V c.heap.size B d:=h.below l;clear o l h;have K:=f.o.1.2;have L:=f.o.2.2.1.2;have v:=f.o.2.1.2;unfold F1 at v;refine(s.o w.heap.size V z Q f.o.1).mono ?_;rintro e a ⟨rfl,R,i,j⟩;replace K:=(f.o.1.keep j).2;replace L:=(f.o.2.2.2.keep j ϥ ϥ).2;clear v;have M:=z.trans i;go_wp2_with fail;refine(t.o w.heap.size (w.heap.size+1+1) a M R (f.o.1.keep j) (f.o.2.1.keep j)).mono ?_;rintro e T ⟨rfl,G,N,P⟩;rw[H.o]at G;go_wp2
 go_end0
 exact⟨rfl,G,m.o.2.trans (i.trans N),m.o.1.trans (j.trans P)⟩
end cd
namespace cd
open vl bf jn
def F6(s:Jn):List UInt8:=Bo s.L++Bo s.R++As s.lm++As s.rm++As s.seq
theorem Hp{w w':Ϡ}{b:Nat}{s:Jn}{y:JX}(h:BZ w b s y/\Ah w b 38)(a:keepW w w'):BZ w' b s y/\Ah w' b 38:=
 ⟨YN h.1 (a.2 b _ h.2 ϥ ϥ),Aq h.2 (a.2 b _ h.2 ϥ ϥ)⟩
theorem ZI(a:Ϡ)(B:Nat)(g:List UInt8)(s:Jn)(y:JX)(w:Ϡ)(j:ϣ a w)(h:WR w a.heap.size B g)(ha:joinAt a s y)(O:okBW s.L)(P:okBW s.R)(F:g.length+(F6 s).length<=3900000000000):
 χ 53 #[ω B,joinV s y] w (WO a.heap.size B w (g++F6 s)):=by
 have m:Ϣ (g.length+(Bo s.L).length+(Bo s.R).length+24<=3900000000000):=by
  show _<=_;unfold F6 at F;simp only[lAp,Am]at F;omega
 have H:=hIz (λ(c:Ϡ) (i:ϣ a c) (t:WR c a.heap.size B g)=>Ww a B g s.L y.l c i t ha.l O (by have:=m.o;unfold Bo at this;simp only[lAp]at this;omega));have I:Ϣ (∀c,ϣ a c->WR c a.heap.size B (g++Bo s.L)->CT 107 #[ω B,.agg (Ω s.R y.r)] c (WO a.heap.size B c (g++Bo s.L++Bo s.R))):=λc i t=>Ww a B _ s.R y.r c i t ha.r P (by have:=m.o;rw[lAp];unfold Bo at this⊢;simp only[lAp]at this⊢;omega);have q:=hIz (λ(c:Ϡ) r n (Y:WR c a.heap.size B r) (ab:r.length<=3900000000000) (i:a.heap.size<=c.heap.size)=>Cg a.heap.size B r n c i Y Ϥ);have G:Ϣ (g++Bo s.L++Bo s.R++As s.lm++As s.rm++As s.seq=g++F6 s):=by
  show _=_;unfold F6;simp only[append_assoc]
 rw[<-G.o];obtain⟨L,o⟩:=nM (Bo s.L);obtain⟨R,u⟩:=nM (Bo s.R);rw[o,u]at m;rw[o]at H;rw[o,u]at I⊢;clear ha O P F G o u;rw[AY];go_enter func53,ntmps53;go_wp2_with fail;generalize v:(World.alloc w _)=V;have p:ϣ w V:=by rw[<-v];exact ϯ
 have f:Ϣ (BZ V w s y/\Ah V w 38):=by
  subst v;exact⟨C7 ..,_,_,World.alloc_heap_new _ _⟩
 have d:Ϣ (keepW w V/\Below a.heap.size w V):=⟨keepW.of p,p.mono j.size⟩;have J:ϣ a V:=j.trans d.o.2;have Q:WR V a.heap.size B g:=h.below p;have ac:=m.o;clear v p h;obtain⟨u0,u1,u2,u3,u4,u5,u6,u7,u8⟩:=f.o.1;refine(H.o V J Q).mono ?_;rintro e c ⟨rfl,S,i,x⟩;replace f:Ϣ (BZ c w s y/\Ah c w 38):=Hp f.o x;replace d:Ϣ (keepW w c/\Below a.heap.size w c):=⟨d.o.1.trans x,d.o.2.trans i⟩;clear u0 u1 u2 u3 u4 u5 u6 u7 u8 Q J x i;obtain⟨u0,u1,u2,u3,u4,u5,u6,u7,u8⟩:=f.o.1;go_wp2_with fail;refine(I.o c (j.trans d.o.2) S).mono ?_;rintro e k ⟨rfl,T,K,z⟩;replace f:Ϣ (BZ k w s y/\Ah k w 38):=Hp f.o z;replace d:Ϣ (keepW w k/\Below a.heap.size w k):=⟨d.o.1.trans z,d.o.2.trans K⟩;clear u0 u1 u2 u3 u4 u5 u6 u7 u8 S z K;obtain⟨u0,u1,u2,u3,u4,u5,u6,u7,u8⟩:=f.o.1;go_wp2_with fail;refine(q.o k _ _ T (by simp only[lAp,Am];omega) (j.trans d.o.2).size).mono ?_;rintro e l ⟨rfl,U,M,A⟩;replace f:Ϣ (BZ l w s y/\Ah l w 38):=Hp f.o A;replace d:Ϣ (keepW w l/\Below a.heap.size w l):=⟨d.o.1.trans A,d.o.2.trans M⟩;clear u0 u1 u2 u3 u4 u5 u6 u7 u8 T A M;obtain⟨u0,u1,u2,u3,u4,u5,u6,u7,u8⟩:=f.o.1;go_wp2_with fail;refine(q.o l _ _ U (by simp only[lAp,Am];omega) (j.trans d.o.2).size).mono ?_;rintro e w4 ⟨rfl,Z,N,E⟩;replace f:Ϣ (BZ w4 w s y/\Ah w4 w 38):=Hp f.o E;replace d:Ϣ (keepW w w4/\Below a.heap.size w w4):=⟨d.o.1.trans E,d.o.2.trans N⟩;clear u0 u1 u2 u3 u4 u5 u6 u7 u8 U E N;obtain⟨u0,u1,u2,u3,u4,u5,u6,u7,u8⟩:=f.o.1;go_wp2_with fail;refine(q.o w4 _ _ Z (by simp only[lAp,Am];omega) (j.trans d.o.2).size).mono ?_;rintro e w5 ⟨rfl,aa,W,X⟩;go_wp2
 go_end0
 exact⟨rfl,aa,d.o.2.trans W,d.o.1.trans X⟩
end cd
end Go.Proofs.YtfkihidbnfkbaaaGreatDoor
