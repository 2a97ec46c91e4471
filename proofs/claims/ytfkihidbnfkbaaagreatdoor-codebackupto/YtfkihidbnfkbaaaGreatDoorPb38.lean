import Derived.Test.YtfkihidbnfkbaaaGreatDoorPb35
import Derived.Test.YtfkihidbnfkbaaaGreatDoorPb36
set_option linter.all false
set_option maxHeartbeats 4000000
set_option maxRecDepth 100000
open Go.ChangeShapes Go.WideShapes Go.ChangeAt Go.RowKit List
namespace Go.Proofs.YtfkihidbnfkbaaaGreatDoor
open Go.Proofs.Tryz
namespace cd
open vl bf
variable {b : Buf}
def Cp(b:Buf):List UInt8:=Bw b.mem++Hw b.runs
structure okBW(b:Buf):Prop where
 ents:∀x∈Ac b,okW x
 few:(Ac b).length<=10000
 runs:b.runs.length<=10000
theorem okBW.mem(h:okBW b):(∀x∈b.mem,okW x)/\b.mem.length<=10000:=by
 have e:Ac b=b.mem++b.runs.flatten:=rfl;have:=h.few;rw[e,lAp]at this;exact⟨λx a=>h.ents x (by rw[e];exact mem_append.2 (.inl a)),ϝ⟩
theorem okBW.run(h:okBW b):(∀r∈b.runs,∀x∈r,okW x)/\b.runs.flatten.length<=10000:=by
 have e:Ac b=b.mem++b.runs.flatten:=rfl;have:=h.few;rw[e,lAp]at this;exact⟨λr a x c=>h.ents x (by rw[e];exact mem_append.2 (.inr (mem_flatten.2 ⟨r,a,c⟩))),ϝ⟩
theorem Mu(h:okBW b):(Hw b.runs).length<=8+8 * b.runs.length+4000 * b.runs.flatten.length:=by
 have:=Nc h.run.1;unfold Hw;rw[lAp,Am];omega
theorem Ou(h:okBW b):(Cp b).length<=41000000:=by
 have c:=Mu h;have d:=Nb h.mem.1;have a:=h.few;have f:=h.runs;have e:Ac b=b.mem++b.runs.flatten:=rfl;rw[e,lAp]at a;unfold Cp;rw[lAp];omega
theorem run_store_func{P:Program}{w:ϙ}{a:Addr}{m:Mode}(f:Fn)(x y:Array Value):(store a (.func f x y) m).run P w=stored P w a (.func f x y) m:=run_store P w a _ m rfl
attribute [local go_sem] run_store_func
theorem UD(c:ϙ)(B:Nat)(d:List UInt8)(b:Buf)(x:BX)(w:ϙ)(z:Ϝ c w)(h:WR w c.heap.size B d)(ha:bufAt c b x)(g:okBW b)(E:d.length+(Bw b.mem).length<=4000000000000):
 η 107 #[μ B,.agg (Ω b x)] w (WO c.heap.size B w (d++Cp b)):=by
 have F:x.m.1.2.1=b.mem.length:=((ha.len _ (mem_cons_self ..)).1).trans ha.mem.1;have s:ϛ (∀C a,Ϝ c a->WR a c.heap.size B d->WP a C B->CT 180 #[μ B,vS x.m.1.1 x.m.1.2.1 x.m.1.2.2,F1 C] a (WO c.heap.size B a (d++Bw b.mem))):=λC a i n q=>by
  rw[F];exact RF c C B d _ _ x.m.2 b.mem a i n q (ha.ems _ (mem_cons_self ..)) ha.mem g.mem.1 g.mem.2 (by
   have:=g.mem.2;have U:d.length<=4000000000000:=ϝ;omega)
 have t:ϛ (∀C D a,Ϝ c a->WR a c.heap.size B (d++Bw b.mem)->WP a C B->FP a D C->CT 181 #[μ B,vS x.ra x.rs.length x.rc,.func (.func 182) #[] #[μ C,μ D]] a (WO c.heap.size B a (d++Bw b.mem++Hw b.runs))):=λC D a i n q P=>by
  rw[ha.rlen];exact ZI c C D B _ x.ra x.rc x.rs b.runs a i n q P ha.hds (λp r=>(ha.len p (mem_cons_of_mem _ r)).1) (λp r=>ha.ems p (mem_cons_of_mem _ r)) ha.rlen ha.runs g.run.1 g.runs g.run.2 (by rw[lAp];exact E)
 have I:ϛ (d++Bw b.mem++Hw b.runs=d++Cp b):=by
  show _=_;unfold Cp;rw[append_assoc]
 obtain⟨k,G⟩:=nM x.rs.length;rw[G]at t⊢;clear ha g G E F;unfold F1 at s;go_enter func107,ntmps107;go_wp2_with fail;generalize o:(World.alloc (World.alloc (World.alloc w _) _) _)=V;have l:Ϝ w V:=by rw[<-o];exact(Ϩ.alloc ϟ _).alloc Ϥ _
 have f:ϛ (WP V w.heap.size B/\FP V (w.heap.size+1+1) w.heap.size/\CW V (w.heap.size+1) 36 1 (vS x.m.1.1 x.m.1.2.1 x.m.1.2.2)/\CW V (w.heap.size+1) 36 2 (vS x.ra k x.rc)):=by
  subst o;have J:Ai (ξ w #[μ B] 66) w.heap.size 66:=⟨_,_,World.alloc_heap_new _ _⟩;have u:Ai (ξ (ξ w #[μ B] 66) #[vI b.lim,vS x.m.1.1 x.m.1.2.1 x.m.1.2.2,vS x.ra k x.rc] 36) (w.heap.size+1) 36:=by
   have:=World.alloc_heap_new (ξ w #[μ B] 66) (.cells #[vI b.lim,vS x.m.1.1 x.m.1.2.1 x.m.1.2.2,vS x.ra k x.rc] 36);rw[World.size_alloc]at this;exact⟨_,_,this⟩
  have K:Ai (ξ (ξ (ξ w #[μ B] 66) #[vI b.lim,vS x.m.1.1 x.m.1.2.1 x.m.1.2.2,vS x.ra k x.rc] 36) #[F1 w.heap.size] 240) (w.heap.size+1+1) 240:=by
   have:=World.alloc_heap_new (ξ (ξ w #[μ B] 66) #[vI b.lim,vS x.m.1.1 x.m.1.2.1 x.m.1.2.2,vS x.ra k x.rc] 36) (.cells #[F1 w.heap.size] 240);rw[World.size_alloc,World.size_alloc]at this;exact⟨_,_,this⟩
  exact⟨⟨Ad (Ad J Ϩ) Ϩ,ϡ⟩,⟨K,by unfold F1;go_simp⟩,⟨Ad u Ϩ,ϡ⟩,⟨Ad u Ϩ,ϡ⟩⟩
 have m:ϛ (keepW w V/\Below c.heap.size w V):=⟨keepW.of l,l.mono z.size⟩;have A:Ϝ c V:=z.trans m.o.2;have S:WR V c.heap.size B d:=h.below l;clear o l h;have L:=f.o.1.2;have M:=f.o.2.2.1.2;have y:=f.o.2.1.2;unfold F1 at y;refine(s.o w.heap.size V A S f.o.1).mono ?_;rintro e a ⟨rfl,T,i,j⟩;replace L:=(f.o.1.keep j).2;replace M:=(f.o.2.2.2.keep j Ϟ Ϟ).2;clear y;have N:=A.trans i;go_wp2_with fail;refine(t.o w.heap.size (w.heap.size+1+1) a N T (f.o.1.keep j) (f.o.2.1.keep j)).mono ?_;rintro e W ⟨rfl,H,O,Q⟩;rw[I.o]at H;go_wp2
 go_end0
 exact⟨rfl,H,m.o.2.trans (i.trans O),m.o.1.trans (j.trans Q)⟩
end cd
namespace cd
open vl bf
attribute [local go_sem] run_store_func
variable {w : ϙ} {R base base' : Nat} {x : BX} {b : Buf} {v : Value}
structure BO(w:World)(base:Nat)(x:BX)(b:Buf):Prop where
 mem:OE w base (hdV x.m.1) x.m.2 b.mem
 runs:RS w base (vS x.ra x.rs.length x.rc) x.rs b.runs
theorem BO.at(h:BO w base x b):bufAt w b x:=by
 have c:∀p∈x.m::x.rs,∃l,OE w base (hdV p.1) p.2 l:=λp c=>by
  rcases mem_cons.1 c with rfl|c
  ·exact⟨_,h.mem⟩
  ·obtain⟨i,a,rfl⟩:=getElem_of_mem c;have:=(h.runs.runs i (by rw[<-h.runs.len];exact a)).2;rw[gDe,gEe a]at this;exact⟨_,this⟩
 refine⟨λi a=>?_,λp e=>?_,λp e=>?_,?_,h.mem.ers,h.runs.len,λi a=>((h.runs.runs i a).2).ers⟩
 ·rw[lMp]at a;rcases h.runs.own.2 with⟨_,o⟩|⟨g,m,n,k,_⟩
  ·omega
  ·injection k with f _ _
   refine⟨g,0,f,?_⟩;have j:=World.ownsRow.cells h.runs.own (g:=g) (by rw[f];rfl) i (hdV (x.rs[i]).1) (by rw[getElem?_map,gEe a];rfl);rw[C3]at j;rw[gDe,getElem?_map,gEe a];exact j
 ·obtain⟨l,d⟩:=c p e;exact(C9 d).1
 ·obtain⟨l,d⟩:=c p e;exact(C9 d).2
 ·have:=Le h.runs.own;unfold maxLen at this;omega
theorem RS.mono{d:List Part}{l:List (List Ent)}(h:RS w base v d l)(a:base'<=base):RS w base' v d l:=⟨World.ownsRow.mono h.own a,h.len,λi c=>⟨(h.runs i c).1,(h.runs i c).2.mono a⟩⟩
theorem BO.mono(h:BO w base x b)(a:base'<=base):BO w base' x b:=⟨h.mem.mono a,h.runs.mono a⟩
theorem BO.keptR{d:ϙ}(h:BO w base x b)(c:Al R w d)(a:Ai w R 124):BO d base x b:=⟨OE.keptR h.mem c a,h.runs.keptR c a⟩
theorem Adp:(Tryz.prog.info? 36).map (·.size)=some 3:=Ϡ
theorem Ov{W:ϙ}{N j:Nat}(h:Al R w W)(d:w.heap.size<=N):Al R w (φ W N j v):=
 ⟨h.1.setCell (Nat.zero_le _) _,λg c a=>(heap_setCell_other _ _ _ _ ϣ).trans (h.2 g c a)⟩
end cd
namespace cd
open vl bf jn
def FY(s:Jn):List UInt8:=Cp s.L++Cp s.R++AU s.lm++AU s.rm++AU s.seq
theorem Gy{w a:ϙ}{b:Nat}{s:Jn}{y:JX}(h:Cb w b s y/\Ai w b 38)(c:keepW w a):Cb a b s y/\Ai a b 38:=
 ⟨VW h.1 (c.2 b _ h.2 Ϟ Ϟ),A0 h.2 (c.2 b _ h.2 Ϟ Ϟ)⟩
theorem YJ(a:ϙ)(B:Nat)(g:List UInt8)(s:Jn)(y:JX)(w:ϙ)(j:Ϝ a w)(h:WR w a.heap.size B g)(ha:joinAt a s y)(O:okBW s.L)(P:okBW s.R)(F:g.length+(FY s).length<=3900000000000):
 η 53 #[μ B,joinV s y] w (WO a.heap.size B w (g++FY s)):=by
 have m:ϛ (g.length+(Cp s.L).length+(Cp s.R).length+24<=3900000000000):=by
  show _<=_;unfold FY at F;simp only[lAp,Am]at F;omega
 have H:=hIz (λ(c:ϙ) (i:Ϝ a c) (t:WR c a.heap.size B g)=>UD a B g s.L y.l c i t ha.l O (by have:=m.o;unfold Cp at this;simp only[lAp]at this;omega));have I:ϛ (∀c,Ϝ a c->WR c a.heap.size B (g++Cp s.L)->CT 107 #[μ B,.agg (Ω s.R y.r)] c (WO a.heap.size B c (g++Cp s.L++Cp s.R))):=λc i t=>UD a B _ s.R y.r c i t ha.r P (by have:=m.o;rw[lAp];unfold Cp at this⊢;simp only[lAp]at this⊢;omega);have q:=hIz (λ(c:ϙ) r n (Y:WR c a.heap.size B r) (ab:r.length<=3900000000000) (i:a.heap.size<=c.heap.size)=>BI a.heap.size B r n c i Y ϝ);have G:ϛ (g++Cp s.L++Cp s.R++AU s.lm++AU s.rm++AU s.seq=g++FY s):=by
  show _=_;unfold FY;simp only[append_assoc]
 rw[<-G.o];obtain⟨L,o⟩:=nM (Cp s.L);obtain⟨R,u⟩:=nM (Cp s.R);rw[o,u]at m;rw[o]at H;rw[o,u]at I⊢;clear ha O P F G o u;rw[AK];go_enter func53,ntmps53;go_wp2_with fail;generalize z:(World.alloc w _)=V;have p:Ϝ w V:=by rw[<-z];exact Ϩ
 have f:ϛ (Cb V w s y/\Ai V w 38):=by
  subst z;exact⟨Cs ..,_,_,World.alloc_heap_new _ _⟩
 have d:ϛ (keepW w V/\Below a.heap.size w V):=⟨keepW.of p,p.mono j.size⟩;have J:Ϝ a V:=j.trans d.o.2;have Q:WR V a.heap.size B g:=h.below p;have ac:=m.o;clear z p h;obtain⟨u0,u1,u2,u3,u4,u5,u6,u7,u8⟩:=f.o.1;refine(H.o V J Q).mono ?_;rintro e c ⟨rfl,S,i,A⟩;replace f:ϛ (Cb c w s y/\Ai c w 38):=Gy f.o A;replace d:ϛ (keepW w c/\Below a.heap.size w c):=⟨d.o.1.trans A,d.o.2.trans i⟩;clear u0 u1 u2 u3 u4 u5 u6 u7 u8 Q J A i;obtain⟨u0,u1,u2,u3,u4,u5,u6,u7,u8⟩:=f.o.1;go_wp2_with fail;refine(I.o c (j.trans d.o.2) S).mono ?_;rintro e k ⟨rfl,T,K,C⟩;replace f:ϛ (Cb k w s y/\Ai k w 38):=Gy f.o C;replace d:ϛ (keepW w k/\Below a.heap.size w k):=⟨d.o.1.trans C,d.o.2.trans K⟩;clear u0 u1 u2 u3 u4 u5 u6 u7 u8 S C K;obtain⟨u0,u1,u2,u3,u4,u5,u6,u7,u8⟩:=f.o.1;go_wp2_with fail;refine(q.o k _ _ T (by simp only[lAp,Am];omega) (j.trans d.o.2).size).mono ?_;rintro e l ⟨rfl,U,M,D⟩;replace f:ϛ (Cb l w s y/\Ai l w 38):=Gy f.o D;replace d:ϛ (keepW w l/\Below a.heap.size w l):=⟨d.o.1.trans D,d.o.2.trans M⟩;clear u0 u1 u2 u3 u4 u5 u6 u7 u8 T D M;obtain⟨u0,u1,u2,u3,u4,u5,u6,u7,u8⟩:=f.o.1;go_wp2_with fail;refine(q.o l _ _ U (by simp only[lAp,Am];omega) (j.trans d.o.2).size).mono ?_;rintro e w4 ⟨rfl,Z,N,E⟩;replace f:ϛ (Cb w4 w s y/\Ai w4 w 38):=Gy f.o E;replace d:ϛ (keepW w w4/\Below a.heap.size w w4):=⟨d.o.1.trans E,d.o.2.trans N⟩;clear u0 u1 u2 u3 u4 u5 u6 u7 u8 U E N;obtain⟨u0,u1,u2,u3,u4,u5,u6,u7,u8⟩:=f.o.1;go_wp2_with fail;refine(q.o w4 _ _ Z (by simp only[lAp,Am];omega) (j.trans d.o.2).size).mono ?_;rintro e w5 ⟨rfl,aa,W,X⟩;go_wp2
 go_end0
 exact⟨rfl,aa,d.o.2.trans W,d.o.1.trans X⟩
end cd
namespace cd
open vl bf
theorem VO.keptR{w e:ϙ}{R base:Nat}{v:Value}{out:List ch.Cnt}(h:ch.VO w base v out)(d:Al R w e)(c:Ai w R 124):ch.VO e base v out:=
 h.other (λg a=>by
  rcases a with a|a
  ·exact d.2 g (A2 a) (tyAt_apart a c Ϟ)
  ·exact d.2 g (A2 a) (tyAt_apart a c Ϟ))
end cd
namespace cd
open vl bf jn
variable {w : ϙ}
def Aeh(e:Eng):List UInt8:=FY e.j++AU 0++Hx e.v
theorem Wk(base B:Nat)(a:List UInt8)(w:ϙ)(h:WR w base B a):
 η 29 #[μ B] w λo d=>o= .returned (.string ⟨a.toArray⟩)/\d=w:=by
 obtain⟨v,e,c⟩:=h.cell;have f:=Kd c;clear h;go_enter func29,ntmps29;go_wp2;go_ret;exact⟨rfl,rfl⟩
theorem SY(w:ϙ):WR (ξ w #[ψ] 64) w.heap.size w.heap.size []:=
 ⟨⟨vS none 0 0,ϡ,World.ownsRow_nil _ _ _ _⟩,ϡ,⟨_,_,World.alloc_heap_new _ _⟩,Nat.le_refl _⟩
theorem WR.mono{base base' B:Nat}{a:List UInt8}(h:WR w base B a)(c:base'<=base):WR w base' B a:=by
 obtain⟨v,d,e⟩:=h.cell;exact⟨⟨v,d,World.ownsRow.mono e c⟩,h.frz,h.tb,Nat.le_trans c h.low⟩
theorem SB.sets{N:Nat}:∀(l:List Value) (o:Nat) (w:ϙ) (a:List Value),SB w N a->o+l.length<=a.length->SB (w.setCells N o l) N (a.take o++l++a.drop (o+l.length))
 |[],o,w,a,h,_=>by
  show SB w N _;simpa using h
 |u::l,o,w,a,h,hl=>by
  simp only[length_cons]at hl;have c:=SB.sets l (o+1) (φ w N o u) (a.set o u) (h.set o u ϝ) (by rw[length_set];omega);have e:(a.set o u).take (o+1)++l++(a.set o u).drop (o+1+l.length)=a.take o++(u::l)++a.drop (o+(u::l).length):=by
   rw[List.drop_set_of_lt ϝ,take_succ_eq_append_getElem (by rw[length_set];omega),List.take_set_of_le nR,List.getElem_set_self,length_cons];simp[Nat.add_assoc,Nat.add_comm 1]
  rw[e]at c;exact c
theorem QI(p:Addr)(w:ϙ):
 CallsD Tryz.prog 74 #[.pointer (some p)] .returning w λe d f=>e= .returned (.tuple #[])/\d= .returning/\f=w:=by
 refine callsD_of_wpS func74 rfl λa g c=>?_;apply wpS_seq;apply wpS_region;simp[wpOpsS,go_sem,recoverD,c,ntmps74,Exit.thenS];refine wpS_cond (t:=false) (by simp[Act.eval,Array.replicate]) ?_;simp only[Bool.false_eq_true,if_false];refine wpS_of_wp (wp_skip ?_)
 cases a
 simp_all [bodyPostS,results,results74]
theorem Wl{d:ϙ}{b:Nat}{p:pl.Pln}{x:pl.PA}(h:Bh w b p x)(e:d.heap[b]? =w.heap[b]?):Bh d b p x:=by
 have c:∀{i:Nat} {v:Value},Δ w b i v->Δ d b i v:=λ{i v} f=>(cOb (w:=w) (a:=⟨b,i,none⟩) e).trans f;obtain⟨g,j,n,o,q,r,s,t,u,y,k,l,m⟩:=h;exact⟨c g,c j,c n,c o,c q,c r,c s,c t,c u,c y,c k,c l,c m⟩
end cd
end Go.Proofs.YtfkihidbnfkbaaaGreatDoor
