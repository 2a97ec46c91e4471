import Derived.Test.YtfkihidbnfkbaaaGreatDoorPv39
import Derived.Test.YtfkihidbnfkbaaaGreatDoorPv37
set_option linter.all false
set_option maxHeartbeats 4000000
set_option maxRecDepth 100000
open Go.ChangeShapes Go.WideShapes Go.ChangeAt Go.RowKit List
open Inhabited renaming default->ϰ
namespace Go.Proofs.YtfkihidbnfkbaaaGreatDoor
open Go.Proofs.Tryz
namespace cd
open vl bf jn
theorem XF(w:Ϙ):η 43 #[ψ,ψ] w λe w'=>e= .returned (.bool true)/\w'=w:=by
 go_enter func43,ntmps43;go_wp2
 go_loopw [5] (λi wr=>i=vI 0/\wr=w) (λi _=>0)
 case atStart=>exact⟨rfl,rfl⟩
 case round=>
  obtain⟨rfl,rfl⟩:=hrel;go_wp2;go_ret;exact⟨rfl,rfl⟩
theorem UW(e:Eng)(x y:EX)(w:Ϙ)(h:enAt w e x)(i:enAt w e y)(f:wfEn e)(q:Wd e.j):
 η 20 #[enV e x,enV e y] w (θ w (.bool true)):=by
 have m:Ϛ (∀a,ϛ w a->CT 42 #[joinV e.j x.y,joinV e.j y.y] a (θ a (.bool true))):=λa d=>We e.j x.y y.y a (h.j.below d) (i.j.below d) q;have G:Ϛ (∀a,CT 43 #[ψ,ψ] a λo w'=>o= .returned (.bool true)/\w'=a):=λa=>XF a;have KV:Ϛ (∀a,ϛ w a->CT 44 #[vS x.va e.v.length x.vc,vS y.va e.v.length y.vc] a (θ a (.bool true))):=λa d=>by
  have:=ch.MS x.va y.va x.vc y.vc e.v e.v a (ch.BJ h.v d) (ch.BJ i.v d) f.v f.v f.n f.n;rw[decide_eq_true rfl]at this;exact this
 rw[AP,AP]at m;rw[Cq,Cq];clear h i f q;go_enter func20,ntmps20;go_wp2_with fail;generalize j:(World.alloc (World.alloc w _) _)=V;have k:ϛ w V:=by rw[<-j];exact ϧ.alloc Ϟ _
 have c:Ϛ (Bn V w.heap.size e x/\Bn V (w.heap.size+1) e y):=by
  subst j;have n:=Cg (ξ w #[vI e.j.L.lim,vS x.y.l.m.1.1 x.y.l.m.1.2.1 x.y.l.m.1.2.2,vS x.y.l.ra x.y.l.rs.length x.y.l.rc,vI e.j.R.lim,vS x.y.r.m.1.1 x.y.r.m.1.2.1 x.y.r.m.1.2.2,vS x.y.r.ra x.y.r.rs.length x.y.r.rc,vI e.j.lm,vI e.j.rm,vI e.j.seq,ψ,vS x.va e.v.length x.vc] 42) e y 42;rw[World.size_alloc]at n;exact⟨AH (Cg ..) ϧ,n⟩
 clear j;obtain⟨u0,u1,u2,u3,u4,u5,u6,u7,u8,u9,u10⟩:=c.o.1;obtain⟨r,s,u,z,A,B,C,D,E,F,t⟩:=c.o.2;refine(m.o V k).mono ?_;rintro o a ⟨rfl,g⟩;have p:ϛ w a:=bT k g;replace c:Ϛ (Bn a w.heap.size e x/\Bn a (w.heap.size+1) e y):=⟨AH c.o.1 g,AH c.o.2 g⟩;clear u0 u1 u2 u3 u4 u5 u6 u7 u8 u9 u10 r s u z A B C D E F t g k;obtain⟨u0,u1,u2,u3,u4,u5,u6,u7,u8,u9,u10⟩:=c.o.1;obtain⟨r,s,u,z,A,B,C,D,E,F,t⟩:=c.o.2;go_wp2_with fail;refine(G.o a).mono ?_;rintro o I ⟨rfl,rfl⟩;go_wp2_with fail;refine(KV.o _ p).mono ?_;rintro o J ⟨rfl,H⟩;go_wp2;go_ret;exact⟨rfl,bT p H⟩
end cd
namespace cd
open vl bf
variable {b : Buf}
def Bv(b:Buf):List UInt8:=AG b.mem++C2 b.runs
structure okBW(b:Buf):Prop where
 ents:∀x∈Ab b,okW x
 few:(Ab b).length<=10000
 runs:b.runs.length<=10000
theorem okBW.mem(h:okBW b):(∀x∈b.mem,okW x)/\b.mem.length<=10000:=by
 have e:Ab b=b.mem++b.runs.flatten:=rfl;have:=h.few;rw[e,lAp]at this;exact⟨λx a=>h.ents x (by rw[e];exact mem_append.2 (.inl a)),Ϝ⟩
theorem okBW.run(h:okBW b):(∀r∈b.runs,∀x∈r,okW x)/\b.runs.flatten.length<=10000:=by
 have e:Ab b=b.mem++b.runs.flatten:=rfl;have:=h.few;rw[e,lAp]at this;exact⟨λr a x c=>h.ents x (by rw[e];exact mem_append.2 (.inr (mem_flatten.2 ⟨r,a,c⟩))),Ϝ⟩
theorem Sk(h:okBW b):(C2 b.runs).length<=8+8 * b.runs.length+4000 * b.runs.flatten.length:=by
 have:=MD h.run.1;unfold C2;rw[lAp,Az];omega
theorem run_store_func{P:Program}{w:Ϙ}{a:Addr}{m:Mode}(f:Fn)(x y:Array Value):(store a (.func f x y) m).run P w=stored P w a (.func f x y) m:=run_store P w a _ m rfl
attribute [local go_sem] run_store_func
theorem Tw(c:Ϙ)(B:Nat)(d:List UInt8)(b:Buf)(x:BX)(w:Ϙ)(A:ϛ c w)(h:WR w c.heap.size B d)(ha:bufAt c b x)(g:okBW b)(F:d.length+(AG b.mem).length<=40000000):
 η 107 #[μ B,.agg (Ω b x)] w (WO c.heap.size B w (d++Bv b)):=by
 have G:x.m.1.2.1=b.mem.length:=((ha.len _ (mem_cons_self ..)).1).trans ha.mem.1;have t:Ϛ (∀C a,ϛ c a->WR a c.heap.size B d->WP a C B->CT 180 #[μ B,vS x.m.1.1 x.m.1.2.1 x.m.1.2.2,F1 C] a (WO c.heap.size B a (d++AG b.mem))):=λC a i o r=>by
  rw[G];exact QA c C B d _ _ x.m.2 b.mem a i o r (ha.ems _ (mem_cons_self ..)) ha.mem g.mem.1 g.mem.2 (by
   have:=g.mem.2;have Y:d.length<=40000000:=Ϝ;omega)
 have u:Ϛ (∀C D a,ϛ c a->WR a c.heap.size B (d++AG b.mem)->WP a C B->FP a D C->CT 181 #[μ B,vS x.ra x.rs.length x.rc,.func (.func 182) #[] #[μ C,μ D]] a (WO c.heap.size B a (d++AG b.mem++C2 b.runs))):=λC D a i o r S=>by
  rw[ha.rlen];exact XT c C D B _ x.ra x.rc x.rs b.runs a i o r S ha.hds (λp s=>(ha.len p (mem_cons_of_mem _ s)).1) (λp s=>ha.ems p (mem_cons_of_mem _ s)) ha.rlen ha.runs g.run.1 g.runs g.run.2 (by rw[lAp];exact F)
 have J:Ϛ (d++AG b.mem++C2 b.runs=d++Bv b):=by
  show _=_;unfold Bv;rw[append_assoc]
 obtain⟨k,H⟩:=nM x.rs.length;rw[H]at u⊢;clear ha g H F G;unfold F1 at t;go_enter func107,ntmps107;go_wp2_with fail;generalize q:(World.alloc (World.alloc (World.alloc w _) _) _)=V;have m:ϛ w V:=by rw[<-q];exact(ϧ.alloc Ϟ _).alloc ϣ _
 have f:Ϛ (WP V w.heap.size B/\FP V (w.heap.size+1+1) w.heap.size/\CW V (w.heap.size+1) 36 1 (vS x.m.1.1 x.m.1.2.1 x.m.1.2.2)/\CW V (w.heap.size+1) 36 2 (vS x.ra k x.rc)):=by
  subst q;have K:Ae (ξ w #[μ B] 66) w.heap.size 66:=⟨_,_,World.alloc_heap_new _ _⟩;have y:Ae (ξ (ξ w #[μ B] 66) #[vI b.lim,vS x.m.1.1 x.m.1.2.1 x.m.1.2.2,vS x.ra k x.rc] 36) (w.heap.size+1) 36:=by
   have:=World.alloc_heap_new (ξ w #[μ B] 66) (.cells #[vI b.lim,vS x.m.1.1 x.m.1.2.1 x.m.1.2.2,vS x.ra k x.rc] 36);rw[World.size_alloc]at this;exact⟨_,_,this⟩
  have L:Ae (ξ (ξ (ξ w #[μ B] 66) #[vI b.lim,vS x.m.1.1 x.m.1.2.1 x.m.1.2.2,vS x.ra k x.rc] 36) #[F1 w.heap.size] 240) (w.heap.size+1+1) 240:=by
   have:=World.alloc_heap_new (ξ (ξ w #[μ B] 66) #[vI b.lim,vS x.m.1.1 x.m.1.2.1 x.m.1.2.2,vS x.ra k x.rc] 36) (.cells #[F1 w.heap.size] 240);rw[World.size_alloc,World.size_alloc]at this;exact⟨_,_,this⟩
  exact⟨⟨Ad (Ad K ϧ) ϧ,Ϡ⟩,⟨L,by unfold F1;go_simp⟩,⟨Ad y ϧ,Ϡ⟩,⟨Ad y ϧ,Ϡ⟩⟩
 have n:Ϛ (keepW w V/\Below c.heap.size w V):=⟨keepW.of m,m.mono A.size⟩;have E:ϛ c V:=A.trans n.o.2;have W:WR V c.heap.size B d:=h.below m;clear q m h;have M:=f.o.1.2;have O:=f.o.2.2.1.2;have z:=f.o.2.1.2;unfold F1 at z;refine(t.o w.heap.size V E W f.o.1).mono ?_;rintro e a ⟨rfl,X,i,j⟩;replace M:=(f.o.1.keep j).2;replace O:=(f.o.2.2.2.keep j ϝ ϝ).2;clear z;have P:=E.trans i;go_wp2_with fail;refine(u.o w.heap.size (w.heap.size+1+1) a P X (f.o.1.keep j) (f.o.2.1.keep j)).mono ?_;rintro e Z ⟨rfl,I,Q,U⟩;rw[J.o]at I;go_wp2
 go_end0
 exact⟨rfl,I,n.o.2.trans (i.trans Q),n.o.1.trans (j.trans U)⟩
end cd
namespace cd
open vl bf
attribute [local go_sem] run_store_func
variable {w : Ϙ} {N R base base' : Nat} {x : BX} {b : Buf} {T : TypeId} {v : Value} {ps : List Part} {l : List (List Ent)}
structure BO(w:World)(base:Nat)(x:BX)(b:Buf):Prop where
 mem:OE w base (hdV x.m.1) x.m.2 b.mem
 runs:RS w base (vS x.ra x.rs.length x.rc) x.rs b.runs
theorem BO.at(h:BO w base x b):bufAt w b x:=by
 have c:∀p∈x.m::x.rs,∃l,OE w base (hdV p.1) p.2 l:=λp c=>by
  rcases mem_cons.1 c with rfl|c
  ·exact⟨_,h.mem⟩
  ·obtain⟨i,a,rfl⟩:=getElem_of_mem c;have:=(h.runs.runs i (by rw[<-h.runs.len];exact a)).2;rw[gDe,gEe a]at this;exact⟨_,this⟩
 refine⟨λi a=>?_,λp e=>?_,λp e=>?_,?_,h.mem.ers,h.runs.len,λi a=>((h.runs.runs i a).2).ers⟩
 ·rw[lMp]at a;rcases h.runs.own.2 with⟨_,o⟩|⟨g,m,n,k,_⟩
  ·omega
  ·injection k with f _ _
   refine⟨g,0,f,?_⟩;have j:=World.ownsRow.cells h.runs.own (g:=g) (by rw[f];rfl) i (hdV (x.rs[i]).1) (by rw[getElem?_map,gEe a];rfl);rw[De]at j;rw[gDe,getElem?_map,gEe a];exact j
 ·obtain⟨l,d⟩:=c p e;exact(Cx d).1
 ·obtain⟨l,d⟩:=c p e;exact(Cx d).2
 ·have:=JN h.runs.own;unfold maxLen at this;omega
theorem Zy(h:RS w base v ps l)(a:Ae w N T)(c:jn.calmT T)(k:Nat)(u:Value):RS (φ w N k u) base v ps l:=
 ⟨As h.own (λg e=>heap_setCell_other _ _ _ _ (tyAt_apart (Ay h.own e) a c.h.symm)),h.len,λi d=>⟨(h.runs i d).1,jn.J5 (h.runs i d).2 a c k u⟩⟩
theorem RS.mono(h:RS w base v ps l)(a:base'<=base):RS w base' v ps l:=⟨World.ownsRow.mono h.own a,h.len,λi c=>⟨(h.runs i c).1,(h.runs i c).2.mono a⟩⟩
theorem BO.mono(h:BO w base x b)(a:base'<=base):BO w base' x b:=⟨h.mem.mono a,h.runs.mono a⟩
theorem BO.keptR{w':Ϙ}(h:BO w base x b)(c:Ah R w w')(a:Ae w R 124):BO w' base x b:=⟨OE.keptR h.mem c a,h.runs.keptR c a⟩
theorem Bw(h:BO w base x b)(a:Ae w N T)(c:jn.calmT T)(k:Nat)(u:Value):BO (φ w N k u) base x b:=⟨jn.J5 h.mem a c k u,Zy h.runs a c k u⟩
theorem En{base N:Nat}{T:TypeId}{x:BX}{b:Buf}(a:jn.calmT T):∀(l:List Value) (o:Nat) (w:Ϙ),BO w base x b->Ae w N T->BO (w.setCells N o l) base x b
 |[],_,_,h,_=>h
 |u::l,o,w,h,hN=>En a l (o+1) _ (Bw h hN a o u) (Ai hN _ _)
theorem OM:jn.calmT 36:=⟨ϝ,ϝ,ϝ⟩
theorem AaA:(Tryz.prog.info? 36).map (·.size)=some 3:=ϟ
theorem BB{W:Ϙ}{j:Nat}(h:Ah R w W)(d:w.heap.size<=N):Ah R w (φ W N j v):=
 ⟨h.1.setCell (Nat.zero_le _) _,λg c a=>(heap_setCell_other _ _ _ _ Ϣ).trans (h.2 g c a)⟩
structure okRB(b:Buf):Prop where
 ents:∀x∈Ab b,okR x
 few:(Ab b).length<=1000
 runs:b.runs.length<=1000
theorem okRB.mem(h:okRB b):(∀x∈b.mem,okR x)/\b.mem.length<=1000:=by
 have e:Ab b=b.mem++b.runs.flatten:=rfl;have:=h.few;rw[e,lAp]at this;exact⟨λx a=>h.ents x (by rw[e];exact mem_append.2 (.inl a)),Ϝ⟩
theorem okRB.run(h:okRB b):(∀r∈b.runs,∀x∈r,okR x)/\b.runs.flatten.length<=1000:=by
 have e:Ab b=b.mem++b.runs.flatten:=rfl;have:=h.few;rw[e,lAp]at this;exact⟨λr a x c=>h.ents x (by rw[e];exact mem_append.2 (.inr (mem_flatten.2 ⟨r,a,c⟩))),Ϝ⟩
theorem Q5(R:Nat)(b:Buf)(t:List UInt8)(w:Ϙ)(h:RR w R (Bv b++t))(B:okRB b)(hm:t.length<=4900000 - 8)(hl:(C2 b.runs).length+t.length<=9000000):
 η 138 #[μ R,vI b.lim] w λe w'=>(∃x:BX,e= .returned (.agg (Ω b x))/\BO w' w.heap.size x b)/\RR w' R t/\Ah R w w':=by
 have K:Ϛ (∀C d,RR d R (AG b.mem++(C2 b.runs++t))->RP d C R->CT 206 #[μ R,G1 C] d λe w'=>(∃f i z,e= .returned (vS f b.mem.length i)/\OE w' d (vS f b.mem.length i) z b.mem)/\RR w' R (C2 b.runs++t)/\Ah R d w'):=λC d O U=>N6 R C b.mem _ d O U B.mem.1 (by have:=B.mem.2;omega) (by rw[lAp];omega);have Z:=hIz (λC D (d:Ϙ) (O:RR d R (C2 b.runs++t)) (U:RP d C R) (hd:GP d D C R)=>UA R C D b.runs t d O U hd B.run.1 B.runs B.run.2 Ϝ);have A:Ϛ (RR w R (AG b.mem++(C2 b.runs++t))):=by
  unfold Bv at h;rw[append_assoc]at h;exact h
 have hR:=h.lt;obtain⟨n,hn⟩:=nM b.mem.length;obtain⟨y,W⟩:=nM b.runs.length;have af:=hqz W;rw[hn]at K;rw[W]at Z;clear h B hm hl hn W;go_enter func138,ntmps138;unfold G1 at K;go_wp2_with fail;generalize P:(World.alloc (World.alloc (World.alloc (World.alloc w _) _) _) _)=V;have Q:ϛ w V:=by rw[<-P];exact((ϧ.alloc Ϟ _).alloc ϣ _).alloc ϣ _
 have c:Ϛ ((RP V w.heap.size R/\GP V (w.heap.size+1+1) w.heap.size R)/\(SB V (w.heap.size+1) [ω,ψ,ψ]/\SB V (w.heap.size+1+1+1) [vI b.lim,ψ,ψ])/\Ae V (w+1+1+1) 36/\Ae V (w+1) 36):=by
  subst P;have e1:=World.size_alloc w (.cells #[μ R] 71);have e2:=World.size_alloc (ξ w #[μ R] 71) (.cells #[ω,ψ,ψ] 36);have e3:=World.size_alloc (ξ (ξ w #[μ R] 71) #[ω,ψ,ψ] 36) (.cells #[G1 w.heap.size] 257);rw[e1]at e2;rw[e2]at e3;have s1:=SB.new (ξ w #[μ R] 71) [ω,ψ,ψ] 36;have s2:=SB.new (ξ (ξ (ξ w #[μ R] 71) #[ω,ψ,ψ] 36) #[G1 w.heap.size] 257) [vI b.lim,ψ,ψ] 36;have t1:=World.alloc_heap_new (ξ w #[μ R] 71) (.cells #[ω,ψ,ψ] 36);have t2:=World.alloc_heap_new (ξ (ξ (ξ w #[μ R] 71) #[ω,ψ,ψ] 36) #[G1 w.heap.size] 257) (.cells #[vI b.lim,ψ,ψ] 36);rw[e1]at s1 t1;rw[e3]at s2 t2;have ab:Below ((w.alloc (.cells #[μ R] 71)).alloc (.cells #[ω,ψ,ψ] 36)).heap.size (ξ (ξ w #[μ R] 71) #[ω,ψ,ψ] 36) (ξ (ξ (ξ (ξ w #[μ R] 71) #[ω,ψ,ψ] 36) #[G1 w.heap.size] 257) #[vI b.lim,ψ,ψ] 36):=ϧ.alloc Ϟ _;exact⟨⟨⟨Ϡ,Ϝ,ϣ⟩,⟨by unfold G1;go_simp,Ϝ,ϣ⟩⟩,⟨s1.below ab,s2⟩,⟨_,_,t2⟩,Ad ⟨_,_,t1⟩ ab⟩
 have k:Ϛ (Ah R w V/\RR V R (AG b.mem++(C2 b.runs++t))):=⟨Ah.of Q,A.o.below Q⟩;clear P Q A;have F:=c.o.1.1.cell;have c2:=c.o.1.2.cell;unfold G1 at c2;have ah:(w.heap.size+1+1+1)<V.heap.size:=c.o.2.1.2.lt;refine(K.o w.heap.size V k.o.2 c.o.1.1).mono ?_;rintro o d ⟨⟨f,i,z,rfl,ac⟩,G,j⟩;replace c:Ϛ ((RP d w.heap.size R/\GP d (w.heap.size+1+1) w.heap.size R)/\(SB d (w.heap.size+1) [ω,ψ,ψ]/\SB d (w.heap.size+1+1+1) [vI b.lim,ψ,ψ])/\Ae d (w+1+1+1) 36/\Ae d (w+1) 36):=⟨⟨c.o.1.1.keep j,c.o.1.2.keep j⟩,⟨c.o.2.1.1.keep j Ϝ,c.o.2.1.2.keep j Ϝ⟩,Ao c.o.2.2.1 (j.2 _ c.o.2.1.2.lt Ϝ),Ao c.o.2.2.2 (j.2 _ c.o.2.1.1.lt Ϝ)⟩;replace k:Ϛ (Ah R w d/\RR d R (C2 b.runs++t)):=⟨k.o.1.trans j,G⟩;have I:Ϛ (OE d w (vS f n i) z b.mem):=ac.mono Ϝ;clear ac G F c2;have F:=c.o.1.1.cell;have L:=c.o.2.1.2.cell 1 _ rfl;have M:=c.o.2.1.2.frz 1;have ai:=j.1.size;have ag:=hqz c.o.2.2.1;clear j;go_wp2_with fail;generalize u:World.setCell d _ _=r;have aa:r.heap.size=d.heap.size:=by rw[<-u];simp[World.setCell]
 replace c:Ϛ ((RP r w.heap.size R/\GP r (w.heap.size+1+1) w.heap.size R)/\(SB r (w.heap.size+1) [ω,ψ,ψ]/\SB r (w.heap.size+1+1+1) [vI b.lim,vS f n i,ψ])/\Ae r (w+1+1+1) 36/\Ae r (w+1) 36):=by
  subst u;have S:∀g,g≠(w.heap.size+1+1+1)->(d.setCell ⟨(w.heap.size+1+1+1),1,none⟩ (vS f n i)).heap[g]? =d.heap[g]? :=λg hg=>heap_setCell_other _ _ _ _ hg;exact⟨⟨⟨(cOb (w:=d) (a:=⟨w,0,none⟩) (S _ Ϣ)).trans c.o.1.1.cell,c.o.1.1.ne,by rw[aa];exact c.o.1.1.lt⟩,⟨(cOb (w:=d) (a:=⟨(w.heap.size+1+1),0,none⟩) (S _ Ϣ)).trans c.o.1.2.cell,c.o.1.2.ne,by rw[aa];exact c.o.1.2.lt⟩⟩,⟨c.o.2.1.1.same (S _ Ϝ) Ϝ,c.o.2.1.2.set 1 _ Ϟ⟩,Ai c.o.2.2.1 _ _,Ai c.o.2.2.2 _ _⟩
 replace k:Ϛ (Ah R w r/\RR r R (C2 b.runs++t)):=by
  subst u;exact⟨BB k.o.1 Ϝ,k.o.2.set Ϝ⟩
 replace I:Ϛ (OE r w (vS f n i) z b.mem):=by
  subst u;exact jn.J5 I.o ag.o OM _ _
 clear u L M F;have F:=c.o.1.1.cell;refine(Z.o w.heap.size (w.heap.size+1+1) r k.o.2 c.o.1.1 c.o.1.2).mono ?_;rintro o s ⟨⟨m,p,ps,rfl,X⟩,G,j⟩;replace c:Ϛ ((RP s w.heap.size R/\GP s (w.heap.size+1+1) w.heap.size R)/\(SB s (w.heap.size+1) [ω,ψ,ψ]/\SB s (w.heap.size+1+1+1) [vI b.lim,vS f n i,ψ])/\Ae s (w+1+1+1) 36/\Ae s (w+1) 36):=⟨⟨c.o.1.1.keep j,c.o.1.2.keep j⟩,⟨c.o.2.1.1.keep j Ϝ,c.o.2.1.2.keep j Ϝ⟩,Ao c.o.2.2.1 (j.2 _ c.o.2.1.2.lt Ϝ),Ao c.o.2.2.2 (j.2 _ c.o.2.1.1.lt Ϝ)⟩;have ae:ps.length=y:=X.len.trans af.o;have J:Ϛ (BO s w.heap.size ⟨m,p,((f,n,i),z),ps⟩ b):=⟨OE.keptR I.o j k.o.2.tb,by
  show RS s w.heap.size (vS m ps.length p) ps b.runs;rw[ae];exact X.mono Ϝ⟩
 replace k:Ϛ (Ah R w s/\RR s R t):=⟨k.o.1.trans j,G⟩;clear X G j I F;have L:=c.o.2.1.2.cell 2 _ rfl;have M:=c.o.2.1.2.frz 2;go_upto_region 5 with fail;generalize u:World.setCell s _ _=q;replace J:Ϛ (BO q w.heap.size ⟨m,p,((f,n,i),z),ps⟩ b):=by
  subst u;exact Bw J.o c.o.2.2.1 OM _ _
 replace k:Ϛ (Ah R w q/\RR q R t):=by
  subst u;exact⟨BB k.o.1 Ϝ,k.o.2.set Ϝ⟩
 have E:Ϛ ((SB q (w.heap.size+1) [ω,ψ,ψ]/\SB q (w.heap.size+1+1+1) [vI b.lim,vS f n i,vS m y p])/\Ae q (w+1) 36):=by
  subst u;exact⟨⟨c.o.2.1.1.same (heap_setCell_other _ _ _ _ Ϣ) (by simp[World.setCell]),c.o.2.1.2.set 2 _ Ϟ⟩,Ai c.o.2.2.2 _ _⟩
 clear u L M c;have d0:=E.o.1.2.cell 0 _ rfl;have d1:=E.o.1.2.cell 1 _ rfl;have d2:=E.o.1.2.cell 2 _ rfl;have Y:Ϛ (q.there (w.heap.size+1) 0 3):=E.o.1.1.there;have H:Ϛ (RR (World.setCells q (w.heap.size+1) 0 [vI b.lim,vS f n i,vS m y p]) R t/\Ah R w (World.setCells q (w.heap.size+1) 0 [vI b.lim,vS f n i,vS m y p])/\BO (World.setCells q (w.heap.size+1) 0 [vI b.lim,vS f n i,vS m y p]) w.heap.size ⟨m,p,((f,n,i),z),ps⟩ b):=
  ⟨k.o.2.sets Ϝ _ _,Ef k.o.1 Ϝ _ _,En OM _ _ _ J.o E.o.2⟩
 have A:Ϛ ((World.setCells q (w.heap.size+1) 0 [vI b.lim,vS f n i,vS m y p]).rangeAt (w.heap.size+1) 0 [vI b.lim,vS f n i,vS m y p]):=World.rangeAt_setCells_same _ _ _ _ Y.o;go_wp2_with ((with_reducible refine wpList_store_mid ?_ 36 (.tmp 4) (.tmp 18) ?_ (w.heap.size+1) 0 #[vI b.lim,vS f n i,vS m y p] ?_ ?_ ?_ ?_ ?_ ?_);exact rfl;exact rfl;exact rfl;exact rfl;exact Y.o;exact AaA;exact ϥ);generalize (World.setCells q (w.heap.size+1) 0 [vI b.lim,vS f n i,vS m y p])=W' at A H⊢;have z0:=A.o 0 _ rfl;have z1:=A.o 1 _ rfl;have z2:=A.o 2 _ rfl;simp only[Nat.zero_add]at z0 z1 z2;exact bodyPost_ret (v:=.agg #[vI b.lim,vS f n i,vS m y p]) (by simp[results,results138,go_sem,z0,z1,z2]) rfl ⟨⟨⟨m,p,((f,n,i),z),ps⟩,by rw[ae],H.o.2.2⟩,H.o.1,H.o.2.1⟩
end cd
namespace cd
open vl bf jn
def Gq(s:Jn):List UInt8:=Bv s.L++Bv s.R++A2 s.lm++A2 s.rm++A2 s.seq
theorem Gi{w w':Ϙ}{b:Nat}{s:Jn}{y:JX}(h:BS w b s y/\Ae w b 38)(a:keepW w w'):BS w' b s y/\Ae w' b 38:=
 ⟨Ua h.1 (a.2 b _ h.2 ϝ ϝ),Ao h.2 (a.2 b _ h.2 ϝ ϝ)⟩
theorem XG(a:Ϙ)(B:Nat)(g:List UInt8)(s:Jn)(y:JX)(w:Ϙ)(j:ϛ a w)(h:WR w a.heap.size B g)(ha:joinAt a s y)(Q:okBW s.L)(S:okBW s.R)(G:g.length+(Gq s).length<=39000000):
 η 53 #[μ B,joinV s y] w (WO a.heap.size B w (g++Gq s)):=by
 have o:Ϛ (g.length+(Bv s.L).length+(Bv s.R).length+24<=39000000):=by
  show _<=_;unfold Gq at G;simp only[lAp,Az]at G;omega
 have I:=hIz (λ(c:Ϙ) (i:ϛ a c) (u:WR c a.heap.size B g)=>Tw a B g s.L y.l c i u ha.l Q (by have:=o.o;unfold Bv at this;simp only[lAp]at this;omega));have J:Ϛ (∀c,ϛ a c->WR c a.heap.size B (g++Bv s.L)->CT 107 #[μ B,.agg (Ω s.R y.r)] c (WO a.heap.size B c (g++Bv s.L++Bv s.R))):=λc i u=>Tw a B _ s.R y.r c i u ha.r S (by have:=o.o;rw[lAp];unfold Bv at this⊢;simp only[lAp]at this⊢;omega);have r:=hIz (λ(c:Ϙ) t n (hw:WR c a.heap.size B t) (ad:t.length<=39000000) (i:a.heap.size<=c.heap.size)=>C7 a.heap.size B t n c i hw Ϝ);have H:Ϛ (g++Bv s.L++Bv s.R++A2 s.lm++A2 s.rm++A2 s.seq=g++Gq s):=by
  show _=_;unfold Gq;simp only[append_assoc]
 rw[<-H.o];obtain⟨L,p⟩:=nM (Bv s.L);obtain⟨R,z⟩:=nM (Bv s.R);rw[p,z]at o;rw[p]at I;rw[p,z]at J⊢;clear ha Q S G H p z;rw[AP];go_enter func53,ntmps53;go_wp2_with fail;generalize A:(World.alloc w _)=V;have q:ϛ w V:=by rw[<-A];exact ϧ
 have f:Ϛ (BS V w s y/\Ae V w 38):=by
  subst A;exact⟨Ck ..,_,_,World.alloc_heap_new _ _⟩
 have d:Ϛ (keepW w V/\Below a.heap.size w V):=⟨keepW.of q,q.mono j.size⟩;have K:ϛ a V:=j.trans d.o.2;have U:WR V a.heap.size B g:=h.below q;have ae:=o.o;clear A q h;obtain⟨u0,u1,u2,u3,u4,u5,u6,u7,u8⟩:=f.o.1;refine(I.o V K U).mono ?_;rintro e c ⟨rfl,W,i,C⟩;replace f:Ϛ (BS c w s y/\Ae c w 38):=Gi f.o C;replace d:Ϛ (keepW w c/\Below a.heap.size w c):=⟨d.o.1.trans C,d.o.2.trans i⟩;clear u0 u1 u2 u3 u4 u5 u6 u7 u8 U K C i;obtain⟨u0,u1,u2,u3,u4,u5,u6,u7,u8⟩:=f.o.1;go_wp2_with fail;refine(J.o c (j.trans d.o.2) W).mono ?_;rintro e k ⟨rfl,X,M,D⟩;replace f:Ϛ (BS k w s y/\Ae k w 38):=Gi f.o D;replace d:Ϛ (keepW w k/\Below a.heap.size w k):=⟨d.o.1.trans D,d.o.2.trans M⟩;clear u0 u1 u2 u3 u4 u5 u6 u7 u8 W D M;obtain⟨u0,u1,u2,u3,u4,u5,u6,u7,u8⟩:=f.o.1;go_wp2_with fail;refine(r.o k _ _ X (by simp only[lAp,Az];omega) (j.trans d.o.2).size).mono ?_;rintro e m ⟨rfl,Y,O,E⟩;replace f:Ϛ (BS m w s y/\Ae m w 38):=Gi f.o E;replace d:Ϛ (keepW w m/\Below a.heap.size w m):=⟨d.o.1.trans E,d.o.2.trans O⟩;clear u0 u1 u2 u3 u4 u5 u6 u7 u8 X E O;obtain⟨u0,u1,u2,u3,u4,u5,u6,u7,u8⟩:=f.o.1;go_wp2_with fail;refine(r.o m _ _ Y (by simp only[lAp,Az];omega) (j.trans d.o.2).size).mono ?_;rintro e w4 ⟨rfl,ab,P,F⟩;replace f:Ϛ (BS w4 w s y/\Ae w4 w 38):=Gi f.o F;replace d:Ϛ (keepW w w4/\Below a.heap.size w w4):=⟨d.o.1.trans F,d.o.2.trans P⟩;clear u0 u1 u2 u3 u4 u5 u6 u7 u8 Y F P;obtain⟨u0,u1,u2,u3,u4,u5,u6,u7,u8⟩:=f.o.1;go_wp2_with fail;refine(r.o w4 _ _ ab (by simp only[lAp,Az];omega) (j.trans d.o.2).size).mono ?_;rintro e w5 ⟨rfl,ac,Z,aa⟩;go_wp2
 go_end0
 exact⟨rfl,ac,d.o.2.trans Z,d.o.1.trans aa⟩
structure okRJ(s:Jn):Prop where
 l:okRB s.L
 r:okRB s.R
 lim:s.L.lim=s.R.lim
 lm: -9223372036854775808<=s.lm/\s.lm<=9223372036854775807
 rm: -9223372036854775808<=s.rm/\s.rm<=9223372036854775807
 seq: -9223372036854775808<=s.seq/\s.seq<=9223372036854775807
 few:(Bv s.L).length+(Bv s.R).length<=2000000
theorem UX(R:Nat)(s:Jn)(t:List UInt8)(w:Ϙ)(h:RR w R (Gq s++t))(G:okRJ s)(hm:t.length<=2000000):
 η 75 #[μ R,vI s.L.lim] w λe w'=>(∃z:JX,e= .returned (joinV s z)/\BO w' w.heap.size z.l s.L/\BO w' w.heap.size z.r s.R)/\RR w' R t/\Ah R w w':=by
 have aa:=G.few;have e0:Gq s++t=Bv s.L++(Bv s.R++(A2 s.lm++(A2 s.rm++(A2 s.seq++t)))):=by
  unfold Gq;simp only[append_assoc]
 have ab:(C2 s.L.runs).length<=(Bv s.L).length/\(C2 s.R.runs).length<=(Bv s.R).length:=by
  unfold Bv;simp only[lAp];omega
 have K0:Ϛ (∀i,RR i R (Bv s.L++(Bv s.R++(A2 s.lm++(A2 s.rm++(A2 s.seq++t)))))->CT 138 #[μ R,vI s.L.lim] i λe w'=>(∃x:BX,e= .returned (.agg (Ω s.L x))/\BO w' i.heap.size x s.L)/\RR w' R (Bv s.R++(A2 s.lm++(A2 s.rm++(A2 s.seq++t))))/\Ah R i w'):=λi I=>Q5 R s.L _ i I G.l (by simp only[lAp,Az];omega) (by simp only[lAp,Az];omega);have K1:Ϛ (∀i,RR i R (Bv s.R++(A2 s.lm++(A2 s.rm++(A2 s.seq++t))))->CT 138 #[μ R,vI s.L.lim] i λe w'=>(∃x:BX,e= .returned (.agg (Ω s.R x))/\BO w' i.heap.size x s.R)/\RR w' R (A2 s.lm++(A2 s.rm++(A2 s.seq++t)))/\Ah R i w'):=λi I=>by
  rw[G.lim];exact Q5 R s.R _ i I G.r (by simp only[lAp,Az];omega) (by simp only[lAp,Az];omega)
 have L:=hIz (λ(i:Ϙ) n r (I:RR i R (A2 n++r)) (h2:(-9223372036854775808<=n/\n<=9223372036854775807)) (h3:r.length<=90000000)=>BN R n r i I h2 h3);have K:Ϛ ((-9223372036854775808<=s.lm/\s.lm<=9223372036854775807)/\(-9223372036854775808<=s.rm/\s.rm<=9223372036854775807)/\(-9223372036854775808<=s.seq/\s.seq<=9223372036854775807)):=⟨G.lm,G.rm,G.seq⟩;rw[e0]at h;have hR:=h.lt;have m:=hqz h;clear h G aa ab e0;go_enter func75,ntmps75;go_wp2_with fail;generalize S:(World.alloc (World.alloc w _) _)=V;have U:ϛ w V:=by rw[<-S];exact ϧ.alloc Ϟ _
 have a:Ϛ ((SB V w.heap.size [ω,ψ,ψ,ω,ψ,ψ,ω,ω,ω]/\SB V (w.heap.size+1) [ω,ψ,ψ,ω,ψ,ψ,ω,ω,ω])/\Ae V w 38/\Ae V (w+1) 38):=by
  subst S;have e1:=World.size_alloc w (.cells #[ω,ψ,ψ,ω,ψ,ψ,ω,ω,ω] 38);have s1:=SB.new w [ω,ψ,ψ,ω,ψ,ψ,ω,ω,ω] 38;have X:=SB.new (ξ w #[ω,ψ,ψ,ω,ψ,ψ,ω,ω,ω] 38) [ω,ψ,ψ,ω,ψ,ψ,ω,ω,ω] 38;have t1:=World.alloc_heap_new w (.cells #[ω,ψ,ψ,ω,ψ,ψ,ω,ω,ω] 38);have Y:=World.alloc_heap_new (ξ w #[ω,ψ,ψ,ω,ψ,ψ,ω,ω,ω] 38) (.cells #[ω,ψ,ψ,ω,ψ,ψ,ω,ω,ω] 38);rw[e1]at X Y;exact⟨⟨s1.below ϧ,X⟩,Ad ⟨_,_,t1⟩ ϧ,⟨_,_,Y⟩⟩
 have d:Ϛ (Ah R w V/\RR V R (Bv s.L++(Bv s.R++(A2 s.lm++(A2 s.rm++(A2 s.seq++t)))))):=⟨Ah.of U,m.o.below U⟩;have ac:(w.heap.size+1)<V.heap.size:=a.o.1.2.lt;clear S U m;refine(K0.o V d.o.2).mono ?_;rintro o i ⟨⟨x,rfl,J⟩,k,c⟩;replace a:Ϛ ((SB i w.heap.size [ω,ψ,ψ,ω,ψ,ψ,ω,ω,ω]/\SB i (w.heap.size+1) [ω,ψ,ψ,ω,ψ,ψ,ω,ω,ω])/\Ae i w 38/\Ae i (w+1) 38):=⟨⟨a.o.1.1.keep c Ϝ,a.o.1.2.keep c Ϝ⟩,Ao a.o.2.1 (c.2 _ a.o.1.1.lt Ϝ),Ao a.o.2.2 (c.2 _ a.o.1.2.lt Ϝ)⟩;have f:Ϛ (BO i w.heap.size x s.L):=J.mono Ϝ;replace d:Ϛ (Ah R w i/\RR i R (Bv s.R++(A2 s.lm++(A2 s.rm++(A2 s.seq++t))))):=⟨d.o.1.trans c,k⟩;have ad:=c.1.size;have E:=a.o.1.2.cell 0 _ rfl;have F:=a.o.1.2.frz 0;have M:=a.o.1.2.cell 1 _ rfl;have P:=a.o.1.2.frz 1;have O:=a.o.1.2.cell 2 _ rfl;have Q:=a.o.1.2.frz 2;clear k c J;go_wp2_with fail;generalize g:World.setCell (World.setCell (World.setCell i _ _) _ _) _ _=D;have ai:D.heap.size=i.heap.size:=by rw[<-g];simp[World.setCell]
 replace f:Ϛ (BO D w.heap.size x s.L):=by
  subst g;exact(Bw (Bw (Bw f.o a.o.2.2 CU _ _) (Ai a.o.2.2 _ _) CU _ _) (Ai (Ai a.o.2.2 _ _) _ _) CU _ _)
 replace d:Ϛ (Ah R w D/\RR D R (Bv s.R++(A2 s.lm++(A2 s.rm++(A2 s.seq++t))))):=by
  subst g;exact⟨(BB (BB (BB d.o.1 Ϝ) Ϝ) Ϝ),(RR.set (RR.set (RR.set d.o.2 Ϝ) Ϝ) Ϝ)⟩
 replace a:Ϛ ((SB D w.heap.size [ω,ψ,ψ,ω,ψ,ψ,ω,ω,ω]/\SB D (w.heap.size+1) [vI s.L.lim,vS x.m.1.1 x.m.1.2.1 x.m.1.2.2,vS x.ra x.rs.length x.rc,ω,ψ,ψ,ω,ω,ω])/\Ae D w 38/\Ae D (w+1) 38):=by
  subst g;exact⟨⟨(SB.same (SB.same (SB.same a.o.1.1 (heap_setCell_other _ _ _ _ Ϣ) (by simp[World.setCell])) (heap_setCell_other _ _ _ _ Ϣ) (by simp[World.setCell])) (heap_setCell_other _ _ _ _ Ϣ) (by simp[World.setCell])),(SB.set (SB.set (SB.set a.o.1.2 0 _ Ϟ) 1 _ Ϟ) 2 _ Ϟ)⟩,(Ai (Ai (Ai a.o.2.1 _ _) _ _) _ _),(Ai (Ai (Ai a.o.2.2 _ _) _ _) _ _)⟩
 clear g E F M P O Q;refine(K1.o D d.o.2).mono ?_;rintro o p ⟨⟨y,rfl,J⟩,k,c⟩;replace a:Ϛ ((SB p w.heap.size [ω,ψ,ψ,ω,ψ,ψ,ω,ω,ω]/\SB p (w.heap.size+1) [vI s.L.lim,vS x.m.1.1 x.m.1.2.1 x.m.1.2.2,vS x.ra x.rs.length x.rc,ω,ψ,ψ,ω,ω,ω])/\Ae p w 38/\Ae p (w+1) 38):=⟨⟨a.o.1.1.keep c Ϝ,a.o.1.2.keep c Ϝ⟩,Ao a.o.2.1 (c.2 _ a.o.1.1.lt Ϝ),Ao a.o.2.2 (c.2 _ a.o.1.2.lt Ϝ)⟩;replace f:Ϛ (BO p w.heap.size x s.L):=f.o.keptR c d.o.2.tb;replace f:Ϛ (BO p w.heap.size x s.L/\BO p w.heap.size y s.R):=⟨f.o,J.mono Ϝ⟩;replace d:Ϛ (Ah R w p/\RR p R (A2 s.lm++(A2 s.rm++(A2 s.seq++t)))):=⟨d.o.1.trans c,k⟩;have ae:=c.1.size;have E:=a.o.1.2.cell 3 _ rfl;have F:=a.o.1.2.frz 3;have M:=a.o.1.2.cell 4 _ rfl;have P:=a.o.1.2.frz 4;have O:=a.o.1.2.cell 5 _ rfl;have Q:=a.o.1.2.frz 5;clear k c J;go_wp2_with fail;generalize g:World.setCell (World.setCell (World.setCell p _ _) _ _) _ _=q;have aj:q.heap.size=p.heap.size:=by rw[<-g];simp[World.setCell]
 replace f:Ϛ (BO q w.heap.size x s.L/\BO q w.heap.size y s.R):=by
  subst g;exact⟨(Bw (Bw (Bw f.o.1 a.o.2.2 CU _ _) (Ai a.o.2.2 _ _) CU _ _) (Ai (Ai a.o.2.2 _ _) _ _) CU _ _),(Bw (Bw (Bw f.o.2 a.o.2.2 CU _ _) (Ai a.o.2.2 _ _) CU _ _) (Ai (Ai a.o.2.2 _ _) _ _) CU _ _)⟩
 replace d:Ϛ (Ah R w q/\RR q R (A2 s.lm++(A2 s.rm++(A2 s.seq++t)))):=by
  subst g;exact⟨(BB (BB (BB d.o.1 Ϝ) Ϝ) Ϝ),(RR.set (RR.set (RR.set d.o.2 Ϝ) Ϝ) Ϝ)⟩
 replace a:Ϛ ((SB q w.heap.size [ω,ψ,ψ,ω,ψ,ψ,ω,ω,ω]/\SB q (w.heap.size+1) [vI s.L.lim,vS x.m.1.1 x.m.1.2.1 x.m.1.2.2,vS x.ra x.rs.length x.rc,vI s.R.lim,vS y.m.1.1 y.m.1.2.1 y.m.1.2.2,vS y.ra y.rs.length y.rc,ω,ω,ω])/\Ae q w 38/\Ae q (w+1) 38):=by
  subst g;exact⟨⟨(SB.same (SB.same (SB.same a.o.1.1 (heap_setCell_other _ _ _ _ Ϣ) (by simp[World.setCell])) (heap_setCell_other _ _ _ _ Ϣ) (by simp[World.setCell])) (heap_setCell_other _ _ _ _ Ϣ) (by simp[World.setCell])),(SB.set (SB.set (SB.set a.o.1.2 3 _ Ϟ) 4 _ Ϟ) 5 _ Ϟ)⟩,(Ai (Ai (Ai a.o.2.1 _ _) _ _) _ _),(Ai (Ai (Ai a.o.2.2 _ _) _ _) _ _)⟩
 clear g E F M P O Q;refine(L.o q s.lm _ d.o.2 K.o.1 (by simp only[lAp,Az];omega)).mono ?_;rintro o B ⟨rfl,k,c⟩;replace a:Ϛ ((SB B w.heap.size [ω,ψ,ψ,ω,ψ,ψ,ω,ω,ω]/\SB B (w.heap.size+1) [vI s.L.lim,vS x.m.1.1 x.m.1.2.1 x.m.1.2.2,vS x.ra x.rs.length x.rc,vI s.R.lim,vS y.m.1.1 y.m.1.2.1 y.m.1.2.2,vS y.ra y.rs.length y.rc,ω,ω,ω])/\Ae B w 38/\Ae B (w+1) 38):=⟨⟨a.o.1.1.keep c Ϝ,a.o.1.2.keep c Ϝ⟩,Ao a.o.2.1 (c.2 _ a.o.1.1.lt Ϝ),Ao a.o.2.2 (c.2 _ a.o.1.2.lt Ϝ)⟩;replace f:Ϛ (BO B w.heap.size x s.L/\BO B w.heap.size y s.R):=⟨f.o.1.keptR c d.o.2.tb,f.o.2.keptR c d.o.2.tb⟩;replace d:Ϛ (Ah R w B/\RR B R (A2 s.rm++(A2 s.seq++t))):=⟨d.o.1.trans c,k⟩;have af:=c.1.size;have E:=a.o.1.2.cell 6 _ rfl;have F:=a.o.1.2.frz 6;clear k c;go_wp2_with fail;generalize g:World.setCell B _ _=u;have ak:u.heap.size=B.heap.size:=by rw[<-g];simp[World.setCell]
 replace f:Ϛ (BO u w.heap.size x s.L/\BO u w.heap.size y s.R):=by
  subst g;exact⟨(Bw f.o.1 a.o.2.2 CU _ _),(Bw f.o.2 a.o.2.2 CU _ _)⟩
 replace d:Ϛ (Ah R w u/\RR u R (A2 s.rm++(A2 s.seq++t))):=by
  subst g;exact⟨(BB d.o.1 Ϝ),(RR.set d.o.2 Ϝ)⟩
 replace a:Ϛ ((SB u w.heap.size [ω,ψ,ψ,ω,ψ,ψ,ω,ω,ω]/\SB u (w.heap.size+1) [vI s.L.lim,vS x.m.1.1 x.m.1.2.1 x.m.1.2.2,vS x.ra x.rs.length x.rc,vI s.R.lim,vS y.m.1.1 y.m.1.2.1 y.m.1.2.2,vS y.ra y.rs.length y.rc,vI s.lm,ω,ω])/\Ae u w 38/\Ae u (w+1) 38):=by
  subst g;exact⟨⟨(SB.same a.o.1.1 (heap_setCell_other _ _ _ _ Ϣ) (by simp[World.setCell])),(SB.set a.o.1.2 6 _ Ϟ)⟩,(Ai a.o.2.1 _ _),(Ai a.o.2.2 _ _)⟩
 clear g E F;refine(L.o u s.rm _ d.o.2 K.o.2.1 (by simp only[lAp,Az];omega)).mono ?_;rintro o w4 ⟨rfl,k,c⟩;replace a:Ϛ ((SB w4 w.heap.size [ω,ψ,ψ,ω,ψ,ψ,ω,ω,ω]/\SB w4 (w.heap.size+1) [vI s.L.lim,vS x.m.1.1 x.m.1.2.1 x.m.1.2.2,vS x.ra x.rs.length x.rc,vI s.R.lim,vS y.m.1.1 y.m.1.2.1 y.m.1.2.2,vS y.ra y.rs.length y.rc,vI s.lm,ω,ω])/\Ae w4 w 38/\Ae w4 (w+1) 38):=⟨⟨a.o.1.1.keep c Ϝ,a.o.1.2.keep c Ϝ⟩,Ao a.o.2.1 (c.2 _ a.o.1.1.lt Ϝ),Ao a.o.2.2 (c.2 _ a.o.1.2.lt Ϝ)⟩;replace f:Ϛ (BO w4 w.heap.size x s.L/\BO w4 w.heap.size y s.R):=⟨f.o.1.keptR c d.o.2.tb,f.o.2.keptR c d.o.2.tb⟩;replace d:Ϛ (Ah R w w4/\RR w4 R (A2 s.seq++t)):=⟨d.o.1.trans c,k⟩;have ag:=c.1.size;have E:=a.o.1.2.cell 7 _ rfl;have F:=a.o.1.2.frz 7;clear k c;go_wp2_with fail;generalize g:World.setCell w4 _ _=A;have al:A.heap.size=w4.heap.size:=by rw[<-g];simp[World.setCell]
 replace f:Ϛ (BO A w.heap.size x s.L/\BO A w.heap.size y s.R):=by
  subst g;exact⟨(Bw f.o.1 a.o.2.2 CU _ _),(Bw f.o.2 a.o.2.2 CU _ _)⟩
 replace d:Ϛ (Ah R w A/\RR A R (A2 s.seq++t)):=by
  subst g;exact⟨(BB d.o.1 Ϝ),(RR.set d.o.2 Ϝ)⟩
 replace a:Ϛ ((SB A w.heap.size [ω,ψ,ψ,ω,ψ,ψ,ω,ω,ω]/\SB A (w.heap.size+1) [vI s.L.lim,vS x.m.1.1 x.m.1.2.1 x.m.1.2.2,vS x.ra x.rs.length x.rc,vI s.R.lim,vS y.m.1.1 y.m.1.2.1 y.m.1.2.2,vS y.ra y.rs.length y.rc,vI s.lm,vI s.rm,ω])/\Ae A w 38/\Ae A (w+1) 38):=by
  subst g;exact⟨⟨(SB.same a.o.1.1 (heap_setCell_other _ _ _ _ Ϣ) (by simp[World.setCell])),(SB.set a.o.1.2 7 _ Ϟ)⟩,(Ai a.o.2.1 _ _),(Ai a.o.2.2 _ _)⟩
 clear g E F;refine(L.o A s.seq _ d.o.2 K.o.2.2 Ϝ).mono ?_;rintro o C ⟨rfl,k,c⟩;replace a:Ϛ ((SB C w.heap.size [ω,ψ,ψ,ω,ψ,ψ,ω,ω,ω]/\SB C (w.heap.size+1) [vI s.L.lim,vS x.m.1.1 x.m.1.2.1 x.m.1.2.2,vS x.ra x.rs.length x.rc,vI s.R.lim,vS y.m.1.1 y.m.1.2.1 y.m.1.2.2,vS y.ra y.rs.length y.rc,vI s.lm,vI s.rm,ω])/\Ae C w 38/\Ae C (w+1) 38):=⟨⟨a.o.1.1.keep c Ϝ,a.o.1.2.keep c Ϝ⟩,Ao a.o.2.1 (c.2 _ a.o.1.1.lt Ϝ),Ao a.o.2.2 (c.2 _ a.o.1.2.lt Ϝ)⟩;replace f:Ϛ (BO C w.heap.size x s.L/\BO C w.heap.size y s.R):=⟨f.o.1.keptR c d.o.2.tb,f.o.2.keptR c d.o.2.tb⟩;replace d:Ϛ (Ah R w C/\RR C R (t)):=⟨d.o.1.trans c,k⟩;have ah:=c.1.size;have E:=a.o.1.2.cell 8 _ rfl;have F:=a.o.1.2.frz 8;clear k c;go_upto_region 7 with fail;generalize g:World.setCell C _ _=j;have am:j.heap.size=C.heap.size:=by rw[<-g];simp[World.setCell]
 replace f:Ϛ (BO j w.heap.size x s.L/\BO j w.heap.size y s.R):=by
  subst g;exact⟨(Bw f.o.1 a.o.2.2 CU _ _),(Bw f.o.2 a.o.2.2 CU _ _)⟩
 replace d:Ϛ (Ah R w j/\RR j R (t)):=by
  subst g;exact⟨(BB d.o.1 Ϝ),(RR.set d.o.2 Ϝ)⟩
 replace a:Ϛ ((SB j w.heap.size [ω,ψ,ψ,ω,ψ,ψ,ω,ω,ω]/\SB j (w.heap.size+1) [vI s.L.lim,vS x.m.1.1 x.m.1.2.1 x.m.1.2.2,vS x.ra x.rs.length x.rc,vI s.R.lim,vS y.m.1.1 y.m.1.2.1 y.m.1.2.2,vS y.ra y.rs.length y.rc,vI s.lm,vI s.rm,vI s.seq])/\Ae j w 38/\Ae j (w+1) 38):=by
  subst g;exact⟨⟨(SB.same a.o.1.1 (heap_setCell_other _ _ _ _ Ϣ) (by simp[World.setCell])),(SB.set a.o.1.2 8 _ Ϟ)⟩,(Ai a.o.2.1 _ _),(Ai a.o.2.2 _ _)⟩
 clear g E F;have d0:=a.o.1.2.cell 0 _ rfl;have d1:=a.o.1.2.cell 1 _ rfl;have d2:=a.o.1.2.cell 2 _ rfl;have d3:=a.o.1.2.cell 3 _ rfl;have d4:=a.o.1.2.cell 4 _ rfl;have d5:=a.o.1.2.cell 5 _ rfl;have d6:=a.o.1.2.cell 6 _ rfl;have d7:=a.o.1.2.cell 7 _ rfl;have d8:=a.o.1.2.cell 8 _ rfl;have W:Ϛ (j.there w.heap.size 0 9):=a.o.1.1.there;have H:Ϛ (RR (World.setCells j w.heap.size 0 [vI s.L.lim,vS x.m.1.1 x.m.1.2.1 x.m.1.2.2,vS x.ra x.rs.length x.rc,vI s.R.lim,vS y.m.1.1 y.m.1.2.1 y.m.1.2.2,vS y.ra y.rs.length y.rc,vI s.lm,vI s.rm,vI s.seq]) R t/\Ah R w (World.setCells j w.heap.size 0 [vI s.L.lim,vS x.m.1.1 x.m.1.2.1 x.m.1.2.2,vS x.ra x.rs.length x.rc,vI s.R.lim,vS y.m.1.1 y.m.1.2.1 y.m.1.2.2,vS y.ra y.rs.length y.rc,vI s.lm,vI s.rm,vI s.seq])/\BO (World.setCells j w.heap.size 0 [vI s.L.lim,vS x.m.1.1 x.m.1.2.1 x.m.1.2.2,vS x.ra x.rs.length x.rc,vI s.R.lim,vS y.m.1.1 y.m.1.2.1 y.m.1.2.2,vS y.ra y.rs.length y.rc,vI s.lm,vI s.rm,vI s.seq]) w.heap.size x s.L/\BO (World.setCells j w.heap.size 0 [vI s.L.lim,vS x.m.1.1 x.m.1.2.1 x.m.1.2.2,vS x.ra x.rs.length x.rc,vI s.R.lim,vS y.m.1.1 y.m.1.2.1 y.m.1.2.2,vS y.ra y.rs.length y.rc,vI s.lm,vI s.rm,vI s.seq]) w.heap.size y s.R):=
  ⟨d.o.2.sets Ϝ _ _,Ef d.o.1 Ϝ _ _,En CU _ _ _ f.o.1 a.o.2.1,En CU _ _ _ f.o.2 a.o.2.1⟩
 have m:Ϛ ((World.setCells j w.heap.size 0 [vI s.L.lim,vS x.m.1.1 x.m.1.2.1 x.m.1.2.2,vS x.ra x.rs.length x.rc,vI s.R.lim,vS y.m.1.1 y.m.1.2.1 y.m.1.2.2,vS y.ra y.rs.length y.rc,vI s.lm,vI s.rm,vI s.seq]).rangeAt w.heap.size 0 [vI s.L.lim,vS x.m.1.1 x.m.1.2.1 x.m.1.2.2,vS x.ra x.rs.length x.rc,vI s.R.lim,vS y.m.1.1 y.m.1.2.1 y.m.1.2.2,vS y.ra y.rs.length y.rc,vI s.lm,vI s.rm,vI s.seq]):=World.rangeAt_setCells_same _ _ _ _ W.o;go_wp2_with ((with_reducible refine wpList_store_mid ?_ 38 (.tmp 4) (.tmp 23) ?_ w.heap.size 0 #[vI s.L.lim,vS x.m.1.1 x.m.1.2.1 x.m.1.2.2,vS x.ra x.rs.length x.rc,vI s.R.lim,vS y.m.1.1 y.m.1.2.1 y.m.1.2.2,vS y.ra y.rs.length y.rc,vI s.lm,vI s.rm,vI s.seq] ?_ ?_ ?_ ?_ ?_ ?_);exact rfl;exact rfl;exact rfl;exact rfl;exact W.o;exact IV;exact ϥ);generalize (World.setCells j w.heap.size 0 [vI s.L.lim,vS x.m.1.1 x.m.1.2.1 x.m.1.2.2,vS x.ra x.rs.length x.rc,vI s.R.lim,vS y.m.1.1 y.m.1.2.1 y.m.1.2.2,vS y.ra y.rs.length y.rc,vI s.lm,vI s.rm,vI s.seq])=W' at m H⊢;have Z:=m.o 0 _ rfl;have z1:=m.o 1 _ rfl;have z2:=m.o 2 _ rfl;have z3:=m.o 3 _ rfl;have z4:=m.o 4 _ rfl;have z5:=m.o 5 _ rfl;have z6:=m.o 6 _ rfl;have z7:=m.o 7 _ rfl;have z8:=m.o 8 _ rfl;simp only[Nat.zero_add]at Z z1 z2 z3 z4 z5 z6 z7 z8;exact bodyPost_ret (v:=.agg #[vI s.L.lim,vS x.m.1.1 x.m.1.2.1 x.m.1.2.2,vS x.ra x.rs.length x.rc,vI s.R.lim,vS y.m.1.1 y.m.1.2.1 y.m.1.2.2,vS y.ra y.rs.length y.rc,vI s.lm,vI s.rm,vI s.seq]) (by simp[results,results75,go_sem,Z,z1,z2,z3,z4,z5,z6,z7,z8]) rfl ⟨⟨⟨x,y⟩,rfl,H.o.2.2.1,H.o.2.2.2⟩,H.o.1,H.o.2.1⟩
end cd
namespace cd
open vl bf
variable {w w' : Ϙ} {R base : Nat} {v : Value} {out : List ch.Cnt}
structure okRC(c:ch.Cnt):Prop where
 row:rowOk c.r
 n: -9223372036854775808<=c.n/\c.n<=9223372036854775807
theorem XH(R C:Nat)(x:ch.Cnt)(b:List UInt8)(w:Ϙ)(h:RR w R (BQ x++b))(t:RP w C R)(D:okRC x)(W:b.length<=60000000):
 η 80 #[μ C] w λe w'=>(∃a c,e= .returned (.agg #[vS a x.r.length c,vI x.n])/\AA w' w (vS a x.r.length c) x.r)/\RR w' R b/\Ah R w w':=by
 have E:Ϛ (∀d,RR d R (Cp x.r++(A2 x.n++b))->CT 81 #[μ R] d λe w'=>(∃a c,e= .returned (vS a x.r.length c)/\AA w' d (vS a x.r.length c) x.r)/\RR w' R (A2 x.n++b)/\Ah R d w'):=λd z=>Q9 R x.r _ d z D.row (by rw[lAp,Az];omega);have H:=hIz (λ(d:Ϙ) (z:RR d R (A2 x.n++b))=>BN R x.n b d z D.n Ϝ);have y:Ϛ (RR w R (Cp x.r++(A2 x.n++b))/\RP w C R):=⟨by unfold BQ at h;rw[append_assoc]at h;exact h,t⟩;have I:=h.lt;have S:=t.lt;obtain⟨n,F⟩:=nM x.r.length;rw[F]at E⊢;clear h D F;have B:=t.cell;clear t;go_enter func80,ntmps80;go_wp2_with fail;generalize A:(World.alloc w _)=V;have s:ϛ w V:=by rw[<-A];exact ϧ
 have f:Ϛ (SB V w.heap.size [ψ,ω]):=by
  subst A;exact SB.new w [ψ,ω] 83
 have i:Ϛ (Ah R w V/\RR V R (Cp x.r++(A2 x.n++b))/\RP V C R):=⟨Ah.of s,y.o.1.below s,y.o.2.keep (Ah.of s)⟩;have U:w.heap.size<V.heap.size:=f.o.lt;clear A s y B;refine(E.o V i.o.2.1).mono ?_;rintro o d ⟨⟨a,c,rfl,G⟩,q,j⟩;replace f:Ϛ (SB d w.heap.size [ψ,ω]):=f.o.keep j Ϝ;replace i:Ϛ (Ah R w d/\RR d R (A2 x.n++b)/\RP d C R):=⟨i.o.1.trans j,q,i.o.2.2.keep j⟩;have X:=j.1.size;have B:=i.o.2.2.cell;clear q j;have m:=hqz G;clear G;go_wp2_with fail;refine(H.o d i.o.2.1).mono ?_;rintro o k ⟨rfl,q,j⟩;replace f:Ϛ (SB k w.heap.size [ψ,ω]):=f.o.keep j Ϝ;replace m:Ϛ (AA k V (vS a n c) x.r):=As m.o (λg p=>j.2 g (A5 m.o p).2 (by have:=(A5 m.o p).1;have:=I;omega));replace i:Ϛ (Ah R w k/\RR k R b):=⟨i.o.1.trans j,q⟩;clear q j B;have M:=f.o.cell 0 _ rfl;have O:=f.o.cell 1 _ rfl;have P:=f.o.frz 0;have Q:=f.o.frz 1;have r:Ϛ (RR (φ (φ k w 0 (vS a n c)) w 1 (vI x.n)) R b/\Ah R w (φ (φ k w 0 (vS a n c)) w 1 (vI x.n))/\AA (φ (φ k w 0 (vS a n c)) w 1 (vI x.n)) w.heap.size (vS a n c) x.r):=
  ⟨(i.o.2.set Ϝ).set Ϝ,BB (BB i.o.1 nR) nR,World.ownsRow.mono (As m.o (λg p=>(heap_setCell_other _ _ _ _ (by dsimp only;have:=(A5 m.o p).1;omega)).trans (heap_setCell_other _ _ _ _ (by dsimp only;have:=(A5 m.o p).1;omega)))) Ϝ⟩
 have u:Ϛ (SB (φ (φ k w 0 (vS a n c)) w 1 (vI x.n)) w.heap.size [vS a n c,vI x.n]):=(f.o.set 0 _ Ϟ).set 1 _ Ϟ;go_wp2;generalize (World.setCell (World.setCell k _ _) _ _)=L at r u⊢;have J:=u.o.cell 0 _ rfl;have K:=u.o.cell 1 _ rfl;exact bodyPost_ret (v:=.agg #[vS a n c,vI x.n]) (by simp[results,results80,go_sem,J,K]) rfl ⟨⟨a,c,rfl,r.o.2.2⟩,r.o.1,r.o.2.1⟩
theorem VO.keptR(h:ch.VO w base v out)(d:Ah R w w')(c:Ae w R 124):ch.VO w' base v out:=
 h.other (λg a=>by
  rcases a with a|a
  ·exact d.2 g (A6 a) (tyAt_apart a c ϝ)
  ·exact d.2 g (A6 a) (tyAt_apart a c ϝ))
def VL(w:World)(base:Nat)(v:Value)(l:List (Value×Int))(out:List ch.Cnt):Prop:=l.length=out.length/\w.ownsRow base 83 2 v l.length (ch.flat l)/\∀i,i<out.length->
 (l.getD i (.bool false,0)).2=(out.getD i ϰ).n/\∃ad cap,(l.getD i (.bool false,0)).1=vS ad (out.getD i ϰ).r.length cap/\AA w base (vS ad (out.getD i ϰ).r.length cap) (out.getD i ϰ).r
theorem Zz{f:Ϙ}{v':Value}{l:List (Value×Int)}{ad:ϙ}{cap:Nat}{x:ch.Cnt}{o:Obj}(h:VL w base v l out)(C:AA w base (vS ad x.r.length cap) x.r)(A:(w.alloc o).grownBy f v.ownBlock)
 (B:f.ownsRow base 83 2 v' (l.length+1) (ch.flat (l++[(vS ad x.r.length cap,x.n)]))):VL f base v' (l++[(vS ad x.r.length cap,x.n)]) (out++[x]):=by
 obtain⟨d,y,z⟩:=h;have p:∀{u:Value} {r:List Cel},AA w base u r->AA f base u r:=λ{u r} k=>As k (λg m=>Du (bR.alloc nR o) A (A5 k m).2 (λe=>tyAt_apart (Ay k m) (Ay y e) ϝ rfl));refine⟨by rw[lAp,lAp,d];rfl,by rw[lAp];exact B,λi n=>?_⟩;rw[lAp]at n;by_cases j:i<out.length
 ·rw[AK (by rw[d];exact j),AK j];obtain⟨q,a,c,s,t⟩:=z i j;exact⟨q,a,c,s,p t⟩
 ·have:i=out.length:=by simp at n;omega
  subst this;rw[AB (by rw[d];exact Nat.le_refl _),AB nR,d,Nat.sub_self];exact⟨rfl,ad,cap,rfl,p C⟩
theorem VL.keptR{l:List (Value×Int)}(h:VL w base v l out)(k:Ah R w w')(j:Ae w R 124):VL w' base v l out:=by
 obtain⟨o,f,p⟩:=h;exact⟨o,As f (λg d=>k.2 g (A5 f d).2 (tyAt_apart (Ay f d) j ϝ)),λi q=>by
  obtain⟨m,a,c,n,e⟩:=p i q;exact⟨m,a,c,n,As e (λg d=>k.2 g (A5 e d).2 (tyAt_apart (Ay e d) j ϝ))⟩⟩
theorem NK{l:List ch.Cnt}(h:∀x∈l,okRC x):(l.flatMap BQ).length<=2000 * l.length:=by
 induction l with
 |nil=>simp
 |cons x l ih=>
  have a:=(h x (mem_cons_self ..)).row;have g:=DC x.r (λc e=>(a.2 c e).1);have i:=a.1;have d:=ih (λy f=>h y (mem_cons_of_mem _ f));rw[flatMap_cons,lAp,length_cons];unfold BQ Cp at d⊢;rw[lAp,Az,Ht];omega
theorem UY(R C:Nat)(l:List ch.Cnt)(b:List UInt8)(w:Ϙ)(h:RR w R (Cf l++b))(Z:RP w C R)(D:∀x∈l,okRC x)(hn:l.length<=10000)(hm:b.length<=10000000):
 η 79 #[μ R,.func (.func 80) #[] #[μ C]] w λe w'=>(∃a c,e= .returned (vS a l.length c)/\ch.VO w' w.heap.size (vS a l.length c) l)/\RR w' R b/\Ah R w w':=by
 have ai:=NK D;have I:Ϛ (CT 82 #[μ R] w λe w'=>e= .returned (vI l.length)/\RR w' R (l.flatMap BQ++b)/\Ah R w w'):=BN R l.length _ w (by unfold Cf at h;rw[append_assoc]at h;exact h) Ϝ (by rw[lAp];omega);have KM:=hIz (λso (d:Ϙ) (h:so=true)=>EO R so d h);have J:Ϛ (∀k,k<l.length->∀d,RR d R ((l.drop k).flatMap BQ++b)->RP d C R->CT 80 #[μ C] d λe w'=>(∃a c,e= .returned (.agg #[vS a (l.getD k ϰ).r.length c,vI (l.getD k ϰ).n])/\AA w' d (vS a (l.getD k ϰ).r.length c) (l.getD k ϰ).r)/\RR w' R ((l.drop (k+1)).flatMap BQ++b)/\Ah R d w'):=λk f d V am=>by
  rw[JW BQ l k f]at V;have h2:=NK (l:=l.drop (k+1)) (λx E=>D x (List.mem_of_mem_drop E));rw[length_drop]at h2;exact XH R C _ _ d V am (D _ (AO f)) (by rw[lAp];omega)
 have H:Ϛ (∀k,k<l.length->l.take (k+1)=l.take k++[l.getD k ϰ]):=λk f=>by
  rw[take_succ_eq_append_getElem f];simp[gDe,f]
 have ah:=hqz Z;obtain⟨s,A,ac,ae,af⟩:=info_parts ch.Kl;have t:Ϛ (Tryz.prog.info? 83=some s/\s.zero=some (.agg #[ψ,ω])/\s.size=2/\s.bytes=32):=⟨A,ac,ae,af⟩;obtain⟨n,P⟩:=nM l.length;have G:=hqz P;rw[P]at I J H hn⊢;clear h Z D ai P A ac ae af;go_enter func79,ntmps79;go_wp2_with fail;refine I.o.mono ?_;rintro e d ⟨rfl,aa,W⟩;have U:Ϛ (RR d R (l.flatMap BQ++b)/\Ah R w d):=⟨aa,W⟩;have ap:(0:Int)<=(n:Int):=Ϝ;clear aa W I;go_wp2_with (go_at_call 139;refine(KM.o _ _ Ϟ).mono ?_;rintro e w2 ⟨rfl,rfl⟩)
 go_loopw [6,14] (λv i wr=> ∃(k:Nat) (ps:List (Value×Int)),k<=n/\i=vI k/\VL wr w.heap.size v ps (l.take k)/\RR wr R ((l.drop k).flatMap BQ++b)/\Ah R w wr) (λ_ i _=>n - (intOf i).toNat)
 case atStart=>exact⟨0,[],Nat.zero_le _,rfl,⟨rfl,World.ownsRow_nil _ _ _ _,λi A=>absurd A (Nat.not_lt_zero i)⟩,by rw[List.drop_zero];exact U.o.1,U.o.2⟩
 case round=>
  obtain⟨k,ps,aq,rfl,j,p,r⟩:=hrel;have M:ps.length=k:=by rw[j.1,length_take,G.o];omega
  by_cases X:k<n
  ·have K:=J.o k X wr p (ah.o.keep r);have S:Ϛ (l.take (k+1)=l.take k++[l.getD k ϰ]):=H.o k X;obtain⟨x,E⟩:=nM (l.getD k ϰ);rw[E]at K S;obtain⟨m,O⟩:=nM x.r.length;have Q:=hqz O;rw[O]at K;have q:Ϛ (VL wr w.heap.size u6 ps (l.take k)/\Ae wr R 124):=⟨j,p.tb⟩;have F:=hqz r;have i1:(0:Int)<=(k:Int):=Ϝ;have i2:(k:Int)<(n:Int):=Ϝ;have KH:Ϛ (CT 80 #[μ C] wr λe w'=>(∃a c,e= .returned (.agg #[vS a m c,vI x.n])/\AA w' wr (vS a m c) x.r)/\RR w' R ((l.drop (k+1)).flatMap BQ++b)/\Ah R wr w'):=K;clear E O j p r K J H;go_wp2_with fail;refine KH.o.mono ?_;rintro e o ⟨⟨a,c,rfl,Y⟩,ab,B⟩;have y:Ϛ (VL o w.heap.size u6 ps (l.take k)):=q.o.1.keptR B q.o.2;have z:Ϛ (AA o w (vS a m c) x.r/\RR o R ((l.drop (k+1)).flatMap BQ++b)/\Ah R w o):=⟨World.ownsRow.mono Y F.o.1.size,ab,F.o.trans B⟩;have ao:w.heap.size<=o.heap.size:=Nat.le_trans F.o.1.size B.1.size;have ag:Ϛ (o.ownsRow w 83 2 u6 k (ch.flat ps)):=by
    have:=y.o.2.1;rw[M]at this;exact this
   clear Y ab B;go_wp2_with (at_builtin;refine wpList_append_own _ rfl (.tmp 16) (.tmp 19) 40 rfl w.heap.size 83 s (.agg #[ψ,ω]) 2 32 underlying40 t.o.1 t.o.2.1 t.o.2.2.1 t.o.2.2.2 rfl ϝ _ _ _ rfl (World.ownsRow.alloc ag.o _) ⟨o,0,none⟩ 1 1 [vS a m c,vI x.n] rfl rfl (cell_two_new _ _ _ _) (by intro u hu;simp at hu;rcases hu with rfl|rfl<;>rfl) Ϧ Ϝ ϡ ?_;intro v4 w4 al L _);have hs:=Zz (v':=v4) (ad:=a) (cap:=c) (x:=x) y.o (by rw[Q.o];exact z.o.1) L (by rw[M,ch.Hm,Q.o];exact al);have ak:u6.ownBlock≠some R:=λe=>tyAt_apart z.o.2.1.tb (Ay y.o.2.1 e) ϝ rfl;have an:=z.o.2.1.grown L ak;have aj:=GO z.o.2.2 L (λg e=>(A5 y.o.2.1 e).1);go_wp2;go_roundw
   case rel=>exact⟨k+1,ps++[(vS a x.r.length c,x.n)],Ϝ,by go_num,by rw[S.o];exact hs,an,aj⟩
   case measure=>simp[intOf];omega
  ·have f:k=n:=Ϝ;subst f;have i2:¬((k:Int)<(k:Int)):=Ϝ;rw[take_of_length_le (by rw[G.o];exact Nat.le_refl _)]at j;rw[drop_of_length_le (by rw[G.o];exact Nat.le_refl _)]at p;obtain⟨a,c,hv⟩:=Oi j.2.1;rw[M]at hv;have q:Ϛ (ch.VO wr w.heap.size u6 l/\RR wr R b/\Ah R w wr):=⟨⟨ps,j⟩,p,r⟩;clear j p r;subst hv;go_wp2;go_ret;exact⟨⟨a,c,rfl,q.o.1⟩,q.o.2⟩
theorem Sl(R:Nat)(f:Value)(b:List UInt8)(w:Ϙ)(h:RR w R (A2 0++b))(o:b.length<=10000000):
 η 76 #[μ R,f] w λe w'=>e= .returned (vS none 0 0)/\RR w' R b/\Ah R w w':=by
 have g:Ϛ (CT 82 #[μ R] w λe w'=>e= .returned (vI 0)/\RR w' R b/\Ah R w w'):=BN R 0 b w h ϝ Ϝ;have d:=hIz (λa (c:Ϙ) (h:a=true)=>EO R a c h);clear h;go_enter func76,ntmps76;go_wp2_with fail;refine g.o.mono ?_;rintro e c ⟨rfl,n,m⟩;go_wp2_with (go_at_call 139;refine(d.o _ _ Ϟ).mono ?_;rintro e p ⟨rfl,rfl⟩)
 go_loopw [6,14] (λv i wr=>v=vS none 0 0/\i=vI 0/\RR wr R b/\Ah R w wr) (λ_ i _=>0)
 case atStart=>exact⟨rfl,rfl,n,m⟩
 case round=>
  obtain⟨rfl,rfl,j,k⟩:=hrel;go_wp2;go_ret;exact⟨rfl,j,k⟩
end cd
namespace cd
open vl bf jn
variable {w : Ϙ}
def Eo(e:Eng):List UInt8:=Gq e.j++A2 0++Cf e.v
theorem Kz{w':Ϙ}{b:Nat}{e:Eng}{y:EX}(h:Bn w b e y/\Ae w b 42)(a:keepW w w'):Bn w' b e y/\Ae w' b 42:=
 ⟨It h.1 (a.2 b _ h.2 ϝ ϝ),Ao h.2 (a.2 b _ h.2 ϝ ϝ)⟩
theorem Sm(d:Ϙ)(B:Nat)(i:List UInt8)(e:Eng)(y:EX)(w:Ϙ)(r:ϛ d w)(h:WR w d.heap.size B i)(ha:enAt d e y)(H:okBW e.j.L)(I:okBW e.j.R)(J:∀c∈e.v,okC c)(K:e.v.length<=10000)(G:i.length+(Gq e.j).length<=39000000):
 η 28 #[μ B,enV e y] w (WO d.heap.size B w (i++Eo e)):=by
 have A:=hIz (λ(a:Ϙ) (m:ϛ d a) (k:WR a d.heap.size B i)=>XG d B i e.j y.y a m k ha.j H I G);have O:Ϛ (∀f a,d.heap.size<=a.heap.size->WR a d.heap.size B (i++Gq e.j)->CT 54 #[μ B,ψ,f] a (WO d.heap.size B a (i++Gq e.j++A2 0))):=λf a m k=>Vo d.heap.size B _ f a m k (by rw[lAp];omega);have KV:Ϛ (∀C a,ϛ d a->WR a d.heap.size B (i++Gq e.j++A2 0)->WP a C B->CT 57 #[μ B,vS y.va e.v.length y.vc,.func (.func 58) #[] #[μ C]] a (WO d.heap.size B a (i++Eo e))):=λC a m k Q=>by
  have:=XV d C B _ y.va y.vc e.v a m k Q ha.v J K (by simp only[lAp,Az];omega);unfold Eo;simp only[append_assoc]at this⊢;exact this
 rw[AP]at A;rw[Cq];clear ha H I J K G;go_enter func28,ntmps28;go_wp2_with fail;generalize q:(World.alloc (World.alloc w _) _)=V;have s:ϛ w V:=by rw[<-q];exact ϧ.alloc Ϟ _
 have n:Ϛ (Bn V (w.heap.size+1) e y/\Ae V (w+1) 42):=by
  subst q;have k:=Cg (ξ w #[μ B] 66) e y 42;have D:=World.alloc_heap_new (ξ w #[μ B] 66) (.cells #[vI e.j.L.lim,vS y.y.l.m.1.1 y.y.l.m.1.2.1 y.y.l.m.1.2.2,vS y.y.l.ra y.y.l.rs.length y.y.l.rc,vI e.j.R.lim,vS y.y.r.m.1.1 y.y.r.m.1.2.1 y.y.r.m.1.2.2,vS y.y.r.ra y.y.r.rs.length y.y.r.rc,vI e.j.lm,vI e.j.rm,vI e.j.seq,ψ,vS y.va e.v.length y.vc] 42);rw[World.size_alloc]at k D;exact⟨k,_,_,D⟩
 have j:Ϛ (WP V w.heap.size B):=by
  subst q;exact⟨Ad ⟨_,_,World.alloc_heap_new _ _⟩ ϧ,Ϡ⟩
 have g:Ϛ (keepW w V/\Below d.heap.size w V):=⟨keepW.of s,s.mono r.size⟩;have E:ϛ d V:=r.trans g.o.2;have L:WR V d.heap.size B i:=h.below s;clear q s h;obtain⟨u0,u1,u2,u3,u4,u5,u6,u7,u8,u9,u10⟩:=n.o.1;have z:=j.o.2;refine(A.o V E L).mono ?_;rintro o a ⟨rfl,M,m,t⟩;replace n:Ϛ (Bn a (w.heap.size+1) e y/\Ae a (w+1) 42):=Kz n.o t;replace j:Ϛ (WP a w.heap.size B):=j.o.keep t;replace g:Ϛ (keepW w a/\Below d.heap.size w a):=⟨g.o.1.trans t,g.o.2.trans m⟩;clear u0 u1 u2 u3 u4 u5 u6 u7 u8 u9 u10 z L E t m;obtain⟨u0,u1,u2,u3,u4,u5,u6,u7,u8,u9,u10⟩:=n.o.1;have z:=j.o.2;go_wp2_with fail;refine(O.o _ a (r.trans g.o.2).size M).mono ?_;rintro o p ⟨rfl,U,F,u⟩;replace n:Ϛ (Bn p (w.heap.size+1) e y/\Ae p (w+1) 42):=Kz n.o u;replace j:Ϛ (WP p w.heap.size B):=j.o.keep u;replace g:Ϛ (keepW w p/\Below d.heap.size w p):=⟨g.o.1.trans u,g.o.2.trans F⟩;clear u0 u1 u2 u3 u4 u5 u6 u7 u8 u9 u10 z M u F;obtain⟨u0,u1,u2,u3,u4,u5,u6,u7,u8,u9,u10⟩:=n.o.1;have z:=j.o.2;go_wp2_with fail;refine(KV.o _ p (r.trans g.o.2) U j.o).mono ?_;rintro o X ⟨rfl,W,P,S⟩;go_wp2
 go_end0
 exact⟨rfl,W,g.o.2.trans P,g.o.1.trans S⟩
theorem UZ(base B:Nat)(a:List UInt8)(w:Ϙ)(h:WR w base B a):
 η 29 #[μ B] w λo w'=>o= .returned (.string ⟨a.toArray⟩)/\w'=w:=by
 obtain⟨v,d,c⟩:=h.cell;have e:=IZ c;clear h;go_enter func29,ntmps29;go_wp2;go_ret;exact⟨rfl,rfl⟩
theorem Sn(w:Ϙ):WR (ξ w #[ψ] 64) w.heap.size w.heap.size []:=
 ⟨⟨vS none 0 0,Ϡ,World.ownsRow_nil _ _ _ _⟩,Ϡ,⟨_,_,World.alloc_heap_new _ _⟩,Nat.le_refl _⟩
theorem WR.mono{base base' B:Nat}{a:List UInt8}(h:WR w base B a)(c:base'<=base):WR w base' B a:=by
 obtain⟨v,d,e⟩:=h.cell;exact⟨⟨v,d,World.ownsRow.mono e c⟩,h.frz,h.tb,Nat.le_trans c h.low⟩
theorem Va(p:pl.Pln)(x:pl.PA)(e:Eng)(y:EX)(w:Ϙ)(I:pl.wfPlan p)(G:pl.planAt w p x)(A:p.grouped=false)(ha:enAt w e y)(J:wfEn e)(s:CV p e=0)(C:okBW e.j.L)(D:okBW e.j.R)(F:∀c∈e.v,okC c)(H:e.v.length<=10000)(q:(Eo e).length<=1048576):
 η 16 #[pl.Aq p x,enV e y] w (θ w (.tuple #[.string ⟨(Eo e).toArray⟩,ω])):=by
 have g:Ϛ (∀a,ϛ w a->CT 27 #[pl.Aq p x,enV e y] a (θ a (vI 0))):=λa h=>by
  have:=Iy p x e y a I (pl.Ag G h) A (ha.below h) J;rw[s]at this;exact this
 have k:Ϛ (∀B a,ϛ w a->WR a w.heap.size B []->CT 28 #[μ B,enV e y] a (WO w.heap.size B a (Eo e))):=λB a h d=>by
  have:=Sm w B [] e y a h d ha C D F H (by unfold Eo at q;simp only[lAp]at q;simp;omega);rw[nil_append]at this;exact this
 have r:Ϛ (∀B a,WR a w.heap.size B (Eo e)->CT 29 #[μ B] a λo w'=>o= .returned (.string ⟨(Eo e).toArray⟩)/\w'=a):=λB a d=>UZ _ B _ a d;obtain⟨E,u⟩:=nM (Eo e);rw[u]at k r q⊢;clear u I G A ha J s C D F H;unfold pl.Aq at g⊢;rw[Cq]at g k⊢;go_enter func16,ntmps16;go_wp2_with fail;generalize m:(World.alloc (World.alloc w _) _)=V;have n:ϛ w V:=by rw[<-m];exact ϧ.alloc Ϟ _
 have f:Ϛ (Bn V (w.heap.size+1) e y/\Ae V (w+1) 42):=by
  subst m;have d:=Cg (ξ w (Φ p x) 32) e y 42;have t:=World.alloc_heap_new (ξ w (Φ p x) 32) (.cells #[vI e.j.L.lim,vS y.y.l.m.1.1 y.y.l.m.1.2.1 y.y.l.m.1.2.2,vS y.y.l.ra y.y.l.rs.length y.y.l.rc,vI e.j.R.lim,vS y.y.r.m.1.1 y.y.r.m.1.2.1 y.y.r.m.1.2.2,vS y.y.r.ra y.y.r.rs.length y.y.r.rc,vI e.j.lm,vI e.j.rm,vI e.j.seq,ψ,vS y.va e.v.length y.vc] 42);rw[World.size_alloc]at d t;exact⟨d,_,_,t⟩
 clear m;refine(g.o V n).mono ?_;rintro o a ⟨rfl,i⟩;have j:ϛ w a:=bT n i;replace f:Ϛ (Bn a (w.heap.size+1) e y/\Ae a (w+1) 42):=⟨AH f.o.1 i,Ad f.o.2 i⟩;clear i n g;obtain⟨u0,u1,u2,u3,u4,u5,u6,u7,u8,u9,u10⟩:=f.o.1;have P:=Ln f.o.1;go_wp2_with fail;have z:ϛ a (ξ a #[ψ] 64):=ϧ;refine(k.o _ _ (bT j z) ((Sn a).mono j.size)).mono ?_;rintro o Q ⟨rfl,L,K,M⟩;go_wp2_with fail;refine(r.o _ _ L).mono ?_;rintro o S ⟨rfl,rfl⟩;have O:((⟨E.toArray⟩:ByteArray).size:Int)<=1048576:=by
  show((E.toArray.size:Nat):Int)<=_;rw[size_toArray];omega
 go_wp2
 go_ret2
 exact⟨rfl,j.trans ((z.mono j.size).trans K)⟩
end cd
end Go.Proofs.YtfkihidbnfkbaaaGreatDoor
