import Derived.Test.YtfkihidbnfkbaaaGreatDoorPv17
set_option linter.all false
set_option maxHeartbeats 8000000
set_option maxRecDepth 100000
open Go.ChangeShapes Go.WideShapes Go.ChangeAt Go.RowKit List
open Inhabited renaming default->ϰ
namespace Go.Proofs.YtfkihidbnfkbaaaGreatDoor
open Go.Proofs.Tryz
namespace bf
open vl
variable {W W1 W2 : Ϡ} {o : Obj} {C NB base g : Nat} {x : BX} {b : Buf}
theorem LL{r:Option Nat}(a:(W1.alloc o).grownBy W2 r):W1.heap.size<=W2.heap.size/\∀k,k<W1.heap.size->r≠some k->W2.heap[k]? =W1.heap[k]? :=
 ⟨by have:=a.size;simp at this;omega,λk c d=>by
  rw[a.block k ϩ (λe=>d e.symm)];exact Below.heap_alloc _ _ k c⟩
theorem AdG(h:PSt W C NB base x b)(f:ϣ W W1)(l:(W1.alloc o).grownBy W2 (hdV x.m.1).ownBlock):
 Δ W2 NB 1 (hdV x.m.1)/\Ξ W2 NB 1:=by
 have c:=h.below f;obtain⟨hs,m⟩:=LL l;obtain⟨d,q⟩:=O7 c hs m;exact⟨(cOb (a:=⟨NB,1,none⟩) d).trans c.k.c1,(Bc (p:=⟨NB,1,none⟩) d).trans c.f1⟩
theorem AdH{c4:Nat}{e:EM}{y:Ent}(h:PSt W C NB base x b)(m:ϣ W W1)(J:OR W1 base e y)
 (I:W2.ownsRow base 166 5 (vS (ϋ g) (x.m.2.length+1) c4) (x.m.2.length+1) (Aw x.m.2++[.string e.key,vI e.time,vI e.seq,hdV e.row,.bool e.met])) (q:(W1.alloc o).grownBy W2 (hdV x.m.1).ownBlock) (F:(hdV x.m.1).ownBlock=some g\/g=W1.heap.size+1):
 PSt (ό W2 NB 1 (vS (ϋ g) (x.m.2.length+1) c4)) C NB base ⟨x.ra,x.rc,((some ⟨g,0,none⟩,x.m.2.length+1,c4),x.m.2++[e]),x.rs⟩ ⟨b.lim,b.mem++[y],b.runs⟩/\Below base W (ό W2 NB 1 (vS (ϋ g) (x.m.2.length+1) c4)):=by
 have c:=h.below m;obtain⟨hs,r⟩:=LL q;obtain⟨f,B⟩:=O7 c hs r;have s:=Lu h.k.ob.mem m J I q;have E:OB W2 base ⟨x.ra,x.rc,((some ⟨g,0,none⟩,x.m.2.length+1,c4),x.m.2++[e]),x.rs⟩ ⟨b.lim,b.mem++[y],b.runs⟩:=Ace c.k.ob s.1 hs r (λD G=>by
  have:g=D:=by cases G;rfl
  subst this;rcases F with l|l
  ·exact .inl l
  ·exact .inr Ϥ)
 have z:=Aq c.k.ty f;have K:=(cOb (a:=⟨NB,0,none⟩) f).trans c.k.c0;have A:=(cOb (a:=⟨NB,1,none⟩) f).trans c.k.c1;have L:=(cOb (a:=⟨NB,2,none⟩) f).trans c.k.c2;have M:=(Bc (p:=⟨NB,1,none⟩) f).trans c.f1;have N:=(Bc (p:=⟨NB,2,none⟩) f).trans c.k.f2;have H:=h.k.ne;have d:∀u,(W2.setCell ⟨NB,1,none⟩ u).heap[C]? =W1.heap[C]? :=λu=>(heap_setCell_other _ _ _ _ Ϫ).trans B;refine⟨⟨⟨LR E z _ _,?_,World.cell?_setCell_same _ _ _ A,?_,?_,Ao z _ _,(cOb (a:=⟨C,0,none⟩) (d _)).trans c.k.r0,(cOb (a:=⟨C,1,none⟩) (d _)).trans c.k.r1,(cOb (a:=⟨C,2,none⟩) (d _)).trans c.k.r2,(Bc (p:=⟨C,0,none⟩) (d _)).trans c.k.g0,(Bc (p:=⟨C,1,none⟩) (d _)).trans c.k.g1,(Bc (p:=⟨C,2,none⟩) (d _)).trans c.k.g2,Aq c.k.rt (d _),H,h.k.up⟩,?_⟩,?_⟩
 ·dsimp only;go_simp
 ·dsimp only;go_simp
 ·go_simp
 ·go_simp
 ·have:=h.k.up;exact s.2.setCell Ϫ _
theorem Te(h:PSt W C NB base x b)(d:(W.alloc o).grownBy W2 (Value.slice x.ra x.rs.length x.rc).ownBlock):
 W2.heap.size≥W.heap.size/\W2.heap[NB]? =W.heap[NB]? /\W2.heap[C]? =W.heap[C]? /\(∀k,Ah W k 166\/Ah W k 119->W2.heap[k]? =W.heap[k]?):=by
 obtain⟨hs,f⟩:=LL d;have c:∀k t,Ah W k t->t≠33->W2.heap[k]? =W.heap[k]? :=λk t a l=>f k (AH a) (λe=>tyAt_apart (A9 h.k.ob.hds e) a (λe=>l e.symm) rfl);exact⟨hs,c _ _ h.k.ty ϥ,c _ _ h.k.rt ϥ,λk a=>by rcases a with a|a;exact c _ _ a ϥ;exact c _ _ a ϥ⟩
theorem Abg{cap2:Nat}(h:PSt W C NB base x b)
 (E:W2.ownsRow base 33 1 (vS (ϋ g) (x.rs.length+1) cap2) (x.rs.length+1) ((x.rs.map λp=>hdV p.1)++[hdV x.m.1])) (m:(W.alloc o).grownBy W2 (Value.slice x.ra x.rs.length x.rc).ownBlock):
 PSt (ό (ό W2 NB 2 (vS (ϋ g) (x.rs.length+1) cap2)) NB 1 (vS none 0 0)) C NB base ⟨some ⟨g,0,none⟩,cap2,((none,0,0),[]),x.rs++[x.m]⟩ ⟨b.lim,[],b.runs++[b.mem]⟩/\Below base W (ό (ό W2 NB 2 (vS (ϋ g) (x.rs.length+1) cap2)) NB 1 (vS none 0 0)):=by
 obtain⟨hs,f,r,A⟩:=Te h m;have s:=Aeq h.k.ob E hs A;have l:=Aq h.k.ty f;have F:=(cOb (a:=⟨NB,0,none⟩) f).trans h.k.c0;have G:=(cOb (a:=⟨NB,1,none⟩) f).trans h.k.c1;have H:=(cOb (a:=⟨NB,2,none⟩) f).trans h.k.c2;have I:=(Bc (p:=⟨NB,1,none⟩) f).trans h.f1;have J:=(Bc (p:=⟨NB,2,none⟩) f).trans h.k.f2;have D:=h.k.ne;have d:∀u q,((W2.setCell ⟨NB,2,none⟩ u).setCell ⟨NB,1,none⟩ q).heap[C]? =W.heap[C]? :=λu q=>(heap_setCell_other _ _ _ _ Ϫ).trans ((heap_setCell_other _ _ _ _ Ϫ).trans r);refine⟨⟨⟨LR (LR s l _ _) (Ao l _ _) _ _,?_,?_,?_,?_,Ao (Ao l _ _) _ _,(cOb (a:=⟨C,0,none⟩) (d _ _)).trans h.k.r0,(cOb (a:=⟨C,1,none⟩) (d _ _)).trans h.k.r1,(cOb (a:=⟨C,2,none⟩) (d _ _)).trans h.k.r2,(Bc (p:=⟨C,0,none⟩) (d _ _)).trans h.k.g0,(Bc (p:=⟨C,1,none⟩) (d _ _)).trans h.k.g1,(Bc (p:=⟨C,2,none⟩) (d _ _)).trans h.k.g2,Aq h.k.rt (d _ _),D,h.k.up⟩,?_⟩,?_⟩
 ·dsimp only;go_simp
 ·unfold hdV;dsimp only;go_simp
 ·dsimp only;rw[lAp];go_simp
 ·go_simp
 ·go_simp
 ·have:=h.k.up;have B:=h.k.ob.low;have y:Below base W W2:=(bR.alloc B o).grown m ϩ (λc z=>(AL h.k.ob.hds z).1);exact(y.setCell Ϫ _).setCell Ϫ _
theorem Y4{N:Array Oper}{o:Oper}{a:Act}{K:Act->World->Prop}{Q:Exit->Act->World->Prop}{E:Prop}(A:o.guard=none)(s x:Operand)
 (F:o.op= .call {callee:=.builtin .append,args:=#[s,x],argTypes:=#[33,33]})
 (base:Nat) (v:Value) (L:List EM) (f:ByteArray) (p m:Int) (ad:ϡ) (q cap:Nat) (l:Bool) (c:Ϡ) (d:Nat) (D:c.ownsRow base 166 5 v d (Aw L)) (P:d<=1000000) (O:base<=c.heap.size)
 (hs:a.eval s=v) (G:a.eval x=vS (ϋ c) 1 1)
 (h:∀g y r,r.ownsRow base 166 5 (vS (ϋ g) (d+1) y) (d+1) (Aw L++[.string f,vI p,vI m,vS ad q cap,.bool l])->(c.alloc (.cells (φ f p m ad q cap l) 166)).grownBy r v.ownBlock->(v.ownBlock=some g\/g=c.heap.size+1)->g<r.heap.size->K (a.put o.dst (vS (ϋ g) (d+1) y)) r):
 if Region.wanted o (yielded N a.tmps)=true then Oper.wp Tryz.prog o a (ϊ c (φ f p m ad q cap l) 166) K Q else E:=by
 obtain⟨M,B,H,I,J⟩:=info_parts Ue;exact step_append_lies _ A s x 33 F base 166 M (.agg #[ϐ,Ϗ,Ϗ,ώ,ϑ]) 5 64 underlying33 B H I J rfl ϥ v d (Aw L) hs
  (D.alloc _) ⟨c,0,none⟩ 1 1 [.string f,vI p,vI m,vS ad q cap,.bool l] G rfl (Er _ _ _ _ _ _ _) (by intro u z;simp at z;rcases z with rfl|rfl|rfl|rfl|rfl<;>rfl) ϥ Ϯ Ϥ ϩ (c.heap.size+1) Ϧ h
end bf
namespace bf
open vl
attribute [local go_sem] Oper.semAt_some
def Is(b:Buf)(l:List Ent):Buf:=if b.lim<(l.length:Int)then⟨b.lim,[],b.runs++[l]⟩else⟨b.lim,l,b.runs⟩
theorem Afg(b:Buf)(x:BX)(e:EM)(y:Ent)(w:Ϡ)(h:bufAt w b x)(hw:∀y∈Ab b,wfE y/\wfP (AK y))(hs:(Ab b).length<=4611686018427387904)(he:DK b=0)(hr:ER w e y)(hy:wfE y)(hf:Dv y=true)(hh:hasB (Ab b) (AK y)=false)(hm:(Ab b).length≠4096):
 χ 345 #[B5 b x,e.val] w λr w'=>(∃x' l',r= .returned (.tuple #[B5 (Is b l') x',Ϗ])/\l'.Perm (b.mem++[y])/\Pw l'/\OB w' w x' (Is b l'))/\ϣ w w':=by
 have KC:Ϣ (∀f,ϣ w f->CT 100 #[B5 b x] f (ψ f (vI 0))):=λf L=>by
  have:=Bi b x f (Ar h L) hw hs;rwa[he]at this
 have KE:Ϣ (∀f,ϣ w f->CT 271 #[e.val] f (ψ f (.bool true))):=λf L=>by
  have:=IL e y f (hr.below L) hy;rwa[hf]at this
 have KP:=hIz (λ(f:Ϡ)=>IK e f);have KH:Ϣ (∀f,ϣ w f->CT 350 #[B5 b x,.agg #[.string e.key,vI e.time,vI e.seq]] f (ψ f (.bool false))):=λf L=>by
  have k:=Aen b x (AK y) f (Ar h L);rw[hh]at k;unfold BW AK at k;rw[<-hr.key,<-hr.time,<-hr.seq]at k;exact k
 have KS:=hIz (λ(f:Ϡ) (L:ϣ w f)=>O3 b x f (Ar h L) hs);have bb:=Fx he;have ai:=bb.small;have bv:=ai.1 b.mem (mem_cons_self ..);have KK:Ϣ (∀f,ϣ w f->CT 253 #[B5 b x,.func (.func 254) #[] #[]] f λr w'=>(∃x',r= .returned (B5 b x')/\OB w' f x' b)/\ϣ f w'):=λf L=>by
  have k:=Lb 254 (enters_of func254 ϧ rfl) #[] (λ_=>true) b x f (Ar h L) ai.1 ai.2.1 ai.2.2 (λe y Q _ _ _=>by rw[Array.append_empty];exact JN e Q);rw[JZ bb]at k;exact k
 have b1:y.row.length<=1000000:=by
  have h1:=(Md.1 hf).2.1;unfold Au at h1;by_cases h8:8<y.row.length
  ·rw[if_pos h8]at h1;cases h1
  ·omega
 have KF:=hIz (λ(f:Ϡ) (L:ϣ w f)=>Hc e y f (hr.below L) b1);have au:=hV0 hr;obtain⟨N,hN⟩:=nM ((Ab b).length);rw[hN]at KS hm;have dm:((N:Int)==4096)=false:=by simpa using(λh=>hm Ϥ:¬(N:Int)=4096)
 have cd:=hV0 bv;have bw:b.runs.length<=100000:=ai.2.1;have cg:=hV0 bw;clear h hw hs he hr hy hf hh hm bb ai bv hN b1 bw;obtain⟨ra,rc,⟨⟨m1,m2,m3⟩,ml⟩,rs⟩:=x;obtain⟨d,ab,P⟩:=b;obtain⟨H,K,J,⟨r1,r2,r3⟩,I⟩:=e;rw[show B5 ⟨d,ab,P⟩ ⟨ra,rc,((m1,m2,m3),ml),rs⟩= .agg #[vI d,vS m1 m2 m3,vS ra rs.length rc]from rfl]at KC KH KS KK⊢;unfold EM.val EM.to hdV at KF;unfold EM.val hdV at KE KP⊢;dsimp only at KE KP KH KF⊢;obtain⟨n,hn⟩:∃n,rs.length=n:=⟨_,rfl⟩;rw[hn]at KC KH KS KK⊢;clear hn;obtain⟨rl,bc⟩:=nM y.row.length;have cj:=hV0 bc;rw[bc]at KF;clear bc;have bk:ϣ w (ϊ (ϊ (ϊ w (τ d m1 m2 m3 ra n rc) 36) (φ H K J r1 r2 r3 I) 166) #[Ϗ,ώ,ώ] 36):=by
  repeat (first|exact bR|(refine Below.alloc ?_ ϫ _))
 have aw:=La (ϊ (ϊ w (τ d m1 m2 m3 ra n rc) 36) (φ H K J r1 r2 r3 I) 166);rw[World.size_alloc,World.size_alloc]at aw;have cf:Ϣ (nbAt (ϊ (ϊ (ϊ w (τ d m1 m2 m3 ra n rc) 36) (φ H K J r1 r2 r3 I) 166) #[Ϗ,ώ,ώ] 36) (w.heap.size+1+1)):=aw;clear aw;go_enter func345,ntmps345;go_wp2_with (first
  |(go_at_call 100;refine(KC.o _ bk).mono ?_;rintro e Q ⟨rfl,R⟩;have bq:ϣ w Q:=bT bk R;have c7:=C6 R cf.o;have k0:Δ Q w 0 (vI d):=cLz R Ϩ;have k1:Δ Q w 1 (vS m1 m2 m3):=cLz R Ϩ;have k2:Δ Q w 2 (vS ra n rc):=cLz R Ϩ;have d0:Δ Q (w+1) 0 (.string H):=cLz R Ϩ;have d1:Δ Q (w+1) 1 (vI K):=cLz R Ϩ;have d2:Δ Q (w+1) 2 (vI J):=cLz R Ϩ;have d3:Δ Q (w+1) 3 (vS r1 r2 r3):=cLz R Ϩ;have d4:Δ Q (w+1) 4 (.bool I):=cLz R Ϩ)
  |(go_at_call 271;refine(KE.o _ bq).mono ?_;rintro e w3 ⟨rfl,S⟩;have b8:=C6 S c7;have br:ϣ w w3:=bT bq S;have ds:Δ w3 w 0 (vI d):=cLz S k0;have dt:Δ w3 w 1 (vS m1 m2 m3):=cLz S k1;have du:Δ w3 w 2 (vS ra n rc):=cLz S k2;have cn:Δ w3 (w+1) 0 (.string H):=cLz S d0;have co:Δ w3 (w+1) 1 (vI K):=cLz S d1;have cq:Δ w3 (w+1) 2 (vI J):=cLz S d2;have cr:Δ w3 (w+1) 3 (vS r1 r2 r3):=cLz S d3;have cs:Δ w3 (w+1) 4 (.bool I):=cLz S d4))
 go_region_law (first
  |(go_simp;go_at_call 275;refine(KP.o _).mono ?_;rintro e w4 ⟨rfl,T⟩;have bn:ϣ w w4:=br.drew.trans (T.mono br.size);have b9:=C6 T (MM b8);have v0:Δ w4 (w+1) 0 (.string H):=cLz T cn;have v1:Δ w4 (w+1) 1 (vI K):=cLz T co;have v2:Δ w4 (w+1) 2 (vI J):=cLz T cq;have v3:Δ w4 (w+1) 3 (vS r1 r2 r3):=cLz T cr;have v4:Δ w4 (w+1) 4 (.bool I):=cLz T cs;have u0:Δ w4 w 0 (vI d):=cLz T Ϩ;have u1:Δ w4 w 1 (vS m1 m2 m3):=cLz T Ϩ;have u2:Δ w4 w 2 (vS ra n rc):=cLz T Ϩ)
  |(go_simp;go_at_call 350;refine(KH.o _ bn).mono ?_;rintro e w5 ⟨rfl,U⟩;have ca:=C6 U b9;have bo:ϣ w w5:=bT bn U;have x0:Δ w5 (w+1) 0 (.string H):=cLz U v0;have x1:Δ w5 (w+1) 1 (vI K):=cLz U v1;have x2:Δ w5 (w+1) 2 (vI J):=cLz U v2;have x3:Δ w5 (w+1) 3 (vS r1 r2 r3):=cLz U v3;have x4:Δ w5 (w+1) 4 (.bool I):=cLz U v4;have s0:Δ w5 w 0 (vI d):=cLz U Ϩ;have s1:Δ w5 w 1 (vS m1 m2 m3):=cLz U Ϩ;have s2:Δ w5 w 2 (vS ra n rc):=cLz U Ϩ))
 all_goals
  go_wp2_with (first
   |(go_at_call 232;refine(KS.o _ bo).mono ?_;rintro e w6 ⟨rfl,Z⟩;have cb:=C6 Z ca;have a5:ϣ w w6:=bT bo Z;have t0:Δ w6 w 0 (vI d):=cLz Z s0;have t1:Δ w6 w 1 (vS m1 m2 m3):=cLz Z s1;have t2:Δ w6 w 2 (vS ra n rc):=cLz Z s2)
   |(go_at_call 253;refine(KK.o _ a5).mono ?_;rintro e c ⟨⟨⟨q,s,⟨⟨D,G,E⟩,ac⟩,O⟩,rfl,c5⟩,ae⟩;have al:Ϣ (OB c w.heap.size ⟨q,s,((D,G,E),ac),O⟩ ⟨d,ab,P⟩):=CX c5 a5.size;rw[show B5 ⟨d,ab,P⟩ ⟨q,s,((D,G,E),ac),O⟩= .agg #[vI d,vS D G E,vS q O.length s]from rfl];have cc:=C6 ae cb;have bp:ϣ w c:=bT a5 ae;obtain⟨F,ar⟩:=nM O.length;rw[ar]))
  have q0:Δ c (w+1) 0 (.string H):=cLz ae (cLz Z x0);have q1:Δ c (w+1) 1 (vI K):=cLz ae (cLz Z x1);have q2:Δ c (w+1) 2 (vI J):=cLz ae (cLz Z x2);have q3:Δ c (w+1) 3 (vS r1 r2 r3):=cLz ae (cLz Z x3);have q4:Δ c (w+1) 4 (.bool I):=cLz ae (cLz Z x4);have cw:G=ac.length:=by
   obtain⟨ad,cp,hf⟩:=al.o.mem.form;unfold hdV at hf;injection hf with _ e2 _
  have c2:ac.length<=100000:=by rw[al.o.mem.len];exact cd.o
  have aa:=hV0 ar;have dq:F<=100000:=by rw[<-ar,al.o.rlen];exact cg.o
  have am:Ϣ (PSt (ϊ c (τ d D G E q F s) 36) (w.heap.size+1+1) c.heap.size w.heap.size ⟨q,s,((D,G,E),ac),O⟩ ⟨d,ab,P⟩):=by
   have k:=Af5 cc al.o (show w.heap.size<=w.heap.size+1+1 by omega);rw[<-ar];exact k
  have ao:ϣ w (ϊ c (τ d D G E q F s) 36):=bp.alloc bp.size _;have bm:ϣ c (ϊ c (τ d D G E q F s) 36):=ϯ;obtain⟨y0,y1,y2,y3,y4⟩:=lk5 bm q0 q1 q2 q3 q4;have z1:Δ (ϊ c (τ d D G E q F s) 36) c 1 (vS D G E):=am.o.k.c1;have b7:c.heap.size<(c.alloc (.cells (τ d D G E q F s) 36)).heap.size:=Ϧ;have dy:w.heap.size+1<c.heap.size:=bLt _ _ q0;clear s0 s1 s2 t0 t1 t2 u0 u1 u2 q0 q1 q2 q3 q4 b8 b9 ca cb cc ar x0 x1 x2 x3 x4 v0 v1 v2 v3 v4;subst cw;obtain⟨m,a9⟩:=nM ac.length;have aj:=hV0 a9;rw[a9]at c2 z1 am y0 y1 y2 y3 y4 ao bm b7⊢;clear a9;generalize di:c.alloc (.cells (τ d D m E q F s) 36)=V at *;obtain⟨i0,bu,b2,b3,b4⟩:=info_parts Ae6;have HI:Ϣ (Tryz.prog.info? 33=some i0/\i0.zero=some (vS none 0 0)/\i0.size=1/\i0.bytes=24):=⟨bu,b2,b3,b4⟩;clear bu b2 b3 b4
  go_region_law (first
   |(refine Y4 (by rfl) (.tmp 30) (.tmp 33) (by rfl) w.heap.size (vS D m E) ac H K J ax rl c9 I w9 m bh.o Ϥ (Nat.le_trans ao.size ah.size) (by simp[Act.eval,Act.put]) (by simp[Act.eval,Act.put]) ?_;intro A z c8 bz a6 cx dl;have c0:=AdG am.o ah a6;obtain⟨p1,pf⟩:=c0;unfold hdV at p1;dsimp only at p1)
   |(go_simp;go_at_call 295;refine(KF.o _ ao.drew).mono ?_;rintro e w9 ⟨⟨ax,c9,rfl,bx⟩,cy⟩;have ah:ϣ V w9:=bR.drew.trans cy;have n1:Δ w9 c 1 (vS D m E):=cLz ah z1;have bh:Ϣ (w9.ownsRow w.heap.size 166 5 (vS D m E) m (Aw ac)):=(by have k:=own_below am.o.k.ob.mem.own ah;dsimp only at k;rw[aj.o]at k;exact k);have dx:c.heap.size<w9.heap.size:=Nat.lt_of_lt_of_le b7 ah.size))
  all_goals
   have av:=AdH (e:=⟨H,K,J,(ax,rl,c9),I⟩) (y:=y) (g:=A) (c4:=z) am.o ah ⟨au.o.key,au.o.time,au.o.seq,au.o.met,cj.o.symm,by unfold hdV;dsimp only;exact D7 bx ao.size⟩ (by dsimp only;rw[aj.o];exact bz) a6 cx;dsimp only at av;rw[aj.o]at av;obtain⟨P2,B2⟩:=av;generalize c8.setCell ⟨c,1,none⟩ (vS (ϋ A) (m+1) z)=W2 at *;have a4:ϣ w W2:=ao.trans B2;have bi:Ϣ (PSt W2 (w.heap.size+1+1) c.heap.size w.heap.size ⟨q,s,((some ⟨A,0,none⟩,m+1,z),ac++[⟨H,K,J,(ax,rl,c9),I⟩]),O⟩ ⟨d,ab++[y],P⟩):=P2;have bj:Ϣ (CT 351 #[vS (ϋ A) (m+1) z,.func (.func 272) #[] #[]] W2 λe w'=>e= .returned (.tuple #[])/\∃ct l',l'.Perm (ab++[y])/\(∀i j,i<j->j<l'.length->¬ltP (l'.getD j ϰ) (l'.getD i ϰ))/\OE w' w (vS (ϋ A) (m+1) z) ct l'/\Below w.heap.size W2 w'/\(∀b,b<W2.heap.size->(Value.slice (ϋ A) (m+1) z).ownBlock≠some b->w'.heap[b]? =W2.heap[b]?)):=TI w.heap.size _ _ _ W2 P2.k.ob.mem (by rw[lAp,aj.o];simp;omega);have c1:Δ W2 c 1 (vS (ϋ A) (m+1) z):=P2.k.c1;have bg:Ϣ (ab.length=m):=by show _=_;rw[<-aj.o,al.o.mem.len]
   clear P2 y0 y1 y2 y3 y4 z1 bz a6 bx p1 pf n1 bh;by_cases dj:d<(m:Int)+1
   ·go_wp2_with (first
     |(go_at_call 351;refine bj.o.mono ?_;rintro e B ⟨rfl,an,M,ap,bd,ba,ag,a7⟩;have l:=Ui bi.o ba ag.size a7;dsimp only at l;have af:Ϣ (PSt B (w.heap.size+1+1) c.heap.size w.heap.size ⟨q,s,((some ⟨A,0,none⟩,m+1,z),an),O⟩ ⟨d,M,P⟩):=l;have be:Δ B c 0 (vI d):=l.k.c0;have b5:Δ B c 1 (vS (ϋ A) (m+1) z):=l.k.c1;have b6:Δ B c 2 (vS q F s):=(by have k:=l.k.c2;dsimp only at k;rw[aa.o]at k;exact k);have j0:=l.k.r0;have j1:=l.k.r1;have j2:=l.k.r2;have g0:=l.k.g0;have g1:=l.k.g1;have g2:=l.k.g2;have cu:=l.f1;have cv:=l.k.f2;have ci:Ϣ (B.ownsRow w.heap.size 33 1 (vS q F s) F (O.map λp=>hdV p.1)):=(by have k:=l.k.ob.hds;dsimp only at k;rw[aa.o]at k;exact k);have dr:w.heap.size<=B.heap.size:=Nat.le_trans a4.size ag.size;have dw:c.heap.size<B.heap.size:=bLt _ _ be;have dv:w.heap.size+1+1<B.heap.size:=bLt _ _ j0;clear l)
     |(at_builtin;refine wpList_append_own _ rfl (.tmp 46) (.tmp 49) 34 rfl w.heap.size 33 i0 (vS none 0 0) 1 24 underlying34 HI.o.1 HI.o.2.1 HI.o.2.2.1 HI.o.2.2.2 rfl ϥ _ _ _ rfl (World.ownsRow.alloc ci.o _) ⟨B.heap.size,0,none⟩ 1 1 [vS (ϋ A) (m+1) z] rfl rfl (cell_one_new _ _ rfl _) (by intro u hu;simp at hu;rcases hu with rfl;rfl) Ϯ Ϥ ϩ ?_;intro dz d5 b0 bs dp;obtain⟨az,ay,c6⟩:=NZ b0;subst c6;have cz:=Te af.o (by dsimp only;rw[aa.o];exact bs);obtain⟨_,eN,eC,_⟩:=cz;have da:=(cOb (a:=⟨c.heap.size,0,none⟩) eN).trans be;have db:=(cOb (a:=⟨c.heap.size,1,none⟩) eN).trans b5;have dc:=(cOb (a:=⟨c.heap.size,2,none⟩) eN).trans b6;have dd:=(Bc (p:=⟨c.heap.size,1,none⟩) eN).trans cu;have de:=(Bc (p:=⟨c.heap.size,2,none⟩) eN).trans cv;have ck:=(cOb (a:=⟨w.heap.size+1+1,0,none⟩) eC).trans j0;have cl:=(cOb (a:=⟨w.heap.size+1+1,1,none⟩) eC).trans j1;have cm:=(cOb (a:=⟨w.heap.size+1+1,2,none⟩) eC).trans j2;have df:=(Bc (p:=⟨w.heap.size+1+1,0,none⟩) eC).trans g0;have dg:=(Bc (p:=⟨w.heap.size+1+1,1,none⟩) eC).trans g1;have dh:=(Bc (p:=⟨w.heap.size+1+1,2,none⟩) eC).trans g2;have c3:w.heap.size+1+1≠c.heap.size:=Nat.ne_of_lt af.o.k.ne))
    have a8:M.length=m+1:=by rw[ap.length_eq,lAp,bg.o];rfl
    have aq:Is ⟨d,ab,P⟩ M=⟨d,[],P++[M]⟩:=by unfold Is;rw[if_pos (by dsimp only;rw[a8];push_cast;omega)]
    have ak:=Abg (g:=az) (cap2:=ay) af.o (by dsimp only;rw[aa.o];exact b0) (by dsimp only;rw[aa.o];exact bs);dsimp only at ak;rw[aa.o]at ak;have a0:=(a4.trans ag).trans ak.2;refine bodyPost_ret (v:=.tuple #[.agg #[vI d,ώ,vS (ϋ az) (F+1) ay],Ϗ]) (by simp[results,results345,go_sem,ck,cl,cm,c3]) rfl ⟨⟨⟨some ⟨az,0,none⟩,ay,((none,0,0),[]),O++[((some ⟨A,0,none⟩,m+1,z),an)]⟩,M,?_,ap,bd,?_⟩,?_⟩
    ·rw[aq];unfold B5 hdV;dsimp only;rw[lAp,aa.o];rfl
    ·rw[aq];exact MN ak.1.k.ob ak.1.k.rt _ _ _
    ·exact((a0.setCell Ϫ _).setCell Ϫ _).setCell Ϫ _
   ·go_wp2_with (go_at_call 351;refine bj.o.mono ?_;rintro e B ⟨rfl,an,M,ap,bd,ba,ag,a7⟩;have l:=Ui bi.o ba ag.size a7;dsimp only at l;have af:Ϣ (PSt B (w.heap.size+1+1) c.heap.size w.heap.size ⟨q,s,((some ⟨A,0,none⟩,m+1,z),an),O⟩ ⟨d,M,P⟩):=l;have be:Δ B c 0 (vI d):=l.k.c0;have b5:Δ B c 1 (vS (ϋ A) (m+1) z):=l.k.c1;have b6:Δ B c 2 (vS q F s):=(by have k:=l.k.c2;dsimp only at k;rw[aa.o]at k;exact k);have j0:=l.k.r0;have j1:=l.k.r1;have j2:=l.k.r2;have g0:=l.k.g0;have g1:=l.k.g1;have g2:=l.k.g2;clear l);have a8:M.length=m+1:=by rw[ap.length_eq,lAp,bg.o];rfl
    have a0:ϣ w B:=a4.trans ag;have aq:Is ⟨d,ab,P⟩ M=⟨d,M,P⟩:=by unfold Is;rw[if_neg (by dsimp only;rw[a8];push_cast;omega)]
    refine bodyPost_ret (v:=.tuple #[.agg #[vI d,vS (ϋ A) (m+1) z,vS q F s],Ϗ]) (by simp[results,results345,go_sem,j0,j1,j2]) rfl ⟨⟨⟨q,s,((some ⟨A,0,none⟩,m+1,z),an),O⟩,M,?_,ap,bd,?_⟩,?_⟩
    ·rw[aq];unfold B5 hdV;dsimp only;rw[aa.o]
    ·rw[aq];exact MN af.o.k.ob af.o.k.rt _ _ _
    ·exact((a0.setCell Ϫ _).setCell Ϫ _).setCell Ϫ _
end bf
namespace bf
open vl
variable {X Y w : Ϡ} {base cap g i j k n : Nat} {e t : TypeId} {xs : List Value} {v : Value} {b : Buf} {hs : List Hdr} {x : BX}
theorem Je{size:Nat}(h:w.ownsRow base e size (vS (ϋ g) n cap) n xs)(j:Nat)(u:j<n * size)(x:Value):(w.setCell ⟨g,j,none⟩ x).ownsRow base e size (vS (ϋ g) n cap) n (xs.set j x):=by
 refine⟨by rw[length_set];exact h.1,?_⟩;rcases h.2 with⟨c,_⟩|⟨s,r,a,c,l,f,d,m,p,q⟩
 ·cases c
 ·cases c
  have y:n * size<=cap * size:=Nat.mul_le_mul_right _ d;refine .inr ⟨g,cap,a.setIfInBounds j x,rfl,l,?_,d,m,by rw[Array.size_setIfInBounds];exact p,?_⟩
  ·rw[setCell_eq_setRow w g j a e (0,0) x f];exact setRow_heap w g a _ e _ f
  ·rw[Array.toList_setIfInBounds,<-q,take_set]
def EM.meet(e:EM):EM:=⟨e.key,e.time,e.seq,e.row,true⟩
def Ent.meet(x:Ent):Ent:=⟨x.key,x.time,x.seq,x.row,true⟩
theorem J3:∀(l:List EM) (i:Nat),i<l.length->(Aw l).set (i * 5+4) (.bool true)=Aw (l.set i (l.getD i ϰ).meet)
 |[],i,h=>absurd h (Nat.not_lt_zero i)
 |e::l,0,_=>rfl
 |e::l,i+1,h=>by
  have c:=J3 l i (by simpa using h);have a:Aw (e::l)= .string e.key::vI e.time::vI e.seq::hdV e.row:: .bool e.met::Aw l:=rfl;rw[a,show(i+1) * 5+4=(i * 5+4)+1+1+1+1+1 by omega];simp only[sSz,c,getD_cons_succ];rfl
theorem En{α:Type}{l:List α}{a d:α}(h:i<l.length):(l.set i a).getD i d=a:=by
 simp[gDe,h]
theorem EU{α:Type}{l:List α}{a d:α}(h:i≠j):(l.set i a).getD j d=l.getD j d:=by
 simp[gDe,List.getElem?_set_ne h]
theorem Afh{a:List EM}{l:List Ent}(h:OE w base (vS (ϋ g) a.length cap) a l)(q:i<l.length):
 OE (ό w g (i * 5+4) (.bool true)) base (vS (ϋ g) a.length cap) (a.set i (a.getD i ϰ).meet) (l.set i (l.getD i ϰ).meet):=by
 have s:i<a.length:=by rw[h.len];exact q
 refine⟨by simpa[World.setCell]using h.low,?_,by rw[length_set,length_set,h.len],λj u=>?_⟩
 ·rw[length_set,<-J3 a i s];exact Je h.own _ Ϥ _
 ·rw[length_set]at u;have y:∀{e:EM} {x:Ent},OR w base e x->OR (ό w g (i * 5+4) (.bool true)) base e x:=λ{e x} k=>by
   obtain⟨d,f,m,r,p,c⟩:=k;exact⟨d,f,m,r,p,A1 c (λb z=>heap_setCell_other _ _ _ _ (λe=>Jr h.own c ϥ (show(Value.slice (ϋ g) a.length cap).ownBlock=some b by rw[e];rfl) z))⟩
  by_cases e:i=j
  ·subst e;rw[En s,En q];obtain⟨d,f,m,r,p,c⟩:=y (h.rows i q);exact⟨d,f,m,rfl,p,c⟩
  ·rw[EU e,EU e];exact y (h.rows j u)
theorem AdI{d:Nat}{c f:List EM}{l s:List Ent}(h:OE w base v c l)(q:OE w d (vS (ϋ g) n cap) f s)(m:v.ownBlock≠some g)(u:Value):OE (ό w g j u) base v c l:=
 h.same (by simp[World.setCell]) (λb y t p a=>heap_setCell_other _ _ _ _ (λe=>by
  dsimp only at e;rcases a with⟨r,_⟩|a
  ·exact m (by rw[<-e];exact r)
  ·subst a;exact tyAt_apart (A9 q.own (show(Value.slice (ϋ g) n cap).ownBlock=some b by rw[e];rfl)) ⟨_,_,p⟩ ϥ rfl))
def hd0:Hdr:=(none,0,0)
structure OP(w:World)(base:Nat)(hs:List Hdr)(ess:List (List EM))(ls:List (List Ent)):Prop where
 low:base<=w.heap.size
 l1:ess.length=hs.length
 l2:ls.length=hs.length
 oe:∀k,k<hs.length->OE w base (hdV (hs.getD k hd0)) (ess.getD k []) (ls.getD k [])
 two:(hs.map hdV).Pairwise apB
theorem N9{a b:Value}(h:apB a b):apB b a:=λg c d=>h g d c
theorem OP.apart{f:List (List EM)}{q:List (List Ent)}(h:OP w base hs f q)(l:j<hs.length)(m:k<hs.length)(p:j≠k):apB (hdV (hs.getD j hd0)) (hdV (hs.getD k hd0)):=by
 have d:=pairwise_iff_getElem.1 h.two;have e:∀i (c:i<hs.length),hdV (hs.getD i hd0)=(hs.map hdV)[i]'(by rw[lMp];exact c):=λi c=>by
  rw[getElem_map,gDe,gEe c];rfl
 rw[e j l,e k m];rcases Nat.lt_or_gt_of_ne p with a|a
 ·exact d _ _ _ _ a
 ·exact N9 (d _ _ _ _ a)
theorem NA{h:Hdr}{m:List EM}{l:List Ent}(q:OE w base (hdV h) m l)(p:0<l.length):∃g,h=(some ⟨g,0,none⟩,m.length,h.2.2):=by
 obtain⟨a,n,c⟩:=h;rcases q.own.2 with⟨_,s⟩|⟨g,cap,u,r,_⟩
 ·rw[<-q.len,s]at p;exact absurd p (Nat.lt_irrefl _)
 ·unfold hdV at r;injection r with d f y
  dsimp only at d f;subst d f;exact⟨g,rfl⟩
theorem Afi{a:List (List EM)}{c:List (List Ent)}(h:OP w base hs a c)(d:k<hs.length)(A:i<(c.getD k []).length)(p:(hs.getD k hd0).1=some ⟨g,0,none⟩):
 OP (ό w g (i * 5+4) (.bool true)) base hs (a.set k ((a.getD k []).set i ((a.getD k []).getD i ϰ).meet)) (c.set k ((c.getD k []).set i ((c.getD k []).getD i ϰ).meet)):=by
 have s:=h.oe k d;obtain⟨f,q⟩:=NA s Ϥ;have z:f=g:=by rw[q]at p;cases p;rfl
 subst z;have m:hdV (hs.getD k hd0)=vS (ϋ f) (a.getD k []).length (hs.getD k hd0).2.2:=by rw[q];rfl
 have l:=s;rw[m]at l;refine⟨by simpa[World.setCell]using h.low,by rw[length_set];exact h.l1,by rw[length_set];exact h.l2,λj r=>?_,h.two⟩;by_cases e:k=j
 ·subst e;rw[En (by rw[h.l1];exact d),En (by rw[h.l2];exact d),m];exact Afh l A
 ·rw[EU e,EU e];refine AdI (h.oe j r) l (λy=>?_) _;have:=h.apart r d (λu=>e u.symm) f y;rw[m]at this;exact this rfl
theorem AfQ(h:OB w base x b):OP w base ((x.m::x.rs).map (·.1)) ((x.m::x.rs).map (·.2)) (partsB b):=by
 refine⟨h.low,Ϧ,by simp[partsB,h.rlen],λk l=>?_,by rw[map_map];exact h.two⟩
 cases k with
 |zero=>exact h.mem
 |succ k=>
  have a:k<x.rs.length:=by simpa using l
  have m:=h.runs k (by rw[<-h.rlen];exact a);have c:((x.m::x.rs).map (·.1)).getD (k+1) hd0=(x.rs.getD k ϰ).1:=by
   simp[gDe,a]
  have d:((x.m::x.rs).map (·.2)).getD (k+1) []=(x.rs.getD k ϰ).2:=by
   simp[gDe,a]
  have f:(partsB b).getD (k+1) []=b.runs.getD k ϰ:=by
   unfold partsB;rw[getD_cons_succ];rfl
  rw[c,d,f];exact m
theorem LM{s:Nat}(h:w.ownsRow base e s v n xs):n<=maxLen:=by
 rcases h.2 with⟨_,a⟩|⟨g,cap,f,_,_,_,c,d,_⟩
 ·rw[a];exact Nat.zero_le _
 ·exact Nat.le_trans c d
theorem GA{p:Part}{l:List Ent}(h:OE w base (hdV p.1) p.2 l):(p.1.2.1=p.2.length/\p.2.length<=ύ)/\BR w p.1.1 p.2:=by
 obtain⟨⟨a,n,c⟩,f⟩:=p;have m:n=f.length:=by
  obtain⟨q,r,d⟩:=h.form;unfold hdV at d;injection d with _ s _
 subst m;refine⟨⟨rfl,?_⟩,?_⟩
 ·have:=LM h.own;unfold maxLen at this;dsimp only at this⊢;omega
 ·exact OE.at h
theorem OB.at(h:OB w base x b):bufAt w b x:=by
 have a:∀p∈x.m::x.rs,∃l,OE w base (hdV p.1) p.2 l:=λp a=>by
  rcases mem_cons.1 a with rfl|a
  ·exact⟨_,h.mem⟩
  ·obtain⟨i,_,_,r⟩:=h.run a;exact⟨_,r⟩
 refine⟨λi c=>?_,λp f=>?_,λp f=>?_,?_,h.mem.ers,h.rlen,λi c=>(h.runs i c).ers⟩
 ·rw[lMp]at c;rcases h.hds.2 with⟨_,y⟩|⟨g,cap,u,s,_⟩
  ·omega
  ·injection s with m _ _
   refine⟨g,0,m,?_⟩;have q:=World.ownsRow.cells h.hds (g:=g) (by rw[m];rfl) i (hdV (x.rs[i]).1) (by rw[getElem?_map,gEe c];rfl);rw[Dk]at q;rw[gDe,getElem?_map,gEe c];exact q
 ·obtain⟨l,d⟩:=a p f;exact(GA d).1
 ·obtain⟨l,d⟩:=a p f;exact(GA d).2
 ·have:=LM h.hds;unfold maxLen at this;omega
def DW(l:List Ent):Prop:=l.Pairwise ltP
theorem getD_at{α:Type}{l:List α}{d:α}(h:i<l.length):l.getD i d=l[i]:=by
 rw[gDe,gEe h];rfl
theorem Abh{l:List Ent}(h:(l.map AK).Nodup)(c:i<l.length)(d:j<l.length)(m:i≠j):¬Ep l[i] l[j]:=λhs=>by
 have e:=Mg.2 hs;have f:=pairwise_iff_getElem.1 h;rcases Nat.lt_or_gt_of_ne m with a|a
 ·exact f i j (by simpa using c) (by simpa using d) a (by simpa using e)
 ·exact f j i (by simpa using d) (by simpa using c) a (by simpa using e.symm)
theorem QN{l:List Ent}(h:Pw l)(p:(l.map AK).Nodup):DW l:=by
 refine pairwise_iff_getElem.2 λi j f c m=>?_;have d:=h i j m c;rw[getD_at f,getD_at c]at d;rcases ltP_tri l[i] l[j]with a|a|a
 ·exact a
 ·exact absurd a (Abh p f c Ϥ)
 ·exact absurd a d
theorem JH{l:List Ent}(h:∀i,i+1<l.length->ltP (l.getD i ϰ) (l.getD (i+1) ϰ)):DW l:=by
 have c:∀d i,i+d+1<l.length->ltP (l.getD i ϰ) (l.getD (i+d+1) ϰ):=by
  intro d
  induction d with
  |zero=>exact λi a=>h i a
  |succ d ih=>exact λi a=>CM (ih i Ϥ) (h (i+d+1) a)
 refine pairwise_iff_getElem.2 λi j a f m=>?_;have:=c (j - i - 1) i Ϥ;rw[show i+(j - i - 1)+1=j by omega,getD_at a,getD_at f]at this;exact this
theorem NC{l:List Ent}(h:DW l):∀i,i+1<l.length->ltP (l.getD i ϰ) (l.getD (i+1) ϰ):=λi a=>by
 rw[getD_at Ϥ,getD_at a];exact pairwise_iff_getElem.1 h i (i+1) Ϥ a Ϥ
theorem WY{l:List Ent}(h:DW l):Pw l:=λi j d a c=>by
 have:=pairwise_iff_getElem.1 h i j Ϥ a d;rw[getD_at (by omega:i<l.length),getD_at a]at c;exact E6 _ (CM this c)
theorem Mv{l:List Ent}(P:Ent->Bool)(h:DW l):DW (l.filter P):=h.sublist filter_sublist
theorem Tf:∀{l m:List Ent},l.Perm m->DW l->DW m->l=m
 |[],m,hp,_,_=>(nil_perm.1 hp).symm
 |a::l,[],hp,_,_=>absurd (perm_nil.1 hp) Ϧ
 |a::l,b::m,hp,h1,h2=>by
  have d:=pairwise_cons.1 h1;have f:=pairwise_cons.1 h2;have p:a=b:=by
   have ha:a∈b::m:=hp.mem_iff.1 (mem_cons_self ..);have q:b∈a::l:=hp.mem_iff.2 (mem_cons_self ..);rcases mem_cons.1 ha with h|h
   ·exact h
   ·rcases mem_cons.1 q with c|c
    ·exact c.symm
    ·exact absurd (CM (d.1 b c) (f.1 a h)) (E6 _)
  subst p;rw[Tf (List.Perm.cons_inv hp) d.2 f.2]
theorem Jf{l m:List Ent}(h:l.Perm m):(l.map AK).Nodup↔(m.map AK).Nodup:=(h.map AK).nodup_iff
theorem Abi{l m:List Ent}(h:l.Perm m)(p:Plc):hasB l p=hasB m p:=by
 rw[Bool.eq_iff_iff];unfold hasB;simp only[any_eq_true]
 constructor
 ·rintro ⟨x,a,e⟩;exact⟨x,h.mem_iff.1 a,e⟩
 ·rintro ⟨x,a,e⟩;exact⟨x,h.mem_iff.2 a,e⟩
theorem QO{l:List Ent}{p:Plc}(h:hasB l p=false):p ∉ l.map AK:=λa=>by
 obtain⟨x,c,e⟩:=mem_map.1 a;unfold hasB at h;have:=any_eq_false.1 h x c;simp[e]at this
theorem DO(b:Buf):Ab b=b.mem++b.runs.flatten:=by unfold Ab partsB;rw[flatten_cons]
theorem FW(h:okB b):DK b=0:=by
 have f:AA b.lim 1 64=true:=(Bh _ _ _).2 h.lim;have l:countB b=true:=by unfold countB;simp only[Bool.and_eq_true,decide_eq_true_eq];exact⟨h.mem,h.all⟩
 have m:FM b=true:=by
  unfold FM;simp only[Bool.and_eq_true];refine⟨AF.2 λi a=>?_,?_,?_⟩
  ·rw[getD_at a];have d:(partsB b)[i]∈partsB b:=getElem_mem a;refine AF.2 λj c=>?_;unfold Gl;simp only[Bool.and_eq_true,Bool.or_eq_true,decide_eq_true_eq];refine⟨Gb ?_,?_⟩
   ·rw[getD_at c];exact h.fine _ d _ (getElem_mem c)
   ·cases j with
    |zero=>exact .inl rfl
    |succ j=>exact .inr (h.rise _ d j c)
  ·unfold J8;refine AF.2 λi a=>?_;rw[getD_at a];exact decide_eq_true (h.full _ (getElem_mem a))
  ·unfold Cw;exact decide_eq_true h.once
 unfold DK;rw[f,l,m];rfl
theorem okB.rises(h:okB b){l:List Ent}(a:l∈partsB b):DW l:=JH (h.rise l a)
theorem okB.entry(h:okB b){y:Ent}(hy:y∈Ab b):EH y:=by
 obtain⟨l,a,hy⟩:=mem_flatten.1 hy;exact h.fine l a y hy
theorem QP(h1:1<=b.lim/\b.lim<=64)(c:(b.mem.length:Int)<=b.lim)(d:(Ab b).length<=4096)(f:∀y∈Ab b,EH y)(h:∀l∈partsB b,DW l)(m:∀r∈b.runs,0<r.length)(p:((Ab b).map AK).Nodup):okB b:=
 ⟨h1,c,d,λl a y hy=>f y (mem_flatten.2 ⟨l,a,hy⟩),λl a=>NC (h l a),m,p⟩
theorem Tg{d:List Ent}{y:Ent}(c:d.Perm (b.mem++[y])):(Ab (Is b d)).Perm (y::Ab b):=by
 have a:(b.mem++[y]++b.runs.flatten).Perm (y::(b.mem++b.runs.flatten)):=by
  rw[append_assoc];exact perm_middle
 unfold Is;split
 ·rw[DO,DO];dsimp only;rw[flatten_append,nil_append];simp only[flatten_cons,flatten_nil,append_nil];exact(perm_append_comm).trans ((c.append_right _).trans a)
 ·rw[DO,DO];exact(c.append_right _).trans a
theorem Y5{d:List Ent}{y:Ent}(h:okB b)(A:EH y)(q:hasB (Ab b) (AK y)=false)(H:(Ab b).length≠4096)(m:d.Perm (b.mem++[y]))(u:Pw d):okB (Is b d):=by
 have f:=Tg (b:=b) m;have F:((y::Ab b).map AK).Nodup:=nodup_cons.2 ⟨QO q,h.once⟩;have D:(d.map AK).Nodup:=by
  rw[Jf m];have hs:((b.mem++[y]).map AK).Perm ((y::b.mem).map AK):=(perm_append_comm).map _;rw[hs.nodup_iff];refine nodup_cons.2 ⟨λE=>QO q ?_,?_⟩
  ·rw[DO,map_append];exact mem_append.2 (.inl E)
  ·have:=h.once;rw[DO,map_append]at this;exact(nodup_append.1 this).1
 have s:=QN u D;have B:(Is b d).lim=b.lim:=by unfold Is;split<;>rfl
 refine QP (by rw[B];exact h.lim) ?_ ?_ (λz p=>?_) (λl a=>?_) (λr c=>?_) ?_
 ·have:=h.lim;unfold Is;split
  ·dsimp only[length_nil];omega
  ·dsimp only;omega
 ·rw[f.length_eq,length_cons];have:=h.all;omega
 ·rcases mem_cons.1 (f.mem_iff.1 p)with rfl|p
  ·exact A
  ·exact h.entry p
 ·unfold Is at a;split at a
  ·rcases mem_cons.1 a with rfl|a
   ·exact List.Pairwise.nil
   ·rcases mem_append.1 a with a|a
    ·exact h.rises (mem_cons_of_mem _ a)
    ·have:l=d:=by simpa using a
     rw[this];exact s
  ·rcases mem_cons.1 a with rfl|a
   ·exact s
   ·exact h.rises (mem_cons_of_mem _ a)
 ·have G:d.length=b.mem.length+1:=by rw[m.length_eq];simp
  unfold Is at c;split at c
  ·rcases mem_append.1 c with c|c
   ·exact h.full r c
   ·have:r=d:=by simpa using c
    rw[this];omega
  ·exact h.full r c
 ·rw[Jf f];exact F
theorem PZ(P:Ent->Bool):∀l:List (List Ent),(EF P l).flatten=l.flatten.filter P
 |[]=>rfl
 |r::l=>by
  have a:=PZ P l;unfold EF at a⊢;rw[map_cons,flatten_cons,filter_append,<-a];by_cases h:0<(r.filter P).length
  ·rw[filter_cons_of_pos (by simpa using h),flatten_cons]
  ·have:r.filter P=[]:=length_eq_zero_iff.1 Ϥ;rw[filter_cons_of_neg (by simpa using h),this,nil_append]
theorem Jg(P:Ent->Bool)(b:Buf):Ab (Eg P b)=(Ab b).filter P:=by
 rw[DO,DO,filter_append];unfold Eg;dsimp only;rw[PZ]
theorem JI(P:Ent->Bool)(h:okB b):okB (Eg P b):=by
 have c:=Jg P b;refine QP h.lim ?_ ?_ (λz f=>?_) (λl a=>?_) (λr d=>?_) ?_
 ·have m:=h.mem;have p:(Eg P b).mem.length<=b.mem.length:=length_filter_le _ _;show((Eg P b).mem.length:Int)<=b.lim;omega
 ·rw[c];exact Nat.le_trans (length_filter_le _ _) h.all
 ·rw[c]at f;exact h.entry (mem_filter.1 f).1
 ·rcases mem_cons.1 a with rfl|a
  ·exact Mv P (h.rises (mem_cons_self ..))
  ·obtain⟨a,_⟩:=mem_filter.1 (show l∈EF P b.runs from a);obtain⟨r,d,rfl⟩:=mem_map.1 a;exact Mv P (h.rises (mem_cons_of_mem _ d))
 ·obtain⟨_,a⟩:=mem_filter.1 (show r∈EF P b.runs from d);exact of_decide_eq_true a
 ·rw[c];exact h.once.sublist (filter_sublist.map _)
def x0:BX:=⟨none,0,((none,0,0),[]),[]⟩
def notE:Nat->Obj->Prop:=λ_ o=> ∀c f,o≠ .cells c 166 f
theorem Vd{W:Ϡ}{b:Nat}(h:Ah W b t)(ht:t≠166):names notE W b:=λo m c f e=>by
 obtain⟨p,q,a⟩:=h;rw[m]at a;rw[e]at a;injection a with d
 injection d with _ l _
 exact ht l.symm
theorem ty_row{d:Option Nat}(p:X.grownBy Y d)(q:∀r,d=some r->∃x:Obj,X.heap[r]? =some x/\x.isCells=false)(h:Ah X g t):Y.heap[g]? =X.heap[g]? :=
 p.block g (AH h) (λe=>by
  obtain⟨x,a,l⟩:=q g e.symm;obtain⟨c,f,m⟩:=h;rw[m]at a;cases a;cases l)
theorem BG{α:Type}{l:List α}{d:α}(h:k<l.length):l.drop k=l.getD k d::l.drop (k+1):=by
 rw[drop_eq_getElem_cons h,gDe,gEe h];rfl
theorem set_mid{α β:Type}(f:α->β)(A:List α)(k:Nat)(x y:β)(B:List β)(h:k<=A.length):((A.take k).map f++x::B).set k y=(A.take k).map f++y::B:=by
 have a:((A.take k).map f).length=k:=by rw[lMp,length_take];omega
 rw[set_append_right _ _ Ϥ,a,Nat.sub_self];rfl
theorem Ti{α β:Type}(f:α->β)(l:List α)(k:Nat)(d:α)(h:k<l.length):(l.take (k+1)).map f=(l.take k).map f++[f (l.getD k d)]:=by
 rw[take_succ_eq_append_getElem h,map_append,gDe,gEe h];rfl
theorem set_self{α:Type}{l:List α}{d:α}(h:k<l.length):l.set k (l.getD k d)=l:=by
 rw[gDe,gEe h];exact set_getElem_self _
theorem ND{c:Nat->Obj->Prop}(d:ϣ X Y):A0 c X Y:=λb o a _ _=>(d.block b (Array.getElem?_eq_some_iff.1 a).1).trans a
theorem AdJ{a b:ByteArray}(h:a≠b):¬a.toList=b.toList:=λe=>h (by have:=bytes_beq a b;rw[e]at this;simpa using this.symm)
theorem LN(e f:EM)(w:Ϡ):χ 189 #[e.val,f.val] w (ψ w (vI (Fg e.ent f.ent))):=by
 obtain⟨R,A⟩:=nM (Fg e.ent f.ent);have a:Ϣ (Bb [Lib.compareBytes (bl e.key) (bl f.key),CU e.time f.time,CU e.seq f.seq]=R):=by
  show _=_;rw[<-A];exact JS e.ent f.ent
 rw[A];clear A;obtain⟨d,h,u,⟨N,O,P⟩,H⟩:=e;obtain⟨m,l,y,⟨K,L,M⟩,I⟩:=f;unfold EM.val hdV;dsimp only at a⊢;by_cases B:d=m
 ·subst B;have z:Lib.compareBytes (bl d) (bl d)=0:=by rw[MR];simp
  rw[z]at a;by_cases q:CU h l=0
  ·have c:Ϣ (CU u y=R):=by
    show _=_;rw[<-a.o,q];unfold Bb;by_cases F:CU u y=0<;>simp[Bb,F]
   clear a z;have E:Ϣ (∀s,CT 193 #[vI h,vI l] s λe r=>e= .returned (vI 0)/\r=s):=λs=>by have:=FZ h l s;rwa[q]at this
   go_enter func189,ntmps189;go_wp2_with (go_at_call 193;first|(refine(E.o _).mono ?_;rintro e r ⟨rfl,rfl⟩)|(refine(FZ u y _).mono ?_;rintro e r ⟨rfl,rfl⟩));go_ret;refine⟨Ad c.o,?_⟩
   repeat (first|exact bR|apply Below.drew|(refine Below.alloc ?_ ϫ _))
  ·have c:Ϣ (CU h l=R):=by
    show _=_;rw[<-a.o];simp[Bb,q]
   clear a z;have J:(CU h l !=0)=true:=by simpa using q
   go_enter func189,ntmps189;go_wp2_with (go_at_call 193;refine(FZ h l _).mono ?_;rintro e r ⟨rfl,rfl⟩);go_ret;refine⟨Ad c.o,?_⟩
   repeat (first|exact bR|apply Below.drew|(refine Below.alloc ?_ ϫ _))
 ·have D:=AdJ B;have Q:(d.toList==m.toList)=false:=by simpa using D
  clear D;by_cases p:bl d<bl m
  ·have c:Ϣ ((-1:Int)=R):=by
    show _=_;rw[<-a.o,MR,if_pos p];rfl
   clear a;have G:Op.bytesLess d.toList m.toList=true:=by rw[Lib.toList_data,Lib.toList_data,Gy];exact decide_eq_true p
   go_enter func189,ntmps189;go_wp2;go_ret;refine⟨Ad c.o,?_⟩
   repeat (first|exact bR|apply Below.drew|(refine Below.alloc ?_ ϫ _))
  ·have c:Ϣ ((1:Int)=R):=by
    show _=_;rw[<-a.o,MR,if_neg p,if_neg (λe=>B (VH e))];rfl
   clear a;have G:Op.bytesLess d.toList m.toList=false:=by rw[Lib.toList_data,Lib.toList_data,Gy];exact decide_eq_false p
   go_enter func189,ntmps189;go_wp2;go_ret;refine⟨Ad c.o,?_⟩
   repeat (first|exact bR|apply Below.drew|(refine Below.alloc ?_ ϫ _))
end bf
namespace bf
open vl
attribute [local go_sem] Oper.semAt_some
variable {w : Ϡ} {b : Buf} {x x' : BX}
theorem Tj(a S:ϡ)(c c':Nat)(m p:List EM)(l:List Ent)(w:Ϡ)(ha:BR w a m)(hr:ERs w m l)(aa:BR w S p)(ab:ERs w p l)(hl:l.length<=ύ)(ac:∀y∈l,y.row.length<=ύ):
 χ 151 #[vS a l.length c,vS S l.length c'] w (ψ w (.bool true)):=by
 have HA:=hV0 ha;have ae:=hV0 aa;have Q:=hV0 hr;have R:=hV0 ab;have af:=hV0 ac;obtain⟨n,P⟩:∃n,l.length=n:=⟨_,rfl⟩;have s:=hV0 P;rw[P]at hl⊢;clear P ha aa hr ab ac;go_enter func151,ntmps151;go_wp2
 go_loopw [5] (λi wr=> ∃k:Nat,k<=n/\i=vI k/\ϣ w wr) (λi _=>n - (intOf i).toNat)
 case atStart=>exact⟨0,Nat.zero_le _,rfl,bR⟩
 case round=>
  obtain⟨k,hk,rfl,D⟩:=hrel;by_cases B:k<n
  ·obtain⟨b1,o1,e1,x1,x2,x3,x4,x5⟩:=HA.o k (by rw[Q.o.1,s.o];exact B);obtain⟨b2,o2,e2,y1,y2,y3,y4,y5⟩:=ae.o k (by rw[R.o.1,s.o];exact B);subst e1 e2;obtain⟨K,L,M,E,N,u1,u2,u3,u4,u5⟩:=AfE D x1 x2 x3 x4 x5 y1 y2 y3 y4 y5;clear x1 x2 x3 x4 x5 y1 y2 y3 y4 y5;have q:=(Q.o.2 k (by rw[s.o];exact B)).below D;have r:=(R.o.2 k (by rw[s.o];exact B)).below D;have hm:l.getD k ϰ∈l:=AN (by rw[s.o];exact B);have O:=af.o _ hm;have u:Ϣ (∀h,CT 189 #[(m.getD k ϰ).val,(p.getD k ϰ).val] h (ψ h (vI 0))):=λh=>by
    have J:=LN (m.getD k ϰ) (p.getD k ϰ) h;rwa[Lq q r,Mc.2 (VI _)]at J
   have A:Ϣ (∀h,ϣ wr h->CT 94 #[hdV (m.getD k ϰ).row,hdV (p.getD k ϰ).row] h (ψ h (.bool true))):=λh hb=>by
    have J:=Tl (m.getD k ϰ).row.1 (p.getD k ϰ).row.1 (m.getD k ϰ).row.2.2 (p.getD k ϰ).row.2.2 (l.getD k ϰ).row (l.getD k ϰ).row h (Ac q.row hb) (Ac r.row hb) O O;rw[decide_eq_true rfl]at J;unfold hdV;rw[q.len,r.len];exact J
   have F:=q.key.trans r.key.symm;have G:=q.time.trans r.time.symm;have H:=q.seq.trans r.seq.symm;have I:=q.met.trans r.met.symm;clear q r hm O;obtain⟨⟨T,Z,V,⟨r1,r2,r3⟩,U⟩,hz⟩:∃z,m.getD k ϰ=z:=⟨_,rfl⟩;obtain⟨⟨fk,ft,fs,⟨q1,q2,q3⟩,fm⟩,ad⟩:∃z,p.getD k ϰ=z:=⟨_,rfl⟩;rw[hz]at K L M E N u A F G H I;rw[ad]at u1 u2 u3 u4 u5 u A F G H I;unfold EM.val hdV at u;unfold hdV at A E u4;dsimp only at K L M E N u1 u2 u3 u4 u5 u A F G H I;subst F G H I;clear hz ad;have i1:=nn0 k;have i2:(k:Int)<(n:Int):=Ϥ;have dr:ϣ wr wr.drew:=bR.drew;go_wp2
   go_region_held3
    (λw'=>Ϛ w' b1 (o1+k * 5) (.string T) (vI Z) (vI V) (vS r1 r2 r3) (.bool U) (Ϝ w' b2 (o2+k * 5) (.string T) (vI Z) (vI V) (vS q1 q2 q3) (.bool U)))
    (first|go_keep|exact⟨cLz f K,cLz f L,cLz f M,cLz f E,cLz f N,cLz f u1,cLz f u2,cLz f u3,cLz f u4,cLz f u5⟩|exact⟨cLz d K,cLz d L,cLz d M,cLz d E,cLz d N,cLz d u1,cLz d u2,cLz d u3,cLz d u4,cLz d u5⟩)
    (first
     |(go_at_call 94;refine(A.o _ d).mono ?_;rintro e wq ⟨rfl,ah⟩;have f:=bT d ah)
     |(go_at_call 189;refine(u.o _).mono ?_;rintro e wp ⟨rfl,ag⟩;have d:=dr.trans ag))
   all_goals
    have ai:ϣ w wq:=bT D f;go_wp2;go_roundw;exact⟨k+1,Ϥ,by go_num,ai⟩;simp[intOf];omega
  ·go_wp2;go_ret;exact⟨rfl,D⟩
theorem Y6(h:bufAt w b x)(c:bufAt w b x')(r:∀l∈partsB b,l.length<=ύ)(s:∀y∈Ab b,y.row.length<=ύ)(i:Nat)(a:i<b.runs.length):
 χ 151 #[hdV (x.rs.getD i ϰ).1,hdV (x'.rs.getD i ϰ).1] w (ψ w (.bool true)):=by
 have m:x.rs.getD i ϰ∈x.m::x.rs:=mem_cons_of_mem _ (AN (by rw[h.rlen];exact a));have p:x'.rs.getD i ϰ∈x'.m::x'.rs:=mem_cons_of_mem _ (AN (by rw[c.rlen];exact a));have d:=h.runs i a;have f:=c.runs i a;have q:b.runs.getD i ϰ∈partsB b:=mem_cons_of_mem _ (AN a);have k:=Tj (x.rs.getD i ϰ).1.1 (x'.rs.getD i ϰ).1.1 (x.rs.getD i ϰ).1.2.2 (x'.rs.getD i ϰ).1.2.2 _ _ (b.runs.getD i ϰ) w (h.ems _ m) d (c.ems _ p) f (r _ q) (λy hy=>s y (mem_flatten.2 ⟨_,q,hy⟩));unfold hdV;rw[(h.len _ m).1,(c.len _ p).1,d.1,f.1];exact k
theorem Abj(h:bufAt w b x)(a:bufAt w b x')(m:∀l∈partsB b,l.length<=ύ)(p:∀y∈Ab b,y.row.length<=ύ):
 χ 151 #[hdV x.m.1,hdV x'.m.1] w (ψ w (.bool true)):=by
 have c:x.m∈x.m::x.rs:=mem_cons_self ..;have d:x'.m∈x'.m::x'.rs:=mem_cons_self ..;have f:b.mem∈partsB b:=mem_cons_self ..;have k:=Tj x.m.1.1 x'.m.1.1 x.m.1.2.2 x'.m.1.2.2 _ _ b.mem w (h.ems _ c) h.mem (a.ems _ d) a.mem (m _ f) (λy hy=>p y (mem_flatten.2 ⟨_,f,hy⟩));unfold hdV;rw[(h.len _ c).1,(a.len _ d).1,h.mem.1,a.mem.1];exact k
theorem Tk(b:Buf)(x x':BX)(w:Ϡ)(h:bufAt w b x)(r:bufAt w b x')(Q:∀l∈partsB b,l.length<=ύ)(R:∀y∈Ab b,y.row.length<=ύ):
 χ 93 #[B5 b x,B5 b x'] w (ψ w (.bool true)):=by
 have N:Ϣ (∀a,ϣ w a->CT 151 #[hdV x.m.1,hdV x'.m.1] a (ψ a (.bool true))):=λa c=>Abj (Ar h c) (Ar r c) Q R;have O:Ϣ (∀i a,i<b.runs.length->ϣ w a->CT 151 #[hdV (x.rs.getD i ϰ).1,hdV (x'.rs.getD i ϰ).1] a (ψ a (.bool true))):=λi a hi c=>Y6 (Ar h c) (Ar r c) Q R i hi;have H1:Ϣ (FH w x.ra (x.rs.map (·.1))):=h.hds;have H2:Ϣ (FH w x'.ra (x'.rs.map (·.1))):=r.hds;have m:=h.rlen;have u:=r.rlen;have ac:=h.few;clear h r Q R;obtain⟨K,A,⟨⟨S,T,U⟩,ml⟩,D⟩:=x;obtain⟨L,B,⟨⟨V,Z,q3⟩,ql⟩,E⟩:=x';obtain⟨p,al,ag⟩:=b;unfold B5 hdV;unfold hdV at N;dsimp only at N O H1 H2 m u ac⊢;obtain⟨n,I⟩:∃n,ag.length=n:=⟨_,rfl⟩;have f:Ϣ (D.length=n/\E.length=n):=⟨by rw[m,I],by rw[u,I]⟩;rw[I]at O m u;rw[m]at ac;rw[m,u];clear I m u;have P:ϣ w (ϊ (ϊ w (τ p S T U K n A) 36) (τ p V Z q3 L n B) 36):=by
  repeat (first|exact bR|(refine Below.alloc ?_ ϫ _))
 have k1:Δ (ϊ (ϊ w (τ p S T U K n A) 36) (τ p V Z q3 L n B) 36) w 2 (vS K n A):=Ϩ;have k2:Δ (ϊ (ϊ w (τ p S T U K n A) 36) (τ p V Z q3 L n B) 36) (w+1) 2 (vS L n B):=Ϩ;go_enter func93,ntmps93;go_wp2_with fail;refine(N.o _ P).mono ?_;rintro e a ⟨rfl,G⟩;have c1:=cLz G k1;have c2:=cLz G k2;have aj:w.heap.size<a.heap.size:=bLt _ _ c1;have ak:w.heap.size+1<a.heap.size:=bLt _ _ c2;have af:ϣ w a:=bT P G;clear k1 k2 P G;go_wp2
 go_loopw [5] (λi wr=> ∃k:Nat,k<=n/\i=vI k/\ϣ a wr) (λi _=>n - (intOf i).toNat)
 case atStart=>exact⟨0,Nat.zero_le _,rfl,bR⟩
 case round=>
  obtain⟨k,hk,rfl,J⟩:=hrel;have d1:=cLz J c1;have d2:=cLz J c2;have H:=bT af J;have ah:w.heap.size<wr.heap.size:=bLt _ _ d1;have ai:w.heap.size+1<wr.heap.size:=bLt _ _ d2;by_cases d:k<n
  ·obtain⟨b1,o1,e1,x1⟩:=H1.o k (by rw[lMp,f.o.1];exact d);obtain⟨b2,o2,e2,y1⟩:=H2.o k (by rw[lMp,f.o.2];exact d);subst e1 e2;have F:=cLz H x1;have u1:=cLz H y1;have aa:(D.map (·.1)).getD k (none,0,0)=(D.getD k ϰ).1:=by rw[gDe,getElem?_map,gEe (by rw[f.o.1];exact d),gDe,gEe (by rw[f.o.1];exact d)];rfl
   have ab:(E.map (·.1)).getD k (none,0,0)=(E.getD k ϰ).1:=by rw[gDe,getElem?_map,gEe (by rw[f.o.2];exact d),gDe,gEe (by rw[f.o.2];exact d)];rfl
   rw[aa]at F;rw[ab]at u1;have q:Ϣ (∀a,ϣ w a->CT 151 #[hdV (D.getD k ϰ).1,hdV (E.getD k ϰ).1] a (ψ a (.bool true))):=λa c=>O.o k a d c;obtain⟨⟨⟨s1,s2,s3⟩,sl⟩,hz⟩:∃z,D.getD k ϰ=z:=⟨_,rfl⟩;obtain⟨⟨⟨t1,t2,t3⟩,tl⟩,ad⟩:∃z,E.getD k ϰ=z:=⟨_,rfl⟩;rw[hz]at F q;rw[ad]at u1 q;unfold hdV at F u1 q;dsimp only at F u1 q;have i1:=nn0 k;have i2:(k:Int)<(n:Int):=Ϥ;clear hz ad aa ab x1 y1;go_wp2
   go_region_held3 (λM=>Δ M w 2 (vS (some ⟨b1,o1,none⟩) n A)/\Δ M (w+1) 2 (vS (some ⟨b2,o2,none⟩) n B)/\Δ M b1 (o1+k) (vS s1 s2 s3)/\Δ M b2 (o2+k) (vS t1 t2 t3)) (first|go_keep|exact⟨cLz s d1,cLz s d2,cLz s F,cLz s u1⟩)
    (first|(go_at_call 151;refine(q.o _ H.drew).mono ?_;rintro e wq ⟨rfl,ae⟩;have s:ϣ wr wq:=bR.drew.trans ae))
   all_goals
    go_wp2;go_roundw;exact⟨k+1,Ϥ,by go_num,bT J s⟩;simp[intOf];omega
  ·go_wp2;go_ret;exact⟨rfl,H⟩
theorem Y7(e:EM)(x:Ent)(w:Ϡ)(h:ER w e x)(hw:wfE x)(O:x.key.size<=140737488355328):
 χ 188 #[e.val] w (ψ w (.bool (Dv x))):=by
 obtain⟨c,u,s,⟨V,b1,Z⟩,H⟩:=e;obtain⟨h1,h2,h3,h4,h5,K⟩:=h;obtain⟨xk,xt,xs,y,xm⟩:=x;obtain⟨a,Q,S⟩:=hw;dsimp only at h1 h2 h3 h4 h5 K a Q S O;subst h1 h2 h3 h4 h5;obtain⟨R,F⟩:=nM (Dv ⟨c,u,s,y,H⟩);have ab:Ϣ (EH ⟨c,u,s,y,H⟩->true=R):=λh=>by rw[<-F,Gb h]
 have z:Ϣ (¬EH ⟨c,u,s,y,H⟩->false=R):=λh=>by rw[<-F,O1 h]
 have D:=hIz (λ(a:Ϡ) (B:ϣ w a)=>Cr V Z y a (vl.Ac K B) Q S);have q:=hIz (λ(a:Ϡ)=>tm.BD u a);rw[F];obtain⟨ke,N⟩:=nM (Au y);rw[N]at D;have T:=hV0 N;obtain⟨n,P⟩:=nM y.length;rw[P]at D;unfold EM.val hdV;dsimp only;rw[P];clear F N P K Q S a;have r:ϣ w (ϊ w (φ c u s V n Z H) 166):=ϯ
 cases hf:tm.Bt u with
 |false=>
  have d:Ϣ (false=R):=z.o (λh=>by have:=h.2.2.1;rw[hf]at this;cases this);rw[hf]at q;go_enter func188,ntmps188;go_wp2_with (go_at_call 148;refine(q.o _).mono ?_;rintro e l ⟨rfl,f⟩;subst f);go_ret;exact⟨Aa d.o,r⟩
 |true=>
  rw[hf]at q;by_cases s0:s<0
  ·have d:Ϣ (false=R):=z.o (λh=>by have:=h.2.2.2.1;dsimp only at this;omega);go_enter func188,ntmps188;go_wp2_with (go_at_call 148;refine(q.o _).mono ?_;rintro e l ⟨rfl,f⟩;subst f);go_ret;exact⟨Aa d.o,r⟩
  ·by_cases s2:s>1099511627776
   ·have d:Ϣ (false=R):=z.o (λh=>by have:=h.2.2.2.2;dsimp only at this;omega);go_enter func188,ntmps188;go_wp2_with (go_at_call 148;refine(q.o _).mono ?_;rintro e l ⟨rfl,f⟩;subst f);go_ret;exact⟨Aa d.o,r⟩
   ·by_cases J:ke=0
    ·subst J;obtain⟨m,A⟩:∃m:Bool,(m=true↔isKey c):=by
      rcases Classical.em (isKey c)with h|h
      ·exact⟨true,by simp[h]⟩
      ·exact⟨false,by simp[h]⟩
     have U:Ϣ (∀a,CT 91 #[.string c] a λe l=>(∃E aa cap,e= .returned (.tuple #[vS E aa cap,.bool m]))/\ϣ a l):=λa=>by
      cases hI:m with
      |true=>
       obtain⟨r0,ag,ae⟩:=A.1 hI;exact(Zt c r0 a O ag ae).mono (λe l ⟨⟨E,cap,M,_⟩,B⟩=>⟨⟨E,_,cap,M⟩,B⟩)
      |false=>
       have af:¬isKey c:=λh=>by have:=A.2 h;rw[hI]at this;cases this
       exact(Acd c a O (AbT af)).mono (λe l ⟨M,B⟩=>⟨⟨_,_,_,M⟩,B⟩)
     have d:Ϣ (m=R):=by
      show m=R
      cases hI:m with
      |true=>exact ab.o ⟨A.1 hI,T.o,hf,Ϫ,Ϫ⟩
      |false=>exact z.o (λh=>by have:=A.2 h.1;rw[hI]at this;cases this)
     clear A;go_enter func188,ntmps188;go_wp2_with
      (first
       |(go_at_call 148;refine(q.o _).mono ?_;rintro e l ⟨rfl,f⟩;subst f)
       |(go_at_call 119;refine(D.o _ r).mono ?_;rintro e I ⟨rfl,G⟩;have L:ϣ w I:=bT r G;have c0:Δ I w 0 (.string c):=(by rw[G.cell (p:=⟨w.heap.size,0,none⟩) Ϧ];go_simp))
       |(go_at_call 91;refine(U.o _).mono ?_;rintro e wb ⟨⟨E,aa,cap,rfl⟩,ac⟩))
     go_ret;exact⟨Aa d.o,bT L ac⟩
    ·have ah:(ke !=0)=true:=by simpa using J
     have d:Ϣ (false=R):=z.o (λh=>J (by rw[<-T.o];exact h.2.1));have U:Ϣ True:=trivial;go_enter func188,ntmps188;go_wp2_with (first
      |(go_at_call 148;refine(q.o _).mono ?_;rintro e l ⟨rfl,f⟩;subst f)
      |(go_at_call 119;refine(D.o _ r).mono ?_;rintro e I ⟨rfl,G⟩;have L:ϣ w I:=bT r G))
     go_ret;exact⟨Aa d.o,L⟩
def upB(l:List Ent):Bool:=allB (l.length - 1) λi=>decide (ltP (l.getD i ϰ) (l.getD (i+1) ϰ))
theorem MK{l:List Ent}:upB l=true↔DW l:=by
 unfold upB;rw[AF]
 constructor
 ·exact λh=>JH λi a=>of_decide_eq_true (h i Ϥ)
 ·exact λh i a=>decide_eq_true (NC h i Ϥ)
theorem NF(x:Int):IntKind.i64.wrap x=(x+9223372036854775808) % 18446744073709551616 - 9223372036854775808:=by
 simp only[IntKind.wrap,IntKind.signed,IntKind.bits];simp;split<;>omega
theorem Qa(a:ϡ)(c:Nat)(q:List EM)(l:List Ent)(w:Ϡ)(ha:BR w a q)(hr:ERs w q l)(hl:l.length<=1000000):
 χ 186 #[vS a l.length c] w (ψ w (.bool (upB l))):=by
 have Q:=hV0 ha;have y:=hV0 hr;obtain⟨R,A⟩:=nM (upB l);have U:Ϣ (∀k,k+1<l.length->¬ltP (l.getD k ϰ) (l.getD (k+1) ϰ)->false=R):=λk hk h=>by
  rw[<-A];unfold upB;exact(CP Ϥ (decide_eq_false h)).symm
 have V:Ϣ ((∀k,k+1<l.length->ltP (l.getD k ϰ) (l.getD (k+1) ϰ))->true=R):=λh=>by
  rw[<-A];exact(MK.2 (JH h)).symm
 rw[A];obtain⟨n,O⟩:∃n,l.length=n:=⟨_,rfl⟩;have u:=hV0 O;rw[O]at hl U V⊢;clear O ha hr A;go_enter func186,ntmps186;go_wp2
 go_loopw [3] (λi wr=> ∃k:Nat,(k=0\/k+1<=n)/\i=vI ((k:Int)+1)/\ϣ w wr/\∀j,j<k->ltP (l.getD j ϰ) (l.getD (j+1) ϰ)) (λi _=>n - (intOf i).toNat)
 case atStart=>exact⟨0,.inl rfl,rfl,bR,λj B=>absurd B (Nat.not_lt_zero j)⟩
 case round=>
  obtain⟨k,hk,rfl,D,ab⟩:=hrel;have S:=hV0 ab;clear ab;by_cases N:k+1<n
  ·obtain⟨m,p,Z,x1,x2,x3,x4,x5⟩:=Q.o k (by rw[y.o.1,u.o];omega);obtain⟨b2,o2,e2,y1,y2,y3,y4,y5⟩:=Q.o (k+1) (by rw[y.o.1,u.o];exact N);rw[Z]at e2
   cases e2
   subst Z;obtain⟨F,G,H,s,I,u1,u2,u3,u4,u5⟩:=AfE D x1 x2 x3 x4 x5 y1 y2 y3 y4 y5;clear x1 x2 x3 x4 x5 y1 y2 y3 y4 y5;have h1:=y.o.2 k (by rw[u.o];omega);have h2:=y.o.2 (k+1) (by rw[u.o];exact N);have r:Ϣ (∀E,CT 189 #[(q.getD k ϰ).val,(q.getD (k+1) ϰ).val] E (ψ E (vI (Fg (l.getD k ϰ) (l.getD (k+1) ϰ))))):=λE=>by
    have k0:=LN (q.getD k ϰ) (q.getD (k+1) ϰ) E;rwa[Lq h1 h2]at k0
   obtain⟨K,M⟩:=nM (Fg (l.getD k ϰ) (l.getD (k+1) ϰ));have T:=hV0 M;rw[M]at r;obtain⟨⟨ek,et,aa,⟨r1,r2,r3⟩,em⟩,hz⟩:∃z,q.getD k ϰ=z:=⟨_,rfl⟩;obtain⟨⟨fk,ft,fs,⟨q1,q2,q3⟩,fm⟩,ac⟩:∃z,q.getD (k+1) ϰ=z:=⟨_,rfl⟩;rw[hz]at F G H s I r;rw[ac]at u1 u2 u3 u4 u5 r;unfold EM.val hdV at r;unfold hdV at s u4;dsimp only at F G H s I u1 u2 u3 u4 u5 r;clear hz ac M h1 h2;have i1:=nn0 k;have i2:(k:Int)<(n:Int):=Ϥ;have i3:(0:Int)<=(k:Int)+1:=Ϥ;have i4:(k:Int)+1<(n:Int):=Ϥ;have af:IntKind.i64.wrap ((k:Int)+1 - 1)=(k:Int):=by rw[NF];omega
   have ah:(k:Int)+1 - 1=(k:Int):=Ϥ;have ai:IntKind.i64.wrap (k:Int)=(k:Int):=by rw[NF];omega
   have aj:IntKind.i64.wrap ((k:Int)+1)=(k:Int)+1:=by rw[NF];omega
   have ag:((k:Int)+1).toNat=k+1:=Ϥ;by_cases v1:K<0
   ·have ae:¬K≥0:=Ϥ;have ad:Ϣ (ltP (l.getD k ϰ) (l.getD (k+1) ϰ)):=Hj.1 (by rw[T.o];exact v1);go_wp2
    go_region_held3
     (λf=>Δ f m (p+k * 5) (.string ek)/\Δ f m (p+k * 5+1) (vI et)/\Δ f m (p+k * 5+1+1) (vI aa)/\Δ f m (p+k * 5+1+1+1) (vS r1 r2 r3)/\Δ f m (p+k * 5+1+1+1+1) (.bool em)/\Δ f m (p+(k+1) * 5) (.string fk)/\Δ f m (p+(k+1) * 5+1) (vI ft)/\Δ f m (p+(k+1) * 5+1+1) (vI fs)/\Δ f m (p+(k+1) * 5+1+1+1) (vS q1 q2 q3)/\Δ f m (p+(k+1) * 5+1+1+1+1) (.bool fm))
     (first|go_keep|exact⟨cLz d F,cLz d G,cLz d H,cLz d s,cLz d I,cLz d u1,cLz d u2,cLz d u3,cLz d u4,cLz d u5⟩)
     (first|(go_at_call 189;refine(r.o _).mono ?_;rintro e P ⟨rfl,L⟩;have d:ϣ wr P:=bR.drew.trans L))
    all_goals
     go_wp2;go_roundw;exact⟨k+1,.inr Ϥ,by go_num,bT D d,λj B=>by
      rcases Nat.lt_succ_iff_lt_or_eq.1 B with h|h
      ·exact S.o j h
      ·rw[h];exact ad.o⟩
     simp[intOf];omega
   ·have ae:K≥0:=Ϥ;have J:Ϣ (false=R):=U.o k N (λh=>v1 (by rw[<-T.o];exact Hj.2 h));go_wp2
    go_region_held3
     (λf=>Δ f m (p+k * 5) (.string ek)/\Δ f m (p+k * 5+1) (vI et)/\Δ f m (p+k * 5+1+1) (vI aa)/\Δ f m (p+k * 5+1+1+1) (vS r1 r2 r3)/\Δ f m (p+k * 5+1+1+1+1) (.bool em)/\Δ f m (p+(k+1) * 5) (.string fk)/\Δ f m (p+(k+1) * 5+1) (vI ft)/\Δ f m (p+(k+1) * 5+1+1) (vI fs)/\Δ f m (p+(k+1) * 5+1+1+1) (vS q1 q2 q3)/\Δ f m (p+(k+1) * 5+1+1+1+1) (.bool fm))
     (first|go_keep|exact⟨cLz d F,cLz d G,cLz d H,cLz d s,cLz d I,cLz d u1,cLz d u2,cLz d u3,cLz d u4,cLz d u5⟩)
     (first|(go_at_call 189;refine(r.o _).mono ?_;rintro e P ⟨rfl,L⟩;have d:ϣ wr P:=bR.drew.trans L))
    all_goals
     go_wp2;go_ret;exact⟨Aa J.o,bT D d⟩
  ·have J:Ϣ (true=R):=V.o (λj B=>S.o j Ϥ);have i5:¬(k:Int)+1<(n:Int):=Ϥ;go_wp2;go_ret;exact⟨Aa J.o,D⟩
end bf
end Go.Proofs.YtfkihidbnfkbaaaGreatDoor
