import Derived.Test.YtfkihidbnfkbaaaGreatDoorPb17
set_option linter.all false
set_option maxHeartbeats 8000000
set_option maxRecDepth 100000
open Go.ChangeShapes Go.WideShapes Go.ChangeAt Go.RowKit Go.Joins Go.Deep List
open Inhabited renaming default->ϰ
namespace Go.Proofs.YtfkihidbnfkbaaaGreatDoor
open Go.Proofs.Tryz
namespace bf
open vl
variable {W W1 W2 : ϙ} {o : Obj} {C NB base g : Nat} {x : BX} {b : Buf}
theorem Ld{r:Option Nat}(a:(W1.alloc o).grownBy W2 r):W1.heap.size<=W2.heap.size/\∀k,k<W1.heap.size->r≠some k->W2.heap[k]? =W1.heap[k]? :=
 ⟨by have:=a.size;simp at this;omega,λk c d=>by
  rw[a.block k Ϣ (λe=>d e.symm)];exact Below.heap_alloc _ _ k c⟩
theorem AbG(h:PSt W C NB base x b)(f:Ϝ W W1)(l:(W1.alloc o).grownBy W2 (hdV x.m.1).ownBlock):
 Δ W2 NB 1 (hdV x.m.1)/\Ξ W2 NB 1:=by
 have c:=h.below f;obtain⟨hs,m⟩:=Ld l;obtain⟨d,q⟩:=N2 c hs m;exact⟨(cOb (a:=⟨NB,1,none⟩) d).trans c.k.c1,(AF (p:=⟨NB,1,none⟩) d).trans c.f1⟩
theorem AbH{c4:Nat}{e:EM}{y:Ent}(h:PSt W C NB base x b)(m:Ϝ W W1)(K:OR W1 base e y)
 (J:W2.ownsRow base 166 5 (vS (τ g) (x.m.2.length+1) c4) (x.m.2.length+1) (A1 x.m.2++[.string e.key,vI e.time,vI e.seq,hdV e.row,.bool e.met])) (q:(W1.alloc o).grownBy W2 (hdV x.m.1).ownBlock) (F:(hdV x.m.1).ownBlock=some g\/g=W1.heap.size+1):
 PSt (φ W2 NB 1 (vS (τ g) (x.m.2.length+1) c4)) C NB base ⟨x.ra,x.rc,((some ⟨g,0,none⟩,x.m.2.length+1,c4),x.m.2++[e]),x.rs⟩ ⟨b.lim,b.mem++[y],b.runs⟩/\Below base W (φ W2 NB 1 (vS (τ g) (x.m.2.length+1) c4)):=by
 have c:=h.below m;obtain⟨hs,r⟩:=Ld q;obtain⟨f,B⟩:=N2 c hs r;have s:=LW h.k.ob.mem m K J q;have E:OB W2 base ⟨x.ra,x.rc,((some ⟨g,0,none⟩,x.m.2.length+1,c4),x.m.2++[e]),x.rs⟩ ⟨b.lim,b.mem++[y],b.runs⟩:=Aam c.k.ob s.1 hs r (λD G=>by
  have:g=D:=by cases G;rfl
  subst this;rcases F with l|l
  ·exact .inl l
  ·exact .inr ϝ)
 have z:=A0 c.k.ty f;have L:=(cOb (a:=⟨NB,0,none⟩) f).trans c.k.c0;have A:=(cOb (a:=⟨NB,1,none⟩) f).trans c.k.c1;have M:=(cOb (a:=⟨NB,2,none⟩) f).trans c.k.c2;have N:=(AF (p:=⟨NB,1,none⟩) f).trans c.f1;have O:=(AF (p:=⟨NB,2,none⟩) f).trans c.k.f2;have I:=h.k.ne;have d:∀u,(W2.setCell ⟨NB,1,none⟩ u).heap[C]? =W1.heap[C]? :=λu=>(heap_setCell_other _ _ _ _ ϣ).trans B;refine⟨⟨⟨Ll E z _ _,?_,World.cell?_setCell_same _ _ _ A,?_,?_,A6 z _ _,(cOb (a:=⟨C,0,none⟩) (d _)).trans c.k.r0,(cOb (a:=⟨C,1,none⟩) (d _)).trans c.k.r1,(cOb (a:=⟨C,2,none⟩) (d _)).trans c.k.r2,(AF (p:=⟨C,0,none⟩) (d _)).trans c.k.g0,(AF (p:=⟨C,1,none⟩) (d _)).trans c.k.g1,(AF (p:=⟨C,2,none⟩) (d _)).trans c.k.g2,A0 c.k.rt (d _),I,h.k.up⟩,?_⟩,?_⟩
 ·dsimp only;go_simp
 ·dsimp only;go_simp
 ·go_simp
 ·go_simp
 ·have:=h.k.up;exact s.2.setCell ϣ _
theorem Rv(h:PSt W C NB base x b)(d:(W.alloc o).grownBy W2 (Value.slice x.ra x.rs.length x.rc).ownBlock):
 W2.heap.size≥W.heap.size/\W2.heap[NB]? =W.heap[NB]? /\W2.heap[C]? =W.heap[C]? /\(∀k,Ai W k 166\/Ai W k 119->W2.heap[k]? =W.heap[k]?):=by
 obtain⟨hs,f⟩:=Ld d;have c:∀k t,Ai W k t->t≠33->W2.heap[k]? =W.heap[k]? :=λk t a l=>f k (A2 a) (λe=>tyAt_apart (Av h.k.ob.hds e) a (λe=>l e.symm) rfl);exact⟨hs,c _ _ h.k.ty Ϟ,c _ _ h.k.rt Ϟ,λk a=>by rcases a with a|a;exact c _ _ a Ϟ;exact c _ _ a Ϟ⟩
theorem Z7{cap2:Nat}(h:PSt W C NB base x b)
 (E:W2.ownsRow base 33 1 (vS (τ g) (x.rs.length+1) cap2) (x.rs.length+1) ((x.rs.map λp=>hdV p.1)++[hdV x.m.1])) (m:(W.alloc o).grownBy W2 (Value.slice x.ra x.rs.length x.rc).ownBlock):
 PSt (φ (φ W2 NB 2 (vS (τ g) (x.rs.length+1) cap2)) NB 1 (vS none 0 0)) C NB base ⟨some ⟨g,0,none⟩,cap2,((none,0,0),[]),x.rs++[x.m]⟩ ⟨b.lim,[],b.runs++[b.mem]⟩/\Below base W (φ (φ W2 NB 2 (vS (τ g) (x.rs.length+1) cap2)) NB 1 (vS none 0 0)):=by
 obtain⟨hs,f,r,A⟩:=Rv h m;have s:=Acm h.k.ob E hs A;have l:=A0 h.k.ty f;have F:=(cOb (a:=⟨NB,0,none⟩) f).trans h.k.c0;have G:=(cOb (a:=⟨NB,1,none⟩) f).trans h.k.c1;have I:=(cOb (a:=⟨NB,2,none⟩) f).trans h.k.c2;have J:=(AF (p:=⟨NB,1,none⟩) f).trans h.f1;have K:=(AF (p:=⟨NB,2,none⟩) f).trans h.k.f2;have D:=h.k.ne;have d:∀u q,((W2.setCell ⟨NB,2,none⟩ u).setCell ⟨NB,1,none⟩ q).heap[C]? =W.heap[C]? :=λu q=>(heap_setCell_other _ _ _ _ ϣ).trans ((heap_setCell_other _ _ _ _ ϣ).trans r);refine⟨⟨⟨Ll (Ll s l _ _) (A6 l _ _) _ _,?_,?_,?_,?_,A6 (A6 l _ _) _ _,(cOb (a:=⟨C,0,none⟩) (d _ _)).trans h.k.r0,(cOb (a:=⟨C,1,none⟩) (d _ _)).trans h.k.r1,(cOb (a:=⟨C,2,none⟩) (d _ _)).trans h.k.r2,(AF (p:=⟨C,0,none⟩) (d _ _)).trans h.k.g0,(AF (p:=⟨C,1,none⟩) (d _ _)).trans h.k.g1,(AF (p:=⟨C,2,none⟩) (d _ _)).trans h.k.g2,A0 h.k.rt (d _ _),D,h.k.up⟩,?_⟩,?_⟩
 ·dsimp only;go_simp
 ·unfold hdV;dsimp only;go_simp
 ·dsimp only;rw[lAp];go_simp
 ·go_simp
 ·go_simp
 ·have:=h.k.up;have B:=h.k.ob.low;have y:Below base W W2:=(bR.alloc B o).grown m Ϣ (λc z=>(AE h.k.ob.hds z).1);exact(y.setCell ϣ _).setCell ϣ _
theorem WY{O:Array Oper}{o:Oper}{a:Act}{K:Act->World->Prop}{Q:Exit->Act->World->Prop}{E:Prop}(A:o.guard=none)(s x:Operand)
 (F:o.op= .call {callee:=.builtin .append,args:=#[s,x],argTypes:=#[33,33]})
 (base:Nat) (v:Value) (L:List EM) (f:ByteArray) (p m:Int) (ad:Ϛ) (q cap:Nat) (l:Bool) (c:ϙ) (d:Nat) (D:c.ownsRow base 166 5 v d (A1 L)) (R:d<=1000000) (P:base<=c.heap.size)
 (hs:a.eval s=v) (G:a.eval x=vS (τ c) 1 1)
 (h:∀g y r,r.ownsRow base 166 5 (vS (τ g) (d+1) y) (d+1) (A1 L++[.string f,vI p,vI m,vS ad q cap,.bool l])->(c.alloc (.cells (ζ f p m ad q cap l) 166)).grownBy r v.ownBlock->(v.ownBlock=some g\/g=c.heap.size+1)->g<r.heap.size->K (a.put o.dst (vS (τ g) (d+1) y)) r):
 if Region.wanted o (yielded O a.tmps)=true then Oper.wp Tryz.prog o a (ξ c (ζ f p m ad q cap l) 166) K Q else E:=by
 obtain⟨N,B,I,J,M⟩:=info_parts VD;exact step_append_lies _ A s x 33 F base 166 N (.agg #[ϊ,ω,ω,ψ,ϋ]) 5 64 underlying33 B I J M rfl Ϟ v d (A1 L) hs
  (D.alloc _) ⟨c,0,none⟩ 1 1 [.string f,vI p,vI m,vS ad q cap,.bool l] G rfl (EA _ _ _ _ _ _ _) (by intro u z;simp at z;rcases z with rfl|rfl|rfl|rfl|rfl<;>rfl) Ϟ ϧ ϝ Ϣ (c.heap.size+1) ϟ h
end bf
namespace bf
open vl
attribute [local go_sem] Oper.semAt_some
def Hb(b:Buf)(l:List Ent):Buf:=if b.lim<(l.length:Int)then⟨b.lim,[],b.runs++[l]⟩else⟨b.lim,l,b.runs⟩
theorem AdF(b:Buf)(x:BX)(e:EM)(y:Ent)(w:ϙ)(h:bufAt w b x)(hw:∀y∈Ac b,wfE y/\wfP (Bd y))(hs:(Ac b).length<=4611686018427387904)(he:FV b=0)(hr:ER w e y)(hy:wfE y)(hf:F8 y=true)(hh:hasB (Ac b) (Bd y)=false)(hm:(Ac b).length≠4096):
 η 345 #[AZ b x,e.val] w λr w'=>(∃x' l',r= .returned (.tuple #[AZ (Hb b l') x',ω])/\l'.Perm (b.mem++[y])/\N0 l'/\OB w' w x' (Hb b l'))/\Ϝ w w':=by
 have KC:ϛ (∀f,Ϝ w f->CT 100 #[AZ b x] f (θ f (vI 0))):=λf M=>by
  have:=AH b x f (An h M) hw hs;rwa[he]at this
 have KE:ϛ (∀f,Ϝ w f->CT 271 #[e.val] f (θ f (.bool true))):=λf M=>by
  have:=Hq e y f (hr.below M) hy;rwa[hf]at this
 have KP:=hIz (λ(f:ϙ)=>Hp e f);have KH:ϛ (∀f,Ϝ w f->CT 350 #[AZ b x,.agg #[.string e.key,vI e.time,vI e.seq]] f (θ f (.bool false))):=λf M=>by
  have k:=Ac5 b x (Bd y) f (An h M);rw[hh]at k;unfold BC Bd at k;rw[<-hr.key,<-hr.time,<-hr.seq]at k;exact k
 have KS:=hIz (λ(f:ϙ) (M:Ϝ w f)=>MH b x f (An h M) hs);have bd:=FU he;have ak:=bd.small;have bw:=ak.1 b.mem (mem_cons_self ..);have KK:ϛ (∀f,Ϝ w f->CT 253 #[AZ b x,.func (.func 254) #[] #[]] f λr w'=>(∃x',r= .returned (AZ b x')/\OB w' f x' b)/\Ϝ f w'):=λf M=>by
  have k:=H8 254 (enters_of func254 Ϡ rfl) #[] (λ_=>true) b x f (An h M) ak.1 ak.2.1 ak.2.2 (λe y R _ _ _=>by rw[Array.append_empty];exact GR e R);rw[Jl bd]at k;exact k
 have b2:y.row.length<=1000000:=by
  have h1:=(O6.1 hf).2.1;unfold A5 at h1;by_cases h8:8<y.row.length
  ·rw[if_pos h8]at h1;cases h1
  ·omega
 have KF:=hIz (λ(f:ϙ) (M:Ϝ w f)=>FX e y f (hr.below M) b2);have aw:=hqz hr;obtain⟨N,hN⟩:=nM ((Ac b).length);rw[hN]at KS hm;have dp:((N:Int)==4096)=false:=by simpa using(λh=>hm ϝ:¬(N:Int)=4096)
 have cf:=hqz bw;have bx:b.runs.length<=100000:=ak.2.1;have ci:=hqz bx;clear h hw hs he hr hy hf hh hm bd ak bw hN b2 bx;obtain⟨ra,rc,⟨⟨m1,m2,m3⟩,ml⟩,rs⟩:=x;obtain⟨d,ac,Q⟩:=b;obtain⟨I,L,K,⟨r1,r2,r3⟩,J⟩:=e;rw[show AZ ⟨d,ac,Q⟩ ⟨ra,rc,((m1,m2,m3),ml),rs⟩= .agg #[vI d,vS m1 m2 m3,vS ra rs.length rc]from rfl]at KC KH KS KK⊢;unfold EM.val EM.to hdV at KF;unfold EM.val hdV at KE KP⊢;dsimp only at KE KP KH KF⊢;obtain⟨n,hn⟩:∃n,rs.length=n:=⟨_,rfl⟩;rw[hn]at KC KH KS KK⊢;clear hn;obtain⟨rl,be⟩:=nM y.row.length;have ck:=hqz be;rw[be]at KF;clear be;have bn:Ϝ w (ξ (ξ (ξ w (ν d m1 m2 m3 ra n rc) 36) (ζ I L K r1 r2 r3 J) 166) #[ω,ψ,ψ] 36):=by
  repeat (first|exact bR|(refine Below.alloc ?_ Ϥ _))
 have ay:=Kg (ξ (ξ w (ν d m1 m2 m3 ra n rc) 36) (ζ I L K r1 r2 r3 J) 166);rw[World.size_alloc,World.size_alloc]at ay;have cg:ϛ (nbAt (ξ (ξ (ξ w (ν d m1 m2 m3 ra n rc) 36) (ζ I L K r1 r2 r3 J) 166) #[ω,ψ,ψ] 36) (w.heap.size+1+1)):=ay;clear ay;go_enter func345,ntmps345;go_wp2_with (first
  |(go_at_call 100;refine(KC.o _ bn).mono ?_;rintro e R ⟨rfl,S⟩;have br:Ϝ w R:=bT bn S;have c8:=Cl S cg.o;have k0:Δ R w 0 (vI d):=cLz S ϡ;have k1:Δ R w 1 (vS m1 m2 m3):=cLz S ϡ;have k2:Δ R w 2 (vS ra n rc):=cLz S ϡ;have d0:Δ R (w+1) 0 (.string I):=cLz S ϡ;have d1:Δ R (w+1) 1 (vI L):=cLz S ϡ;have d2:Δ R (w+1) 2 (vI K):=cLz S ϡ;have d3:Δ R (w+1) 3 (vS r1 r2 r3):=cLz S ϡ;have d4:Δ R (w+1) 4 (.bool J):=cLz S ϡ)
  |(go_at_call 271;refine(KE.o _ br).mono ?_;rintro e w3 ⟨rfl,T⟩;have b9:=Cl T c8;have bs:Ϝ w w3:=bT br T;have dt:Δ w3 w 0 (vI d):=cLz T k0;have du:Δ w3 w 1 (vS m1 m2 m3):=cLz T k1;have dv:Δ w3 w 2 (vS ra n rc):=cLz T k2;have co:Δ w3 (w+1) 0 (.string I):=cLz T d0;have cq:Δ w3 (w+1) 1 (vI L):=cLz T d1;have cr:Δ w3 (w+1) 2 (vI K):=cLz T d2;have cs:Δ w3 (w+1) 3 (vS r1 r2 r3):=cLz T d3;have ct:Δ w3 (w+1) 4 (.bool J):=cLz T d4))
 go_region_law (first
  |(go_simp;go_at_call 275;refine(KP.o _).mono ?_;rintro e w4 ⟨rfl,U⟩;have bo:Ϝ w w4:=bs.drew.trans (U.mono bs.size);have ca:=Cl U (LP b9);have v0:Δ w4 (w+1) 0 (.string I):=cLz U co;have v1:Δ w4 (w+1) 1 (vI L):=cLz U cq;have v2:Δ w4 (w+1) 2 (vI K):=cLz U cr;have v3:Δ w4 (w+1) 3 (vS r1 r2 r3):=cLz U cs;have v4:Δ w4 (w+1) 4 (.bool J):=cLz U ct;have u0:Δ w4 w 0 (vI d):=cLz U ϡ;have u1:Δ w4 w 1 (vS m1 m2 m3):=cLz U ϡ;have u2:Δ w4 w 2 (vS ra n rc):=cLz U ϡ)
  |(go_simp;go_at_call 350;refine(KH.o _ bo).mono ?_;rintro e w5 ⟨rfl,Z⟩;have cb:=Cl Z ca;have bp:Ϝ w w5:=bT bo Z;have x0:Δ w5 (w+1) 0 (.string I):=cLz Z v0;have x1:Δ w5 (w+1) 1 (vI L):=cLz Z v1;have x2:Δ w5 (w+1) 2 (vI K):=cLz Z v2;have x3:Δ w5 (w+1) 3 (vS r1 r2 r3):=cLz Z v3;have x4:Δ w5 (w+1) 4 (.bool J):=cLz Z v4;have s0:Δ w5 w 0 (vI d):=cLz Z ϡ;have s1:Δ w5 w 1 (vS m1 m2 m3):=cLz Z ϡ;have s2:Δ w5 w 2 (vS ra n rc):=cLz Z ϡ))
 all_goals
  go_wp2_with (first
   |(go_at_call 232;refine(KS.o _ bp).mono ?_;rintro e w6 ⟨rfl,aa⟩;have cc:=Cl aa cb;have a7:Ϝ w w6:=bT bp aa;have t0:Δ w6 w 0 (vI d):=cLz aa s0;have t1:Δ w6 w 1 (vS m1 m2 m3):=cLz aa s1;have t2:Δ w6 w 2 (vS ra n rc):=cLz aa s2)
   |(go_at_call 253;refine(KK.o _ a7).mono ?_;rintro e c ⟨⟨⟨q,s,⟨⟨D,G,E⟩,ae⟩,P⟩,rfl,c6⟩,af⟩;have an:ϛ (OB c w.heap.size ⟨q,s,((D,G,E),ae),P⟩ ⟨d,ac,Q⟩):=Ct c6 a7.size;rw[show AZ ⟨d,ac,Q⟩ ⟨q,s,((D,G,E),ae),P⟩= .agg #[vI d,vS D G E,vS q P.length s]from rfl];have cd:=Cl af cc;have bq:Ϝ w c:=bT a7 af;obtain⟨F,av⟩:=nM P.length;rw[av]))
  have q0:Δ c (w+1) 0 (.string I):=cLz af (cLz aa x0);have q1:Δ c (w+1) 1 (vI L):=cLz af (cLz aa x1);have q2:Δ c (w+1) 2 (vI K):=cLz af (cLz aa x2);have q3:Δ c (w+1) 3 (vS r1 r2 r3):=cLz af (cLz aa x3);have q4:Δ c (w+1) 4 (.bool J):=cLz af (cLz aa x4);have cx:G=ae.length:=by
   obtain⟨ad,cp,hf⟩:=an.o.mem.form;unfold hdV at hf;injection hf with _ e2 _
  have c3:ae.length<=100000:=by rw[an.o.mem.len];exact cf.o
  have ab:=hqz av;have dr:F<=100000:=by rw[<-av,an.o.rlen];exact ci.o
  have ao:ϛ (PSt (ξ c (ν d D G E q F s) 36) (w.heap.size+1+1) c.heap.size w.heap.size ⟨q,s,((D,G,E),ae),P⟩ ⟨d,ac,Q⟩):=by
   have k:=AdX cd an.o (show w.heap.size<=w.heap.size+1+1 by omega);rw[<-av];exact k
  have aq:Ϝ w (ξ c (ν d D G E q F s) 36):=bq.alloc bq.size _;have ai:Ϝ c (ξ c (ν d D G E q F s) 36):=Ϩ;have y0:=cLz ai q0;have y1:=cLz ai q1;have y2:=cLz ai q2;have y3:=cLz ai q3;have y4:=cLz ai q4;have z1:Δ (ξ c (ν d D G E q F s) 36) c 1 (vS D G E):=ao.o.k.c1;have b8:c.heap.size<(c.alloc (.cells (ν d D G E q F s) 36)).heap.size:=ϟ;have dz:w.heap.size+1<c.heap.size:=bLt _ _ q0;clear s0 s1 s2 t0 t1 t2 u0 u1 u2 q0 q1 q2 q3 q4 b9 ca cb cc cd av x0 x1 x2 x3 x4 v0 v1 v2 v3 v4;subst cx;obtain⟨m,bb⟩:=nM ae.length;have al:=hqz bb;rw[bb]at c3 z1 ao y0 y1 y2 y3 y4 aq ai b8⊢;clear bb;generalize dj:c.alloc (.cells (ν d D m E q F s) 36)=V at *;obtain⟨i0,bv,b3,b4,b5⟩:=info_parts AcR;have HI:ϛ (Tryz.prog.info? 33=some i0/\i0.zero=some (vS none 0 0)/\i0.size=1/\i0.bytes=24):=⟨bv,b3,b4,b5⟩;clear bv b3 b4 b5
  go_region_law (first
   |(refine WY (by rfl) (.tmp 30) (.tmp 33) (by rfl) w.heap.size (vS D m E) ae I L K az rl c9 J w9 m bj.o ϝ (Nat.le_trans aq.size aj.size) (by simp[Act.eval,Act.put]) (by simp[Act.eval,Act.put]) ?_;intro A z da b0 a8 cy dm;have c2:=AbG ao.o aj a8;obtain⟨p1,pf⟩:=c2;unfold hdV at p1;dsimp only at p1)
   |(go_simp;go_at_call 295;refine(KF.o _ aq.drew).mono ?_;rintro e w9 ⟨⟨az,c9,rfl,bz⟩,cz⟩;have aj:Ϝ V w9:=bR.drew.trans cz;have n1:Δ w9 c 1 (vS D m E):=cLz aj z1;have bj:ϛ (w9.ownsRow w.heap.size 166 5 (vS D m E) m (A1 ae)):=(by have k:=own_below ao.o.k.ob.mem.own aj;dsimp only at k;rw[al.o]at k;exact k);have dy:c.heap.size<w9.heap.size:=Nat.lt_of_lt_of_le b8 aj.size))
  all_goals
   have ax:=AbH (e:=⟨I,L,K,(az,rl,c9),J⟩) (y:=y) (g:=A) (c4:=z) ao.o aj ⟨aw.o.key,aw.o.time,aw.o.seq,aw.o.met,ck.o.symm,by unfold hdV;dsimp only;exact Di bz aq.size⟩ (by dsimp only;rw[al.o];exact b0) a8 cy;dsimp only at ax;rw[al.o]at ax;obtain⟨P2,B2⟩:=ax;generalize da.setCell ⟨c,1,none⟩ (vS (τ A) (m+1) z)=W2 at *;have a6:Ϝ w W2:=aq.trans B2;have bk:ϛ (PSt W2 (w.heap.size+1+1) c.heap.size w.heap.size ⟨q,s,((some ⟨A,0,none⟩,m+1,z),ae++[⟨I,L,K,(az,rl,c9),J⟩]),P⟩ ⟨d,ac++[y],Q⟩):=P2;have bm:ϛ (CT 351 #[vS (τ A) (m+1) z,.func (.func 272) #[] #[]] W2 λe w'=>e= .returned (.tuple #[])/\∃cu l',l'.Perm (ac++[y])/\(∀i j,i<j->j<l'.length->¬ltP (l'.getD j ϰ) (l'.getD i ϰ))/\OE w' w (vS (τ A) (m+1) z) cu l'/\Below w.heap.size W2 w'/\(∀b,b<W2.heap.size->(Value.slice (τ A) (m+1) z).ownBlock≠some b->w'.heap[b]? =W2.heap[b]?)):=Sq w.heap.size _ _ _ W2 P2.k.ob.mem (by rw[lAp,al.o];simp;omega);have c1:Δ W2 c 1 (vS (τ A) (m+1) z):=P2.k.c1;have bi:ϛ (ac.length=m):=by show _=_;rw[<-al.o,an.o.mem.len]
   clear P2 y0 y1 y2 y3 y4 z1 b0 a8 bz p1 pf n1 bj;by_cases dl:d<(m:Int)+1
   ·go_wp2_with (first
     |(go_at_call 351;refine bm.o.mono ?_;rintro e B ⟨rfl,ap,O,ar,bg,bc,ah,a9⟩;have l:=Ss bk.o bc ah.size a9;dsimp only at l;have ag:ϛ (PSt B (w.heap.size+1+1) c.heap.size w.heap.size ⟨q,s,((some ⟨A,0,none⟩,m+1,z),ap),P⟩ ⟨d,O,Q⟩):=l;have bh:Δ B c 0 (vI d):=l.k.c0;have b6:Δ B c 1 (vS (τ A) (m+1) z):=l.k.c1;have b7:Δ B c 2 (vS q F s):=(by have k:=l.k.c2;dsimp only at k;rw[ab.o]at k;exact k);have j0:=l.k.r0;have j1:=l.k.r1;have j2:=l.k.r2;have g0:=l.k.g0;have g1:=l.k.g1;have g2:=l.k.g2;have cv:=l.f1;have cw:=l.k.f2;have cj:ϛ (B.ownsRow w.heap.size 33 1 (vS q F s) F (P.map λp=>hdV p.1)):=(by have k:=l.k.ob.hds;dsimp only at k;rw[ab.o]at k;exact k);have ds:w.heap.size<=B.heap.size:=Nat.le_trans a6.size ah.size;have dx:c.heap.size<B.heap.size:=bLt _ _ bh;have dw:w.heap.size+1+1<B.heap.size:=bLt _ _ j0;clear l)
     |(at_builtin;refine wpList_append_own _ rfl (.tmp 46) (.tmp 49) 34 rfl w.heap.size 33 i0 (vS none 0 0) 1 24 underlying34 HI.o.1 HI.o.2.1 HI.o.2.2.1 HI.o.2.2.2 rfl Ϟ _ _ _ rfl (World.ownsRow.alloc cj.o _) ⟨B.heap.size,0,none⟩ 1 1 [vS (τ A) (m+1) z] rfl rfl (cell_one_new _ _ rfl _) (by intro u hu;simp at hu;rcases hu with rfl;rfl) ϧ ϝ Ϣ ?_;intro d5 d6 b1 bu dq;obtain⟨a4,a0,c7⟩:=Nu b1;subst c7;have c0:=Rv ag.o (by dsimp only;rw[ab.o];exact bu);obtain⟨_,eN,eC,_⟩:=c0;have db:=(cOb (a:=⟨c.heap.size,0,none⟩) eN).trans bh;have dc:=(cOb (a:=⟨c.heap.size,1,none⟩) eN).trans b6;have dd:=(cOb (a:=⟨c.heap.size,2,none⟩) eN).trans b7;have de:=(AF (p:=⟨c.heap.size,1,none⟩) eN).trans cv;have df:=(AF (p:=⟨c.heap.size,2,none⟩) eN).trans cw;have cl:=(cOb (a:=⟨w.heap.size+1+1,0,none⟩) eC).trans j0;have cm:=(cOb (a:=⟨w.heap.size+1+1,1,none⟩) eC).trans j1;have cn:=(cOb (a:=⟨w.heap.size+1+1,2,none⟩) eC).trans j2;have dg:=(AF (p:=⟨w.heap.size+1+1,0,none⟩) eC).trans g0;have dh:=(AF (p:=⟨w.heap.size+1+1,1,none⟩) eC).trans g1;have di:=(AF (p:=⟨w.heap.size+1+1,2,none⟩) eC).trans g2;have c5:w.heap.size+1+1≠c.heap.size:=Nat.ne_of_lt ag.o.k.ne))
    have ba:O.length=m+1:=by rw[ar.length_eq,lAp,bi.o];rfl
    have au:Hb ⟨d,ac,Q⟩ O=⟨d,[],Q++[O]⟩:=by unfold Hb;rw[if_pos (by dsimp only;rw[ba];push_cast;omega)]
    have am:=Z7 (g:=a4) (cap2:=a0) ag.o (by dsimp only;rw[ab.o];exact b1) (by dsimp only;rw[ab.o];exact bu);dsimp only at am;rw[ab.o]at am;have a5:=(a6.trans ah).trans am.2;refine bodyPost_ret (v:=.tuple #[.agg #[vI d,ψ,vS (τ a4) (F+1) a0],ω]) (by simp[results,results345,go_sem,cl,cm,cn,c5]) rfl ⟨⟨⟨some ⟨a4,0,none⟩,a0,((none,0,0),[]),P++[((some ⟨A,0,none⟩,m+1,z),ap)]⟩,O,?_,ar,bg,?_⟩,?_⟩
    ·rw[au];unfold AZ hdV;dsimp only;rw[lAp,ab.o];rfl
    ·rw[au];exact LQ am.1.k.ob am.1.k.rt _ _ _
    ·exact((a5.setCell ϣ _).setCell ϣ _).setCell ϣ _
   ·go_wp2_with (go_at_call 351;refine bm.o.mono ?_;rintro e B ⟨rfl,ap,O,ar,bg,bc,ah,a9⟩;have l:=Ss bk.o bc ah.size a9;dsimp only at l;have ag:ϛ (PSt B (w.heap.size+1+1) c.heap.size w.heap.size ⟨q,s,((some ⟨A,0,none⟩,m+1,z),ap),P⟩ ⟨d,O,Q⟩):=l;have bh:Δ B c 0 (vI d):=l.k.c0;have b6:Δ B c 1 (vS (τ A) (m+1) z):=l.k.c1;have b7:Δ B c 2 (vS q F s):=(by have k:=l.k.c2;dsimp only at k;rw[ab.o]at k;exact k);have j0:=l.k.r0;have j1:=l.k.r1;have j2:=l.k.r2;have g0:=l.k.g0;have g1:=l.k.g1;have g2:=l.k.g2;clear l);have ba:O.length=m+1:=by rw[ar.length_eq,lAp,bi.o];rfl
    have a5:Ϝ w B:=a6.trans ah;have au:Hb ⟨d,ac,Q⟩ O=⟨d,O,Q⟩:=by unfold Hb;rw[if_neg (by dsimp only;rw[ba];push_cast;omega)]
    refine bodyPost_ret (v:=.tuple #[.agg #[vI d,vS (τ A) (m+1) z,vS q F s],ω]) (by simp[results,results345,go_sem,j0,j1,j2]) rfl ⟨⟨⟨q,s,((some ⟨A,0,none⟩,m+1,z),ap),P⟩,O,?_,ar,bg,?_⟩,?_⟩
    ·rw[au];unfold AZ hdV;dsimp only;rw[ab.o]
    ·rw[au];exact LQ ag.o.k.ob ag.o.k.rt _ _ _
    ·exact((a5.setCell ϣ _).setCell ϣ _).setCell ϣ _
end bf
namespace bf
open vl
variable {X Y w w' : ϙ} {base cap g i j k n : Nat} {e t : TypeId} {xs : List Value} {v : Value} {b : Buf} {hs : List Hdr} {x : BX}
theorem AbI{size:Nat}(h:w.ownsRow base e size (vS (τ g) n cap) n xs)(j:Nat)(u:j<n * size)(x:Value):(w.setCell ⟨g,j,none⟩ x).ownsRow base e size (vS (τ g) n cap) n (xs.set j x):=by
 refine⟨by rw[length_set];exact h.1,?_⟩;rcases h.2 with⟨c,_⟩|⟨s,r,a,c,l,f,d,m,p,q⟩
 ·cases c
 ·cases c
  have y:n * size<=cap * size:=Nat.mul_le_mul_right _ d;refine .inr ⟨g,cap,a.setIfInBounds j x,rfl,l,?_,d,m,by rw[Array.size_setIfInBounds];exact p,?_⟩
  ·rw[setCell_eq_setRow w g j a e (0,0) x f];exact setRow_heap w g a _ e _ f
  ·rw[Array.toList_setIfInBounds,<-q,take_set]
def EM.meet(e:EM):EM:=⟨e.key,e.time,e.seq,e.row,true⟩
def Ent.meet(x:Ent):Ent:=⟨x.key,x.time,x.seq,x.row,true⟩
theorem IG:∀(l:List EM) (i:Nat),i<l.length->(A1 l).set (i * 5+4) (.bool true)=A1 (l.set i (l.getD i ϰ).meet)
 |[],i,h=>absurd h (Nat.not_lt_zero i)
 |e::l,0,_=>rfl
 |e::l,i+1,h=>by
  have c:=IG l i (by simpa using h);have a:A1 (e::l)= .string e.key::vI e.time::vI e.seq::hdV e.row:: .bool e.met::A1 l:=rfl;rw[a,show(i+1) * 5+4=(i * 5+4)+1+1+1+1+1 by omega];simp only[sS,c,getD_cons_succ];rfl
theorem Dy{α:Type}{l:List α}{a d:α}(h:i<l.length):(l.set i a).getD i d=a:=by
 simp[gDe,h]
theorem Eb{α:Type}{l:List α}{a d:α}(h:i≠j):(l.set i a).getD j d=l.getD j d:=by
 simp[gDe,List.getElem?_set_ne h]
theorem AdG{a:List EM}{l:List Ent}(h:OE w base (vS (τ g) a.length cap) a l)(q:i<l.length):
 OE (φ w g (i * 5+4) (.bool true)) base (vS (τ g) a.length cap) (a.set i (a.getD i ϰ).meet) (l.set i (l.getD i ϰ).meet):=by
 have s:i<a.length:=by rw[h.len];exact q
 refine⟨by simpa[World.setCell]using h.low,?_,by rw[length_set,length_set,h.len],λj u=>?_⟩
 ·rw[length_set,<-IG a i s];exact AbI h.own _ ϝ _
 ·rw[length_set]at u;have y:∀{e:EM} {x:Ent},OR w base e x->OR (φ w g (i * 5+4) (.bool true)) base e x:=λ{e x} k=>by
   obtain⟨d,f,m,r,p,c⟩:=k;exact⟨d,f,m,r,p,A4 c (λb z=>heap_setCell_other _ _ _ _ (λe=>I5 h.own c Ϟ (show(Value.slice (τ g) a.length cap).ownBlock=some b by rw[e];rfl) z))⟩
  by_cases e:i=j
  ·subst e;rw[Dy s,Dy q];obtain⟨d,f,m,r,p,c⟩:=y (h.rows i q);exact⟨d,f,m,rfl,p,c⟩
  ·rw[Eb e,Eb e];exact y (h.rows j u)
theorem AbJ{d:Nat}{c f:List EM}{l s:List Ent}(h:OE w base v c l)(q:OE w d (vS (τ g) n cap) f s)(m:v.ownBlock≠some g)(u:Value):OE (φ w g j u) base v c l:=
 h.same (by simp[World.setCell]) (λb y t p a=>heap_setCell_other _ _ _ _ (λe=>by
  dsimp only at e;rcases a with⟨r,_⟩|a
  ·exact m (by rw[<-e];exact r)
  ·subst a;exact tyAt_apart (Av q.own (show(Value.slice (τ g) n cap).ownBlock=some b by rw[e];rfl)) ⟨_,_,p⟩ Ϟ rfl))
def hd0:Hdr:=(none,0,0)
structure OP(w:World)(base:Nat)(hs:List Hdr)(ess:List (List EM))(ls:List (List Ent)):Prop where
 low:base<=w.heap.size
 l1:ess.length=hs.length
 l2:ls.length=hs.length
 oe:∀k,k<hs.length->OE w base (hdV (hs.getD k hd0)) (ess.getD k []) (ls.getD k [])
 two:(hs.map hdV).Pairwise apB
theorem MS{a b:Value}(h:apB a b):apB b a:=λg c d=>h g d c
theorem OP.apart{f:List (List EM)}{q:List (List Ent)}(h:OP w base hs f q)(l:j<hs.length)(m:k<hs.length)(p:j≠k):apB (hdV (hs.getD j hd0)) (hdV (hs.getD k hd0)):=by
 have d:=pairwise_iff_getElem.1 h.two;have e:∀i (c:i<hs.length),hdV (hs.getD i hd0)=(hs.map hdV)[i]'(by rw[lMp];exact c):=λi c=>by
  rw[getElem_map,gDe,gEe c];rfl
 rw[e j l,e k m];rcases Nat.lt_or_gt_of_ne p with a|a
 ·exact d _ _ _ _ a
 ·exact MS (d _ _ _ _ a)
theorem MU{h:Hdr}{m:List EM}{l:List Ent}(q:OE w base (hdV h) m l)(p:0<l.length):∃g,h=(some ⟨g,0,none⟩,m.length,h.2.2):=by
 obtain⟨a,n,c⟩:=h;rcases q.own.2 with⟨_,s⟩|⟨g,cap,u,r,_⟩
 ·rw[<-q.len,s]at p;exact absurd p (Nat.lt_irrefl _)
 ·unfold hdV at r;injection r with d f y
  dsimp only at d f;subst d f;exact⟨g,rfl⟩
theorem AdH{a:List (List EM)}{c:List (List Ent)}(h:OP w base hs a c)(d:k<hs.length)(A:i<(c.getD k []).length)(p:(hs.getD k hd0).1=some ⟨g,0,none⟩):
 OP (φ w g (i * 5+4) (.bool true)) base hs (a.set k ((a.getD k []).set i ((a.getD k []).getD i ϰ).meet)) (c.set k ((c.getD k []).set i ((c.getD k []).getD i ϰ).meet)):=by
 have s:=h.oe k d;obtain⟨f,q⟩:=MU s ϝ;have z:f=g:=by rw[q]at p;cases p;rfl
 subst z;have m:hdV (hs.getD k hd0)=vS (τ f) (a.getD k []).length (hs.getD k hd0).2.2:=by rw[q];rfl
 have l:=s;rw[m]at l;refine⟨by simpa[World.setCell]using h.low,by rw[length_set];exact h.l1,by rw[length_set];exact h.l2,λj r=>?_,h.two⟩;by_cases e:k=j
 ·subst e;rw[Dy (by rw[h.l1];exact d),Dy (by rw[h.l2];exact d),m];exact AdG l A
 ·rw[Eb e,Eb e];refine AbJ (h.oe j r) l (λy=>?_) _;have:=h.apart r d (λu=>e u.symm) f y;rw[m]at this;exact this rfl
theorem OP.below{a:List (List EM)}{d:List (List Ent)}(h:OP w base hs a d)(c:Ϝ w w'):OP w' base hs a d:=
 ⟨Nat.le_trans h.low c.size,h.l1,h.l2,λk f=>(h.oe k f).below c,h.two⟩
theorem Aew(h:OB w base x b):OP w base ((x.m::x.rs).map (·.1)) ((x.m::x.rs).map (·.2)) (partsB b):=by
 refine⟨h.low,ϟ,by simp[partsB,h.rlen],λk l=>?_,by rw[map_map];exact h.two⟩
 cases k with
 |zero=>exact h.mem
 |succ k=>
  have a:k<x.rs.length:=by simpa using l
  have m:=h.runs k (by rw[<-h.rlen];exact a);have c:((x.m::x.rs).map (·.1)).getD (k+1) hd0=(x.rs.getD k ϰ).1:=by
   simp[gDe,a]
  have d:((x.m::x.rs).map (·.2)).getD (k+1) []=(x.rs.getD k ϰ).2:=by
   simp[gDe,a]
  have f:(partsB b).getD (k+1) []=b.runs.getD k ϰ:=by
   unfold partsB;rw[getD_cons_succ];rfl
  rw[c,d,f];exact m
theorem Le{s:Nat}(h:w.ownsRow base e s v n xs):n<=maxLen:=by
 rcases h.2 with⟨_,a⟩|⟨g,cap,f,_,_,_,c,d,_⟩
 ·rw[a];exact Nat.zero_le _
 ·exact Nat.le_trans c d
theorem C9{p:Part}{l:List Ent}(h:OE w base (hdV p.1) p.2 l):(p.1.2.1=p.2.length/\p.2.length<=χ)/\Cm w p.1.1 p.2:=by
 obtain⟨⟨a,n,c⟩,f⟩:=p;have m:n=f.length:=by
  obtain⟨q,r,d⟩:=h.form;unfold hdV at d;injection d with _ s _
 subst m;refine⟨⟨rfl,?_⟩,?_⟩
 ·have:=Le h.own;unfold maxLen at this;dsimp only at this⊢;omega
 ·exact OE.at h
theorem OB.at(h:OB w base x b):bufAt w b x:=by
 have a:∀p∈x.m::x.rs,∃l,OE w base (hdV p.1) p.2 l:=λp a=>by
  rcases mem_cons.1 a with rfl|a
  ·exact⟨_,h.mem⟩
  ·obtain⟨i,_,_,r⟩:=h.run a;exact⟨_,r⟩
 refine⟨λi c=>?_,λp f=>?_,λp f=>?_,?_,h.mem.ers,h.rlen,λi c=>(h.runs i c).ers⟩
 ·rw[lMp]at c;rcases h.hds.2 with⟨_,y⟩|⟨g,cap,u,s,_⟩
  ·omega
  ·injection s with m _ _
   refine⟨g,0,m,?_⟩;have q:=World.ownsRow.cells h.hds (g:=g) (by rw[m];rfl) i (hdV (x.rs[i]).1) (by rw[getElem?_map,gEe c];rfl);rw[C3]at q;rw[gDe,getElem?_map,gEe c];exact q
 ·obtain⟨l,d⟩:=a p f;exact(C9 d).1
 ·obtain⟨l,d⟩:=a p f;exact(C9 d).2
 ·have:=Le h.hds;unfold maxLen at this;omega
def MV(l:List Ent):Prop:=l.Pairwise ltP
theorem getD_at{α:Type}{l:List α}{d:α}(h:i<l.length):l.getD i d=l[i]:=by
 rw[gDe,gEe h];rfl
theorem Z8{l:List Ent}(h:(l.map Bd).Nodup)(c:i<l.length)(d:j<l.length)(m:i≠j):¬Ea l[i] l[j]:=λhs=>by
 have e:=Yb.2 hs;have f:=pairwise_iff_getElem.1 h;rcases Nat.lt_or_gt_of_ne m with a|a
 ·exact f i j (by simpa using c) (by simpa using d) a (by simpa using e)
 ·exact f j i (by simpa using d) (by simpa using c) a (by simpa using e.symm)
theorem PU{l:List Ent}(h:N0 l)(p:(l.map Bd).Nodup):MV l:=by
 refine pairwise_iff_getElem.2 λi j f c m=>?_;have d:=h i j m c;rw[getD_at f,getD_at c]at d;rcases ltP_tri l[i] l[j]with a|a|a
 ·exact a
 ·exact absurd a (Z8 p f c ϝ)
 ·exact absurd a d
theorem T5{l:List Ent}(h:∀i,i+1<l.length->ltP (l.getD i ϰ) (l.getD (i+1) ϰ)):MV l:=by
 have c:∀d i,i+d+1<l.length->ltP (l.getD i ϰ) (l.getD (i+d+1) ϰ):=by
  intro d
  induction d with
  |zero=>exact λi a=>h i a
  |succ d ih=>exact λi a=>DG (ih i ϝ) (h (i+d+1) a)
 refine pairwise_iff_getElem.2 λi j a f m=>?_;have:=c (j - i - 1) i ϝ;rw[show i+(j - i - 1)+1=j by omega,getD_at a,getD_at f]at this;exact this
theorem T6{l:List Ent}(h:MV l):∀i,i+1<l.length->ltP (l.getD i ϰ) (l.getD (i+1) ϰ):=λi a=>by
 rw[getD_at ϝ,getD_at a];exact pairwise_iff_getElem.1 h i (i+1) ϝ a ϝ
theorem L3{l:List Ent}(P:Ent->Bool)(h:MV l):MV (l.filter P):=h.sublist filter_sublist
theorem Rw:∀{l m:List Ent},l.Perm m->MV l->MV m->l=m
 |[],m,hp,_,_=>(nil_perm.1 hp).symm
 |a::l,[],hp,_,_=>absurd (perm_nil.1 hp) ϟ
 |a::l,b::m,hp,h1,h2=>by
  have d:=pairwise_cons.1 h1;have f:=pairwise_cons.1 h2;have p:a=b:=by
   have ha:a∈b::m:=hp.mem_iff.1 (mem_cons_self ..);have q:b∈a::l:=hp.mem_iff.2 (mem_cons_self ..);rcases mem_cons.1 ha with h|h
   ·exact h
   ·rcases mem_cons.1 q with c|c
    ·exact c.symm
    ·exact absurd (DG (d.1 b c) (f.1 a h)) (Ew _)
  subst p;rw[Rw (List.Perm.cons_inv hp) d.2 f.2]
theorem It{l m:List Ent}(h:l.Perm m):(l.map Bd).Nodup↔(m.map Bd).Nodup:=(h.map Bd).nodup_iff
theorem T7{l:List Ent}{p:Plc}(h:hasB l p=false):p ∉ l.map Bd:=λa=>by
 obtain⟨x,c,e⟩:=mem_map.1 a;unfold hasB at h;have:=any_eq_false.1 h x c;simp[e]at this
theorem D5(b:Buf):Ac b=b.mem++b.runs.flatten:=by unfold Ac partsB;rw[flatten_cons]
theorem Ez(h:okB b):FV b=0:=by
 have f:BG b.lim 1 64=true:=(BN _ _ _).2 h.lim;have l:countB b=true:=by unfold countB;simp only[Bool.and_eq_true,decide_eq_true_eq];exact⟨h.mem,h.all⟩
 have m:FI b=true:=by
  unfold FI;simp only[Bool.and_eq_true];refine⟨A9.2 λi a=>?_,?_,?_⟩
  ·rw[getD_at a];have d:(partsB b)[i]∈partsB b:=getElem_mem a;refine A9.2 λj c=>?_;unfold Fp;simp only[Bool.and_eq_true,Bool.or_eq_true,decide_eq_true_eq];refine⟨Io ?_,?_⟩
   ·rw[getD_at c];exact h.fine _ d _ (getElem_mem c)
   ·cases j with
    |zero=>exact .inl rfl
    |succ j=>exact .inr (h.rise _ d j c)
  ·unfold IJ;refine A9.2 λi a=>?_;rw[getD_at a];exact decide_eq_true (h.full _ (getElem_mem a))
  ·unfold Ib;exact decide_eq_true h.once
 unfold FV;rw[f,l,m];rfl
theorem okB.rises(h:okB b){l:List Ent}(a:l∈partsB b):MV l:=T5 (h.rise l a)
theorem okB.entry(h:okB b){y:Ent}(hy:y∈Ac b):Eh y:=by
 obtain⟨l,a,hy⟩:=mem_flatten.1 hy;exact h.fine l a y hy
theorem T8(c:1<=b.lim/\b.lim<=64)(d:(b.mem.length:Int)<=b.lim)(f:(Ac b).length<=4096)(h:∀y∈Ac b,Eh y)(m:∀l∈partsB b,MV l)(p:∀r∈b.runs,0<r.length)(q:((Ac b).map Bd).Nodup):okB b:=
 ⟨c,d,f,λl a y hy=>h y (mem_flatten.2 ⟨l,a,hy⟩),λl a=>T6 (m l a),p,q⟩
theorem Rx{d:List Ent}{y:Ent}(c:d.Perm (b.mem++[y])):(Ac (Hb b d)).Perm (y::Ac b):=by
 have a:(b.mem++[y]++b.runs.flatten).Perm (y::(b.mem++b.runs.flatten)):=by
  rw[append_assoc];exact perm_middle
 unfold Hb;split
 ·rw[D5,D5];dsimp only;rw[flatten_append,nil_append];simp only[flatten_cons,flatten_nil,append_nil];exact(perm_append_comm).trans ((c.append_right _).trans a)
 ·rw[D5,D5];exact(c.append_right _).trans a
theorem WZ{d:List Ent}{y:Ent}(h:okB b)(A:Eh y)(q:hasB (Ac b) (Bd y)=false)(I:(Ac b).length≠4096)(m:d.Perm (b.mem++[y]))(u:N0 d):okB (Hb b d):=by
 have f:=Rx (b:=b) m;have F:((y::Ac b).map Bd).Nodup:=nodup_cons.2 ⟨T7 q,h.once⟩;have D:(d.map Bd).Nodup:=by
  rw[It m];have hs:((b.mem++[y]).map Bd).Perm ((y::b.mem).map Bd):=(perm_append_comm).map _;rw[hs.nodup_iff];refine nodup_cons.2 ⟨λE=>T7 q ?_,?_⟩
  ·rw[D5,map_append];exact mem_append.2 (.inl E)
  ·have:=h.once;rw[D5,map_append]at this;exact(nodup_append.1 this).1
 have s:=PU u D;have B:(Hb b d).lim=b.lim:=by unfold Hb;split<;>rfl
 refine T8 (by rw[B];exact h.lim) ?_ ?_ (λz p=>?_) (λl a=>?_) (λr c=>?_) ?_
 ·have:=h.lim;unfold Hb;split
  ·dsimp only[length_nil];omega
  ·dsimp only;omega
 ·rw[f.length_eq,length_cons];have:=h.all;omega
 ·rcases mem_cons.1 (f.mem_iff.1 p)with rfl|p
  ·exact A
  ·exact h.entry p
 ·unfold Hb at a;split at a
  ·rcases mem_cons.1 a with rfl|a
   ·exact List.Pairwise.nil
   ·rcases mem_append.1 a with a|a
    ·exact h.rises (mem_cons_of_mem _ a)
    ·have:l=d:=by simpa using a
     rw[this];exact s
  ·rcases mem_cons.1 a with rfl|a
   ·exact s
   ·exact h.rises (mem_cons_of_mem _ a)
 ·have G:d.length=b.mem.length+1:=by rw[m.length_eq];simp
  unfold Hb at c;split at c
  ·rcases mem_append.1 c with c|c
   ·exact h.full r c
   ·have:r=d:=by simpa using c
    rw[this];omega
  ·exact h.full r c
 ·rw[It f];exact F
theorem OG(P:Ent->Bool):∀l:List (List Ent),(DK P l).flatten=l.flatten.filter P
 |[]=>rfl
 |r::l=>by
  have a:=OG P l;unfold DK at a⊢;rw[map_cons,flatten_cons,filter_append,<-a];by_cases h:0<(r.filter P).length
  ·rw[filter_cons_of_pos (by simpa using h),flatten_cons]
  ·have:r.filter P=[]:=length_eq_zero_iff.1 ϝ;rw[filter_cons_of_neg (by simpa using h),this,nil_append]
theorem Iu(P:Ent->Bool)(b:Buf):Ac (CY P b)=(Ac b).filter P:=by
 rw[D5,D5,filter_append];unfold CY;dsimp only;rw[OG]
theorem Jh(P:Ent->Bool)(h:okB b):okB (CY P b):=by
 have c:=Iu P b;refine T8 h.lim ?_ ?_ (λz f=>?_) (λl a=>?_) (λr d=>?_) ?_
 ·have m:=h.mem;have p:(CY P b).mem.length<=b.mem.length:=length_filter_le _ _;show((CY P b).mem.length:Int)<=b.lim;omega
 ·rw[c];exact Nat.le_trans (length_filter_le _ _) h.all
 ·rw[c]at f;exact h.entry (mem_filter.1 f).1
 ·rcases mem_cons.1 a with rfl|a
  ·exact L3 P (h.rises (mem_cons_self ..))
  ·obtain⟨a,_⟩:=mem_filter.1 (show l∈DK P b.runs from a);obtain⟨r,d,rfl⟩:=mem_map.1 a;exact L3 P (h.rises (mem_cons_of_mem _ d))
 ·obtain⟨_,a⟩:=mem_filter.1 (show r∈DK P b.runs from d);exact of_decide_eq_true a
 ·rw[c];exact h.once.sublist (filter_sublist.map _)
def x0:BX:=⟨none,0,((none,0,0),[]),[]⟩
def notE:Nat->Obj->Prop:=λ_ o=> ∀c f,o≠ .cells c 166 f
theorem T9{W:ϙ}{b:Nat}(h:Ai W b t)(p:t≠166):names notE W b:=λo m c f e=>by
 obtain⟨q,r,a⟩:=h;rw[m]at a;rw[e]at a;injection a with d
 injection d with _ l _
 exact p l.symm
theorem OP.same{a:List (List EM)}{d:List (List Ent)}(h:OP w base hs a d)(c:w.heap.size<=w'.heap.size)(f:∀g,Ai w g 166\/Ai w g 119->w'.heap[g]? =w.heap[g]?):OP w' base hs a d:=
 ⟨Nat.le_trans h.low c,h.l1,h.l2,λk l=>(h.oe k l).other c f,h.two⟩
theorem ty_row{d:Option Nat}(p:X.grownBy Y d)(q:∀r,d=some r->∃x:Obj,X.heap[r]? =some x/\x.isCells=false)(h:Ai X g t):Y.heap[g]? =X.heap[g]? :=
 p.block g (A2 h) (λe=>by
  obtain⟨x,a,l⟩:=q g e.symm;obtain⟨c,f,m⟩:=h;rw[m]at a;cases a;cases l)
theorem DI{α:Type}{l:List α}{d:α}(h:k<l.length):l.drop k=l.getD k d::l.drop (k+1):=by
 rw[drop_eq_getElem_cons h,gDe,gEe h];rfl
theorem set_mid{α β:Type}(f:α->β)(A:List α)(k:Nat)(x y:β)(B:List β)(h:k<=A.length):((A.take k).map f++x::B).set k y=(A.take k).map f++y::B:=by
 have a:((A.take k).map f).length=k:=by rw[lMp,length_take];omega
 rw[set_append_right _ _ ϝ,a,Nat.sub_self];rfl
theorem Ry{α β:Type}(f:α->β)(l:List α)(k:Nat)(d:α)(h:k<l.length):(l.take (k+1)).map f=(l.take k).map f++[f (l.getD k d)]:=by
 rw[take_succ_eq_append_getElem h,map_append,gDe,gEe h];rfl
theorem set_self{α:Type}{l:List α}{d:α}(h:k<l.length):l.set k (l.getD k d)=l:=by
 rw[gDe,gEe h];exact set_getElem_self _
theorem MW{c:Nat->Obj->Prop}(d:Ϝ X Y):Aq c X Y:=λb o a _ _=>(d.block b (Array.getElem?_eq_some_iff.1 a).1).trans a
theorem AbK{a b:ByteArray}(h:a≠b):¬a.toList=b.toList:=λe=>h (by have:=bytes_beq a b;rw[e]at this;simpa using this.symm)
theorem Xa(e f:EM)(w:ϙ):η 189 #[e.val,f.val] w (θ w (vI (Ge e.ent f.ent))):=by
 obtain⟨R,z⟩:=nM (Ge e.ent f.ent);have a:ϛ (AG [Lib.compareBytes (bl e.key) (bl f.key),CL e.time f.time,CL e.seq f.seq]=R):=by
  show _=_;rw[<-z];exact Jd e.ent f.ent
 rw[z];clear z;obtain⟨d,h,s,⟨N,O,P⟩,G⟩:=e;obtain⟨m,l,u,⟨K,L,M⟩,I⟩:=f;unfold EM.val hdV;dsimp only at a⊢;by_cases A:d=m
 ·subst A;have y:Lib.compareBytes (bl d) (bl d)=0:=by rw[LN];simp
  rw[y]at a;by_cases q:CL h l=0
  ·have c:ϛ (CL s u=R):=by
    show _=_;rw[<-a.o,q];unfold AG;by_cases E:CL s u=0<;>simp[AG,E]
   clear a y;have D:ϛ (∀r,CT 193 #[vI h,vI l] r λe w'=>e= .returned (vI 0)/\w'=r):=λr=>by have:=Kz h l r;rwa[q]at this
   go_enter func189,ntmps189;go_wp2_with (go_at_call 193;first|(refine(D.o _).mono ?_;rintro e w' ⟨rfl,rfl⟩)|(refine(Kz s u _).mono ?_;rintro e w' ⟨rfl,rfl⟩));go_ret;refine⟨Aj c.o,?_⟩
   repeat (first|exact bR|apply Below.drew|(refine Below.alloc ?_ Ϥ _))
  ·have c:ϛ (CL h l=R):=by
    show _=_;rw[<-a.o];simp[AG,q]
   clear a y;have J:(CL h l !=0)=true:=by simpa using q
   go_enter func189,ntmps189;go_wp2_with (go_at_call 193;refine(Kz h l _).mono ?_;rintro e w' ⟨rfl,rfl⟩);go_ret;refine⟨Aj c.o,?_⟩
   repeat (first|exact bR|apply Below.drew|(refine Below.alloc ?_ Ϥ _))
 ·have B:=AbK A;have Q:(d.toList==m.toList)=false:=by simpa using B
  clear B;by_cases p:bl d<bl m
  ·have c:ϛ ((-1:Int)=R):=by
    show _=_;rw[<-a.o,LN,if_pos p];rfl
   clear a;have F:Op.bytesLess d.toList m.toList=true:=by rw[Lib.toList_data,Lib.toList_data,F0];exact decide_eq_true p
   go_enter func189,ntmps189;go_wp2;go_ret;refine⟨Aj c.o,?_⟩
   repeat (first|exact bR|apply Below.drew|(refine Below.alloc ?_ Ϥ _))
  ·have c:ϛ ((1:Int)=R):=by
    show _=_;rw[<-a.o,LN,if_neg p,if_neg (λe=>A (PG e))];rfl
   clear a;have F:Op.bytesLess d.toList m.toList=false:=by rw[Lib.toList_data,Lib.toList_data,F0];exact decide_eq_false p
   go_enter func189,ntmps189;go_wp2;go_ret;refine⟨Aj c.o,?_⟩
   repeat (first|exact bR|apply Below.drew|(refine Below.alloc ?_ Ϥ _))
end bf
namespace bf
open vl
attribute [local go_sem] Oper.semAt_some
variable {w : ϙ} {b : Buf} {x x' : BX}
theorem Rz(a T:Ϛ)(c c':Nat)(p q:List EM)(l:List Ent)(w:ϙ)(ha:Cm w a p)(hr:ERs w p l)(aa:Cm w T q)(ab:ERs w q l)(hl:l.length<=χ)(ac:∀y∈l,y.row.length<=χ):
 η 151 #[vS a l.length c,vS T l.length c'] w (θ w (.bool true)):=by
 have HA:=hqz ha;have ae:=hqz aa;have R:=hqz hr;have S:=hqz ab;have af:=hqz ac;obtain⟨n,Q⟩:∃n,l.length=n:=⟨_,rfl⟩;have u:=hqz Q;rw[Q]at hl⊢;clear Q ha aa hr ab ac;go_enter func151,ntmps151;go_wp2
 go_loopw [5] (λi wr=> ∃k:Nat,k<=n/\i=vI k/\Ϝ w wr) (λi _=>n - (intOf i).toNat)
 case atStart=>exact⟨0,Nat.zero_le _,rfl,bR⟩
 case round=>
  obtain⟨k,hk,rfl,d⟩:=hrel;by_cases D:k<n
  ·obtain⟨b1,o1,e1,x1,x2,x3,x4,x5⟩:=HA.o k (by rw[R.o.1,u.o];exact D);obtain⟨b2,o2,e2,y1,y2,y3,y4,y5⟩:=ae.o k (by rw[S.o.1,u.o];exact D);subst e1 e2;have L:=cLz d x1;have M:=cLz d x2;have N:=cLz d x3;have E:=cLz d x4;have O:=cLz d x5;have u1:=cLz d y1;have u2:=cLz d y2;have u3:=cLz d y3;have u4:=cLz d y4;have u5:=cLz d y5;clear x1 x2 x3 x4 x5 y1 y2 y3 y4 y5;have r:=(R.o.2 k (by rw[u.o];exact D)).below d;have s:=(S.o.2 k (by rw[u.o];exact D)).below d;have hm:l.getD k ϰ∈l:=Bj (by rw[u.o];exact D);have P:=af.o _ hm;have A:ϛ (∀m,CT 189 #[(p.getD k ϰ).val,(q.getD k ϰ).val] m (θ m (vI 0))):=λm=>by
    have K:=Xa (p.getD k ϰ) (q.getD k ϰ) m;rwa[Rk r s,WT.2 (Tq _)]at K
   have B:ϛ (∀m,Ϝ wr m->CT 94 #[hdV (p.getD k ϰ).row,hdV (q.getD k ϰ).row] m (θ m (.bool true))):=λm hb=>by
    have K:=Ni (p.getD k ϰ).row.1 (q.getD k ϰ).row.1 (p.getD k ϰ).row.2.2 (q.getD k ϰ).row.2.2 (l.getD k ϰ).row (l.getD k ϰ).row m (Ab r.row hb) (Ab s.row hb) P P;rw[decide_eq_true rfl]at K;unfold hdV;rw[r.len,s.len];exact K
   have F:=r.key.trans s.key.symm;have G:=r.time.trans s.time.symm;have I:=r.seq.trans s.seq.symm;have J:=r.met.trans s.met.symm;clear r s hm P;obtain⟨⟨U,et,Z,⟨r1,r2,r3⟩,V⟩,hz⟩:∃z,p.getD k ϰ=z:=⟨_,rfl⟩;obtain⟨⟨fk,ft,fs,⟨q1,q2,q3⟩,fm⟩,ad⟩:∃z,q.getD k ϰ=z:=⟨_,rfl⟩;rw[hz]at L M N E O A B F G I J;rw[ad]at u1 u2 u3 u4 u5 A B F G I J;unfold EM.val hdV at A;unfold hdV at B E u4;dsimp only at L M N E O u1 u2 u3 u4 u5 A B F G I J;subst F G I J;clear hz ad;have i1:(0:Int)<=(k:Int):=ϝ;have i2:(k:Int)<(n:Int):=ϝ;have dr:Ϝ wr wr.drew:=bR.drew;go_wp2
   go_region_held3
    (λw'=>Ϙ w' b1 (o1+k * 5) (.string U) (vI et) (vI Z) (vS r1 r2 r3) (.bool V) (ϕ w' b2 (o2+k * 5) (.string U) (vI et) (vI Z) (vS q1 q2 q3) (.bool V)))
    (first|go_keep|exact⟨cLz h L,cLz h M,cLz h N,cLz h E,cLz h O,cLz h u1,cLz h u2,cLz h u3,cLz h u4,cLz h u5⟩|exact⟨cLz f L,cLz f M,cLz f N,cLz f E,cLz f O,cLz f u1,cLz f u2,cLz f u3,cLz f u4,cLz f u5⟩)
    (first
     |(go_at_call 94;refine(B.o _ f).mono ?_;rintro e wq ⟨rfl,ah⟩;have h:=bT f ah)
     |(go_at_call 189;refine(A.o _).mono ?_;rintro e wp ⟨rfl,ag⟩;have f:=dr.trans ag))
   all_goals
    have ai:Ϝ w wq:=bT d h;go_wp2;go_roundw
    case rel=>exact⟨k+1,ϝ,by go_num,ai⟩
    case measure=>simp[intOf];omega
  ·go_wp2;go_ret;exact⟨rfl,d⟩
theorem Xb(h:bufAt w b x)(c:bufAt w b x')(r:∀l∈partsB b,l.length<=χ)(s:∀y∈Ac b,y.row.length<=χ)(i:Nat)(a:i<b.runs.length):
 η 151 #[hdV (x.rs.getD i ϰ).1,hdV (x'.rs.getD i ϰ).1] w (θ w (.bool true)):=by
 have m:x.rs.getD i ϰ∈x.m::x.rs:=mem_cons_of_mem _ (Bj (by rw[h.rlen];exact a));have p:x'.rs.getD i ϰ∈x'.m::x'.rs:=mem_cons_of_mem _ (Bj (by rw[c.rlen];exact a));have d:=h.runs i a;have f:=c.runs i a;have q:b.runs.getD i ϰ∈partsB b:=mem_cons_of_mem _ (Bj a);have k:=Rz (x.rs.getD i ϰ).1.1 (x'.rs.getD i ϰ).1.1 (x.rs.getD i ϰ).1.2.2 (x'.rs.getD i ϰ).1.2.2 _ _ (b.runs.getD i ϰ) w (h.ems _ m) d (c.ems _ p) f (r _ q) (λy hy=>s y (mem_flatten.2 ⟨_,q,hy⟩));unfold hdV;rw[(h.len _ m).1,(c.len _ p).1,d.1,f.1];exact k
theorem Z9(h:bufAt w b x)(a:bufAt w b x')(m:∀l∈partsB b,l.length<=χ)(p:∀y∈Ac b,y.row.length<=χ):
 η 151 #[hdV x.m.1,hdV x'.m.1] w (θ w (.bool true)):=by
 have c:x.m∈x.m::x.rs:=mem_cons_self ..;have d:x'.m∈x'.m::x'.rs:=mem_cons_self ..;have f:b.mem∈partsB b:=mem_cons_self ..;have k:=Rz x.m.1.1 x'.m.1.1 x.m.1.2.2 x'.m.1.2.2 _ _ b.mem w (h.ems _ c) h.mem (a.ems _ d) a.mem (m _ f) (λy hy=>p y (mem_flatten.2 ⟨_,f,hy⟩));unfold hdV;rw[(h.len _ c).1,(a.len _ d).1,h.mem.1,a.mem.1];exact k
theorem R6(b:Buf)(x x':BX)(w:ϙ)(h:bufAt w b x)(r:bufAt w b x')(Q:∀l∈partsB b,l.length<=χ)(R:∀y∈Ac b,y.row.length<=χ):
 η 93 #[AZ b x,AZ b x'] w (θ w (.bool true)):=by
 have N:ϛ (∀a,Ϝ w a->CT 151 #[hdV x.m.1,hdV x'.m.1] a (θ a (.bool true))):=λa c=>Z9 (An h c) (An r c) Q R;have O:ϛ (∀i a,i<b.runs.length->Ϝ w a->CT 151 #[hdV (x.rs.getD i ϰ).1,hdV (x'.rs.getD i ϰ).1] a (θ a (.bool true))):=λi a hi c=>Xb (An h c) (An r c) Q R i hi;have H1:ϛ (FA w x.ra (x.rs.map (·.1))):=h.hds;have H2:ϛ (FA w x'.ra (x'.rs.map (·.1))):=r.hds;have m:=h.rlen;have u:=r.rlen;have ac:=h.few;clear h r Q R;obtain⟨L,A,⟨⟨S,T,U⟩,ml⟩,D⟩:=x;obtain⟨M,B,⟨⟨V,Z,q3⟩,ql⟩,E⟩:=x';obtain⟨p,al,ag⟩:=b;unfold AZ hdV;unfold hdV at N;dsimp only at N O H1 H2 m u ac⊢;obtain⟨n,J⟩:∃n,ag.length=n:=⟨_,rfl⟩;have f:ϛ (D.length=n/\E.length=n):=⟨by rw[m,J],by rw[u,J]⟩;rw[J]at O m u;rw[m]at ac;rw[m,u];clear J m u;have P:Ϝ w (ξ (ξ w (ν p S T U L n A) 36) (ν p V Z q3 M n B) 36):=by
  repeat (first|exact bR|(refine Below.alloc ?_ Ϥ _))
 have k1:Δ (ξ (ξ w (ν p S T U L n A) 36) (ν p V Z q3 M n B) 36) w 2 (vS L n A):=ϡ;have k2:Δ (ξ (ξ w (ν p S T U L n A) 36) (ν p V Z q3 M n B) 36) (w+1) 2 (vS M n B):=ϡ;go_enter func93,ntmps93;go_wp2_with fail;refine(N.o _ P).mono ?_;rintro e a ⟨rfl,G⟩;have c1:=cLz G k1;have c2:=cLz G k2;have aj:w.heap.size<a.heap.size:=bLt _ _ c1;have ak:w.heap.size+1<a.heap.size:=bLt _ _ c2;have af:Ϝ w a:=bT P G;clear k1 k2 P G;go_wp2
 go_loopw [5] (λi wr=> ∃k:Nat,k<=n/\i=vI k/\Ϝ a wr) (λi _=>n - (intOf i).toNat)
 case atStart=>exact⟨0,Nat.zero_le _,rfl,bR⟩
 case round=>
  obtain⟨k,hk,rfl,K⟩:=hrel;have d1:=cLz K c1;have d2:=cLz K c2;have I:=bT af K;have ah:w.heap.size<wr.heap.size:=bLt _ _ d1;have ai:w.heap.size+1<wr.heap.size:=bLt _ _ d2;by_cases d:k<n
  ·obtain⟨b1,o1,e1,x1⟩:=H1.o k (by rw[lMp,f.o.1];exact d);obtain⟨b2,o2,e2,y1⟩:=H2.o k (by rw[lMp,f.o.2];exact d);subst e1 e2;have F:=cLz I x1;have u1:=cLz I y1;have aa:(D.map (·.1)).getD k (none,0,0)=(D.getD k ϰ).1:=by rw[gDe,getElem?_map,gEe (by rw[f.o.1];exact d),gDe,gEe (by rw[f.o.1];exact d)];rfl
   have ab:(E.map (·.1)).getD k (none,0,0)=(E.getD k ϰ).1:=by rw[gDe,getElem?_map,gEe (by rw[f.o.2];exact d),gDe,gEe (by rw[f.o.2];exact d)];rfl
   rw[aa]at F;rw[ab]at u1;have q:ϛ (∀a,Ϝ w a->CT 151 #[hdV (D.getD k ϰ).1,hdV (E.getD k ϰ).1] a (θ a (.bool true))):=λa c=>O.o k a d c;obtain⟨⟨⟨s1,s2,s3⟩,sl⟩,hz⟩:∃z,D.getD k ϰ=z:=⟨_,rfl⟩;obtain⟨⟨⟨t1,t2,t3⟩,tl⟩,ad⟩:∃z,E.getD k ϰ=z:=⟨_,rfl⟩;rw[hz]at F q;rw[ad]at u1 q;unfold hdV at F u1 q;dsimp only at F u1 q;have i1:(0:Int)<=(k:Int):=ϝ;have i2:(k:Int)<(n:Int):=ϝ;clear hz ad aa ab x1 y1;go_wp2
   go_region_held3 (λw'=>Δ w' w 2 (vS (some ⟨b1,o1,none⟩) n A)/\Δ w' (w+1) 2 (vS (some ⟨b2,o2,none⟩) n B)/\Δ w' b1 (o1+k) (vS s1 s2 s3)/\Δ w' b2 (o2+k) (vS t1 t2 t3)) (first|go_keep|exact⟨cLz s d1,cLz s d2,cLz s F,cLz s u1⟩)
    (first|(go_at_call 151;refine(q.o _ I.drew).mono ?_;rintro e wq ⟨rfl,ae⟩;have s:Ϝ wr wq:=bR.drew.trans ae))
   all_goals
    go_wp2;go_roundw
    case rel=>exact⟨k+1,ϝ,by go_num,bT K s⟩
    case measure=>simp[intOf];omega
  ·go_wp2;go_ret;exact⟨rfl,I⟩
end bf
namespace ch
open vl
theorem AdI:Tryz.prog.cellsOf 83=2:=Ϡ
theorem ZA:Tryz.prog.cellsOf 80=1:=Ϡ
section
variable {H : Type} {enc : TypeId × Value -> H} {w : ϙ} {base : Nat} {spare : Nat -> Bool} {held : Bool}
theorem Hv{v:Value}{y:DataW H×List MemPlace}{fuel:Nat}(h:DataW.trod enc Tryz.prog w base spare held fuel 80 [v]=some y):
 ∃a q cap r,v= .slice a q cap/\List.length (α:=Cel) r=q/\vl.rowAt w a r/\B9 r/\q<=9223372036854775807:=by
 rcases open_slice underlying80 h with⟨f,_⟩|⟨x,l,c,m,n,D,B,f,_⟩
 ·simp at f;subst f;obtain⟨r,s,u,z,A⟩:=open_row (a:=none) (len:=0) (cap:=0) (d:=y.1) (p:=y.2) ⟨fuel,h⟩;exact⟨_,_,_,r,rfl,s,u,z,A⟩
 ·simp at f;subst f;obtain⟨r,s,u,z,A⟩:=open_row (a:=some x) (len:=l) (cap:=c) (d:=y.1) (p:=y.2) ⟨fuel,h⟩;exact⟨_,_,_,r,rfl,s,u,z,A⟩
theorem R7{x:Addr}{f:List Value}{y:DataW H×List MemPlace}{fuel:Nat}(A:w.cells? base x 2=some f)(I:DataW.trod enc Tryz.prog w base spare held fuel 83 f=some y):
 ∃(b a:Nat) (c:Cnt) (d:Ϛ) (h:Nat),x=⟨b,a,none⟩/\Δ w b a (.slice d c.r.length h)/\vl.rowAt w d c.r/\Δ w b (a+1) (.int .i64 c.n)/\B9 c.r/\c.r.length<=χ/\(-9223372036854775808<=c.n/\c.n<=9223372036854775807):=by
 obtain⟨_,D,s⟩:=World.cells?_some A;obtain⟨N,O,n,_,_,q,z⟩:=trod_struct2 underlying83 I
 match f,D with
 |[a0,a1],_=>
  simp[ZA]at q;obtain⟨m,l,_,L⟩:=DataW.trod_int underlying3 z;simp[ZA,Cn]at l;subst l;obtain⟨d,M,h,r,e0,B,F,J,E⟩:=Hv q;subst e0 B;obtain⟨b,a,K⟩:=x;have p:=s 0 ϝ;have u:=s 1 ϝ;have G:K=none:=by simpa[Addr.add]using World.cell?_spot p
  subst G;refine⟨b,a,⟨r,m⟩,d,h,rfl,?_,F,?_,J,E,bounds_i64 L⟩
  ·simpa[Addr.add]using p
  ·simpa[Addr.add]using u
theorem R8{a:Ϛ}{len cap:Nat}{d:DataW H}{p:List MemPlace}(h:DataW.Trod enc Tryz.prog w base spare held 40 (.slice a len cap) d p):
 ∃r:List Cnt,r.length=len/\viewAt w a r/\BJ r/\len<=9223372036854775807:=by
 obtain⟨fuel,R⟩:=h;rcases open_slice underlying40 R with⟨y,_⟩|⟨x,l,c,m,n,D,Z,y,_,hl,S,T,_,J⟩
 ·simp[Value.cells]at y;obtain⟨rfl,rfl,rfl⟩:=y;exact⟨[],rfl,λi q=>absurd q (Nat.not_lt_zero i),(λc I=>by cases I),ϝ⟩
 ·simp[Value.cells]at y;obtain⟨rfl,rfl,rfl⟩:=y;have ac:len<=m:=by rw[T];split<;>omega
  rw[AdI]at J;obtain⟨f,L⟩:=choose_lt (α:=Cnt) (n:=len) (p:=λi c=> ∃b s u z,x=⟨b,s,none⟩/\Δ w b (s+i * 2) (.slice u c.r.length z)/\vl.rowAt w u c.r/\Δ w b (s+i * 2+1) (.int .i64 c.n)/\B9 c.r/\c.r.length<=χ/\(-9223372036854775808<=c.n/\c.n<=9223372036854775807)) (λi q=>by
   obtain⟨aa,P,Q⟩:=J i ϝ;obtain⟨b,s,c,u,z,e,E,F,G,K⟩:=R7 P Q;obtain⟨ab,U,V⟩:=J 0 ϝ;obtain⟨B,A,c0,ad,ae,e0,_⟩:=R7 U V;have O:x=⟨B,A,none⟩:=by simpa[Addr.add]using e0
   subst O;have N:(⟨B,A,none⟩:Addr).add (i * 2)=⟨B,A+i * 2,none⟩:=by unfold Addr.add;split<;>simp_all
   rw[N]at e
   cases e
   exact⟨c,b,A,u,z,rfl,E,F,G,K⟩)
  refine⟨(List.range len).map f,ϟ,?_,?_,by unfold maxLen at S;omega⟩
  ·intro i q;have M:i<len:=by simpa using q
   obtain⟨b,s,u,z,rfl,E,F,G,_⟩:=L i M;have e:((List.range len).map f).getD i ϰ=f i:=by simp[gDe,M]
   rw[e];exact⟨b,s,u,z,rfl,E,F,G⟩
  ·intro c I;obtain⟨i,q,rfl⟩:=mem_map.1 I;obtain⟨_,_,_,_,_,_,_,_,K⟩:=L i (by simpa using q);exact K
end
end ch
end Go.Proofs.YtfkihidbnfkbaaaGreatDoor
