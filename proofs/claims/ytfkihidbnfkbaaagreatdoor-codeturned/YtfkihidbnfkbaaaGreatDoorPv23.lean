import Derived.Test.YtfkihidbnfkbaaaGreatDoorPv21
set_option linter.all false
set_option maxHeartbeats 8000000
set_option maxRecDepth 100000
open Go.ChangeShapes Go.WideShapes Go.ChangeAt Go.RowKit List
open Inhabited renaming default->ϰ
namespace Go.Proofs.YtfkihidbnfkbaaaGreatDoor
open Go.Proofs.Tryz
namespace bf
open vl
variable {W W1 W2 : Ϙ} {o : Obj} {C NB base g : Nat} {x : BX} {b : Buf}
theorem JM{r:Option Nat}(a:(W1.alloc o).grownBy W2 r):W1.heap.size<=W2.heap.size/\∀k,k<W1.heap.size->r≠some k->W2.heap[k]? =W1.heap[k]? :=
 ⟨by have:=a.size;simp at this;omega,λk c d=>by
  rw[a.block k ϡ (λe=>d e.symm)];exact Below.heap_alloc _ _ k c⟩
theorem YK(h:PSt W C NB base x b)(f:ϛ W W1)(l:(W1.alloc o).grownBy W2 (hdV x.m.1).ownBlock):
 Δ W2 NB 1 (hdV x.m.1)/\Ξ W2 NB 1:=by
 have c:=h.below f;obtain⟨hs,m⟩:=JM l;obtain⟨d,q⟩:=MF c hs m;exact⟨(cOb (a:=⟨NB,1,none⟩) d).trans c.k.c1,(AJ (p:=⟨NB,1,none⟩) d).trans c.f1⟩
theorem YL{c4:Nat}{e:EM}{y:Ent}(h:PSt W C NB base x b)(m:ϛ W W1)(J:OR W1 base e y)
 (I:W2.ownsRow base 166 5 (vS (τ g) (x.m.2.length+1) c4) (x.m.2.length+1) (A0 x.m.2++[.string e.key,vI e.time,vI e.seq,hdV e.row,.bool e.met])) (q:(W1.alloc o).grownBy W2 (hdV x.m.1).ownBlock) (F:(hdV x.m.1).ownBlock=some g\/g=W1.heap.size+1):
 PSt (φ W2 NB 1 (vS (τ g) (x.m.2.length+1) c4)) C NB base ⟨x.ra,x.rc,((some ⟨g,0,none⟩,x.m.2.length+1,c4),x.m.2++[e]),x.rs⟩ ⟨b.lim,b.mem++[y],b.runs⟩/\Below base W (φ W2 NB 1 (vS (τ g) (x.m.2.length+1) c4)):=by
 have c:=h.below m;obtain⟨hs,r⟩:=JM q;obtain⟨f,B⟩:=MF c hs r;have s:=Ld h.k.ob.mem m J I q;have E:OB W2 base ⟨x.ra,x.rc,((some ⟨g,0,none⟩,x.m.2.length+1,c4),x.m.2++[e]),x.rs⟩ ⟨b.lim,b.mem++[y],b.runs⟩:=XZ c.k.ob s.1 hs r (λD G=>by
  have:g=D:=by cases G;rfl
  subst this;rcases F with l|l
  ·exact .inl l
  ·exact .inr Ϝ)
 have z:=Ao c.k.ty f;have K:=(cOb (a:=⟨NB,0,none⟩) f).trans c.k.c0;have A:=(cOb (a:=⟨NB,1,none⟩) f).trans c.k.c1;have L:=(cOb (a:=⟨NB,2,none⟩) f).trans c.k.c2;have M:=(AJ (p:=⟨NB,1,none⟩) f).trans c.f1;have N:=(AJ (p:=⟨NB,2,none⟩) f).trans c.k.f2;have H:=h.k.ne;have d:∀u,(W2.setCell ⟨NB,1,none⟩ u).heap[C]? =W1.heap[C]? :=λu=>(heap_setCell_other _ _ _ _ Ϣ).trans B;refine⟨⟨⟨JC E z _ _,?_,World.cell?_setCell_same _ _ _ A,?_,?_,Ai z _ _,(cOb (a:=⟨C,0,none⟩) (d _)).trans c.k.r0,(cOb (a:=⟨C,1,none⟩) (d _)).trans c.k.r1,(cOb (a:=⟨C,2,none⟩) (d _)).trans c.k.r2,(AJ (p:=⟨C,0,none⟩) (d _)).trans c.k.g0,(AJ (p:=⟨C,1,none⟩) (d _)).trans c.k.g1,(AJ (p:=⟨C,2,none⟩) (d _)).trans c.k.g2,Ao c.k.rt (d _),H,h.k.up⟩,?_⟩,?_⟩
 ·dsimp only;go_simp
 ·dsimp only;go_simp
 ·go_simp
 ·go_simp
 ·have:=h.k.up;exact s.2.setCell Ϣ _
theorem PD(h:PSt W C NB base x b)(d:(W.alloc o).grownBy W2 (Value.slice x.ra x.rs.length x.rc).ownBlock):
 W2.heap.size≥W.heap.size/\W2.heap[NB]? =W.heap[NB]? /\W2.heap[C]? =W.heap[C]? /\(∀k,Ae W k 166\/Ae W k 119->W2.heap[k]? =W.heap[k]?):=by
 obtain⟨hs,f⟩:=JM d;have c:∀k t,Ae W k t->t≠33->W2.heap[k]? =W.heap[k]? :=λk t a l=>f k (A6 a) (λe=>tyAt_apart (Ay h.k.ob.hds e) a (λe=>l e.symm) rfl);exact⟨hs,c _ _ h.k.ty ϝ,c _ _ h.k.rt ϝ,λk a=>by rcases a with a|a;exact c _ _ a ϝ;exact c _ _ a ϝ⟩
theorem Wo{cap2:Nat}(h:PSt W C NB base x b)
 (E:W2.ownsRow base 33 1 (vS (τ g) (x.rs.length+1) cap2) (x.rs.length+1) ((x.rs.map λp=>hdV p.1)++[hdV x.m.1])) (m:(W.alloc o).grownBy W2 (Value.slice x.ra x.rs.length x.rc).ownBlock):
 PSt (φ (φ W2 NB 2 (vS (τ g) (x.rs.length+1) cap2)) NB 1 (vS none 0 0)) C NB base ⟨some ⟨g,0,none⟩,cap2,((none,0,0),[]),x.rs++[x.m]⟩ ⟨b.lim,[],b.runs++[b.mem]⟩/\Below base W (φ (φ W2 NB 2 (vS (τ g) (x.rs.length+1) cap2)) NB 1 (vS none 0 0)):=by
 obtain⟨hs,f,r,A⟩:=PD h m;have s:=Z6 h.k.ob E hs A;have l:=Ao h.k.ty f;have F:=(cOb (a:=⟨NB,0,none⟩) f).trans h.k.c0;have G:=(cOb (a:=⟨NB,1,none⟩) f).trans h.k.c1;have H:=(cOb (a:=⟨NB,2,none⟩) f).trans h.k.c2;have I:=(AJ (p:=⟨NB,1,none⟩) f).trans h.f1;have J:=(AJ (p:=⟨NB,2,none⟩) f).trans h.k.f2;have D:=h.k.ne;have d:∀u q,((W2.setCell ⟨NB,2,none⟩ u).setCell ⟨NB,1,none⟩ q).heap[C]? =W.heap[C]? :=λu q=>(heap_setCell_other _ _ _ _ Ϣ).trans ((heap_setCell_other _ _ _ _ Ϣ).trans r);refine⟨⟨⟨JC (JC s l _ _) (Ai l _ _) _ _,?_,?_,?_,?_,Ai (Ai l _ _) _ _,(cOb (a:=⟨C,0,none⟩) (d _ _)).trans h.k.r0,(cOb (a:=⟨C,1,none⟩) (d _ _)).trans h.k.r1,(cOb (a:=⟨C,2,none⟩) (d _ _)).trans h.k.r2,(AJ (p:=⟨C,0,none⟩) (d _ _)).trans h.k.g0,(AJ (p:=⟨C,1,none⟩) (d _ _)).trans h.k.g1,(AJ (p:=⟨C,2,none⟩) (d _ _)).trans h.k.g2,Ao h.k.rt (d _ _),D,h.k.up⟩,?_⟩,?_⟩
 ·dsimp only;go_simp
 ·unfold hdV;dsimp only;go_simp
 ·dsimp only;rw[lAp];go_simp
 ·go_simp
 ·go_simp
 ·have:=h.k.up;have B:=h.k.ob.low;have y:Below base W W2:=(bR.alloc B o).grown m ϡ (λc z=>(A5 h.k.ob.hds z).1);exact(y.setCell Ϣ _).setCell Ϣ _
theorem Ur{N:Array Oper}{o:Oper}{a:Act}{K:Act->World->Prop}{Q:Exit->Act->World->Prop}{E:Prop}(A:o.guard=none)(s x:Operand)
 (F:o.op= .call {callee:=.builtin .append,args:=#[s,x],argTypes:=#[33,33]})
 (base:Nat) (v:Value) (L:List EM) (f:ByteArray) (p m:Int) (ad:ϙ) (q cap:Nat) (l:Bool) (c:Ϙ) (d:Nat) (D:c.ownsRow base 166 5 v d (A0 L)) (P:d<=1000000) (O:base<=c.heap.size)
 (hs:a.eval s=v) (G:a.eval x=vS (τ c) 1 1)
 (h:∀g y r,r.ownsRow base 166 5 (vS (τ g) (d+1) y) (d+1) (A0 L++[.string f,vI p,vI m,vS ad q cap,.bool l])->(c.alloc (.cells (ζ f p m ad q cap l) 166)).grownBy r v.ownBlock->(v.ownBlock=some g\/g=c.heap.size+1)->g<r.heap.size->K (a.put o.dst (vS (τ g) (d+1) y)) r):
 if Region.wanted o (yielded N a.tmps)=true then Oper.wp Tryz.prog o a (ξ c (ζ f p m ad q cap l) 166) K Q else E:=by
 obtain⟨M,B,H,I,J⟩:=info_parts SH;exact step_append_lies _ A s x 33 F base 166 M (.agg #[ϊ,ω,ω,ψ,ϋ]) 5 64 underlying33 B H I J rfl ϝ v d (A0 L) hs
  (D.alloc _) ⟨c,0,none⟩ 1 1 [.string f,vI p,vI m,vS ad q cap,.bool l] G rfl (Eg _ _ _ _ _ _ _) (by intro u z;simp at z;rcases z with rfl|rfl|rfl|rfl|rfl<;>rfl) ϝ Ϧ Ϝ ϡ (c.heap.size+1) Ϟ h
end bf
namespace bf
open vl
attribute [local go_sem] Oper.semAt_some
def Gp(b:Buf)(l:List Ent):Buf:=if b.lim<(l.length:Int)then⟨b.lim,[],b.runs++[l]⟩else⟨b.lim,l,b.runs⟩
theorem Aap(b:Buf)(x:BX)(e:EM)(y:Ent)(w:Ϙ)(h:bufAt w b x)(hw:∀y∈Ab b,wfE y/\wfP (AZ y))(hs:(Ab b).length<=4611686018427387904)(he:Fx b=0)(hr:ER w e y)(hy:wfE y)(hf:EY y=true)(hh:hasB (Ab b) (AZ y)=false)(hm:(Ab b).length≠4096):
 η 345 #[AY b x,e.val] w λr w'=>(∃x' l',r= .returned (.tuple #[AY (Gp b l') x',ω])/\l'.Perm (b.mem++[y])/\ME l'/\OB w' w x' (Gp b l'))/\ϛ w w':=by
 have KC:Ϛ (∀f,ϛ w f->CT 100 #[AY b x] f (θ f (vI 0))):=λf L=>by
  have:=Bb b x f (Al h L) hw hs;rwa[he]at this
 have KE:Ϛ (∀f,ϛ w f->CT 271 #[e.val] f (θ f (.bool true))):=λf L=>by
  have:=Gv e y f (hr.below L) hy;rwa[hf]at this
 have KP:=hIz (λ(f:Ϙ)=>Gu e f);have KH:Ϛ (∀f,ϛ w f->CT 350 #[AY b x,.agg #[.string e.key,vI e.time,vI e.seq]] f (θ f (.bool false))):=λf L=>by
  have k:=YE b x (AZ y) f (Al h L);rw[hh]at k;unfold B6 AZ at k;rw[<-hr.key,<-hr.time,<-hr.seq]at k;exact k
 have KS:=hIz (λ(f:Ϙ) (L:ϛ w f)=>Lq b x f (Al h L) hs);have bc:=Fv he;have aj:=bc.small;have bv:=aj.1 b.mem (mem_cons_self ..);have KK:Ϛ (∀f,ϛ w f->CT 253 #[AY b x,.func (.func 254) #[] #[]] f λr w'=>(∃x',r= .returned (AY b x')/\OB w' f x' b)/\ϛ f w'):=λf L=>by
  have k:=GB 254 (enters_of func254 ϟ rfl) #[] (λ_=>true) b x f (Al h L) aj.1 aj.2.1 aj.2.2 (λe y Q _ _ _=>by rw[Array.append_empty];exact FR e Q);rw[I0 bc]at k;exact k
 have b1:y.row.length<=1000000:=by
  have h1:=(Nh.1 hf).2.1;unfold AD at h1;by_cases h8:8<y.row.length
  ·rw[if_pos h8]at h1;cases h1
  ·omega
 have KF:=hIz (λ(f:Ϙ) (L:ϛ w f)=>F8 e y f (hr.below L) b1);have av:=hqz hr;obtain⟨N,hN⟩:=nM ((Ab b).length);rw[hN]at KS hm;have dm:((N:Int)==4096)=false:=by simpa using(λh=>hm Ϝ:¬(N:Int)=4096)
 have cd:=hqz bv;have bw:b.runs.length<=100000:=aj.2.1;have cg:=hqz bw;clear h hw hs he hr hy hf hh hm bc aj bv hN b1 bw;obtain⟨ra,rc,⟨⟨m1,m2,m3⟩,ml⟩,rs⟩:=x;obtain⟨d,ab,P⟩:=b;obtain⟨H,K,J,⟨r1,r2,r3⟩,I⟩:=e;rw[show AY ⟨d,ab,P⟩ ⟨ra,rc,((m1,m2,m3),ml),rs⟩= .agg #[vI d,vS m1 m2 m3,vS ra rs.length rc]from rfl]at KC KH KS KK⊢;unfold EM.val EM.to hdV at KF;unfold EM.val hdV at KE KP⊢;dsimp only at KE KP KH KF⊢;obtain⟨n,hn⟩:∃n,rs.length=n:=⟨_,rfl⟩;rw[hn]at KC KH KS KK⊢;clear hn;obtain⟨rl,bd⟩:=nM y.row.length;have cj:=hqz bd;rw[bd]at KF;clear bd;have bm:ϛ w (ξ (ξ (ξ w (ν d m1 m2 m3 ra n rc) 36) (ζ H K J r1 r2 r3 I) 166) #[ω,ψ,ψ] 36):=by
  repeat (first|exact bR|(refine Below.alloc ?_ ϣ _))
 have ax:=I8 (ξ (ξ w (ν d m1 m2 m3 ra n rc) 36) (ζ H K J r1 r2 r3 I) 166);rw[World.size_alloc,World.size_alloc]at ax;have cf:Ϛ (nbAt (ξ (ξ (ξ w (ν d m1 m2 m3 ra n rc) 36) (ζ H K J r1 r2 r3 I) 166) #[ω,ψ,ψ] 36) (w.heap.size+1+1)):=ax;clear ax;go_enter func345,ntmps345;go_wp2_with (first
  |(go_at_call 100;refine(KC.o _ bm).mono ?_;rintro e Q ⟨rfl,R⟩;have bq:ϛ w Q:=bT bm R;have c7:=BU R cf.o;have k0:Δ Q w 0 (vI d):=cLz R Ϡ;have k1:Δ Q w 1 (vS m1 m2 m3):=cLz R Ϡ;have k2:Δ Q w 2 (vS ra n rc):=cLz R Ϡ;have d0:Δ Q (w+1) 0 (.string H):=cLz R Ϡ;have d1:Δ Q (w+1) 1 (vI K):=cLz R Ϡ;have d2:Δ Q (w+1) 2 (vI J):=cLz R Ϡ;have d3:Δ Q (w+1) 3 (vS r1 r2 r3):=cLz R Ϡ;have d4:Δ Q (w+1) 4 (.bool I):=cLz R Ϡ)
  |(go_at_call 271;refine(KE.o _ bq).mono ?_;rintro e w3 ⟨rfl,S⟩;have b8:=BU S c7;have br:ϛ w w3:=bT bq S;have ds:Δ w3 w 0 (vI d):=cLz S k0;have dt:Δ w3 w 1 (vS m1 m2 m3):=cLz S k1;have du:Δ w3 w 2 (vS ra n rc):=cLz S k2;have cn:Δ w3 (w+1) 0 (.string H):=cLz S d0;have co:Δ w3 (w+1) 1 (vI K):=cLz S d1;have cq:Δ w3 (w+1) 2 (vI J):=cLz S d2;have cr:Δ w3 (w+1) 3 (vS r1 r2 r3):=cLz S d3;have cs:Δ w3 (w+1) 4 (.bool I):=cLz S d4))
 go_region_law (first
  |(go_simp;go_at_call 275;refine(KP.o _).mono ?_;rintro e w4 ⟨rfl,T⟩;have bn:ϛ w w4:=br.drew.trans (T.mono br.size);have b9:=BU T (La b8);have v0:Δ w4 (w+1) 0 (.string H):=cLz T cn;have v1:Δ w4 (w+1) 1 (vI K):=cLz T co;have v2:Δ w4 (w+1) 2 (vI J):=cLz T cq;have v3:Δ w4 (w+1) 3 (vS r1 r2 r3):=cLz T cr;have v4:Δ w4 (w+1) 4 (.bool I):=cLz T cs;have u0:Δ w4 w 0 (vI d):=cLz T Ϡ;have u1:Δ w4 w 1 (vS m1 m2 m3):=cLz T Ϡ;have u2:Δ w4 w 2 (vS ra n rc):=cLz T Ϡ)
  |(go_simp;go_at_call 350;refine(KH.o _ bn).mono ?_;rintro e w5 ⟨rfl,U⟩;have ca:=BU U b9;have bo:ϛ w w5:=bT bn U;have x0:Δ w5 (w+1) 0 (.string H):=cLz U v0;have x1:Δ w5 (w+1) 1 (vI K):=cLz U v1;have x2:Δ w5 (w+1) 2 (vI J):=cLz U v2;have x3:Δ w5 (w+1) 3 (vS r1 r2 r3):=cLz U v3;have x4:Δ w5 (w+1) 4 (.bool I):=cLz U v4;have s0:Δ w5 w 0 (vI d):=cLz U Ϡ;have s1:Δ w5 w 1 (vS m1 m2 m3):=cLz U Ϡ;have s2:Δ w5 w 2 (vS ra n rc):=cLz U Ϡ))
 all_goals
  go_wp2_with (first
   |(go_at_call 232;refine(KS.o _ bo).mono ?_;rintro e w6 ⟨rfl,Z⟩;have cb:=BU Z ca;have a6:ϛ w w6:=bT bo Z;have t0:Δ w6 w 0 (vI d):=cLz Z s0;have t1:Δ w6 w 1 (vS m1 m2 m3):=cLz Z s1;have t2:Δ w6 w 2 (vS ra n rc):=cLz Z s2)
   |(go_at_call 253;refine(KK.o _ a6).mono ?_;rintro e c ⟨⟨⟨q,s,⟨⟨D,G,E⟩,ac⟩,O⟩,rfl,c5⟩,ae⟩;have am:Ϛ (OB c w.heap.size ⟨q,s,((D,G,E),ac),O⟩ ⟨d,ab,P⟩):=Ci c5 a6.size;rw[show AY ⟨d,ab,P⟩ ⟨q,s,((D,G,E),ac),O⟩= .agg #[vI d,vS D G E,vS q O.length s]from rfl];have cc:=BU ae cb;have bp:ϛ w c:=bT a6 ae;obtain⟨F,au⟩:=nM O.length;rw[au]))
  have q0:Δ c (w+1) 0 (.string H):=cLz ae (cLz Z x0);have q1:Δ c (w+1) 1 (vI K):=cLz ae (cLz Z x1);have q2:Δ c (w+1) 2 (vI J):=cLz ae (cLz Z x2);have q3:Δ c (w+1) 3 (vS r1 r2 r3):=cLz ae (cLz Z x3);have q4:Δ c (w+1) 4 (.bool I):=cLz ae (cLz Z x4);have cw:G=ac.length:=by
   obtain⟨ad,cp,hf⟩:=am.o.mem.form;unfold hdV at hf;injection hf with _ e2 _
  have c2:ac.length<=100000:=by rw[am.o.mem.len];exact cd.o
  have aa:=hqz au;have dq:F<=100000:=by rw[<-au,am.o.rlen];exact cg.o
  have an:Ϛ (PSt (ξ c (ν d D G E q F s) 36) (w.heap.size+1+1) c.heap.size w.heap.size ⟨q,s,((D,G,E),ac),O⟩ ⟨d,ab,P⟩):=by
   have k:=AaG cc am.o (show w.heap.size<=w.heap.size+1+1 by omega);rw[<-au];exact k
  have ap:ϛ w (ξ c (ν d D G E q F s) 36):=bp.alloc bp.size _;have ah:ϛ c (ξ c (ν d D G E q F s) 36):=ϧ;have y0:=cLz ah q0;have y1:=cLz ah q1;have y2:=cLz ah q2;have y3:=cLz ah q3;have y4:=cLz ah q4;have z1:Δ (ξ c (ν d D G E q F s) 36) c 1 (vS D G E):=an.o.k.c1;have b7:c.heap.size<(c.alloc (.cells (ν d D G E q F s) 36)).heap.size:=Ϟ;have dy:w.heap.size+1<c.heap.size:=bLt _ _ q0;clear s0 s1 s2 t0 t1 t2 u0 u1 u2 q0 q1 q2 q3 q4 b8 b9 ca cb cc au x0 x1 x2 x3 x4 v0 v1 v2 v3 v4;subst cw;obtain⟨m,ba⟩:=nM ac.length;have ak:=hqz ba;rw[ba]at c2 z1 an y0 y1 y2 y3 y4 ap ah b7⊢;clear ba;generalize di:c.alloc (.cells (ν d D m E q F s) 36)=V at *;obtain⟨i0,bu,b2,b3,b4⟩:=info_parts ZB;have HI:Ϛ (Tryz.prog.info? 33=some i0/\i0.zero=some (vS none 0 0)/\i0.size=1/\i0.bytes=24):=⟨bu,b2,b3,b4⟩;clear bu b2 b3 b4
  go_region_law (first
   |(refine Ur (by rfl) (.tmp 30) (.tmp 33) (by rfl) w.heap.size (vS D m E) ac H K J ay rl c9 I w9 m bi.o Ϝ (Nat.le_trans ap.size ai.size) (by simp[Act.eval,Act.put]) (by simp[Act.eval,Act.put]) ?_;intro A z c8 bz a7 cx dl;have c0:=YK an.o ai a7;obtain⟨p1,pf⟩:=c0;unfold hdV at p1;dsimp only at p1)
   |(go_simp;go_at_call 295;refine(KF.o _ ap.drew).mono ?_;rintro e w9 ⟨⟨ay,c9,rfl,bx⟩,cy⟩;have ai:ϛ V w9:=bR.drew.trans cy;have n1:Δ w9 c 1 (vS D m E):=cLz ai z1;have bi:Ϛ (w9.ownsRow w.heap.size 166 5 (vS D m E) m (A0 ac)):=(by have k:=own_below an.o.k.ob.mem.own ai;dsimp only at k;rw[ak.o]at k;exact k);have dx:c.heap.size<w9.heap.size:=Nat.lt_of_lt_of_le b7 ai.size))
  all_goals
   have aw:=YL (e:=⟨H,K,J,(ay,rl,c9),I⟩) (y:=y) (g:=A) (c4:=z) an.o ai ⟨av.o.key,av.o.time,av.o.seq,av.o.met,cj.o.symm,by unfold hdV;dsimp only;exact CX bx ap.size⟩ (by dsimp only;rw[ak.o];exact bz) a7 cx;dsimp only at aw;rw[ak.o]at aw;obtain⟨P2,B2⟩:=aw;generalize c8.setCell ⟨c,1,none⟩ (vS (τ A) (m+1) z)=W2 at *;have a5:ϛ w W2:=ap.trans B2;have bj:Ϛ (PSt W2 (w.heap.size+1+1) c.heap.size w.heap.size ⟨q,s,((some ⟨A,0,none⟩,m+1,z),ac++[⟨H,K,J,(ay,rl,c9),I⟩]),O⟩ ⟨d,ab++[y],P⟩):=P2;have bk:Ϛ (CT 351 #[vS (τ A) (m+1) z,.func (.func 272) #[] #[]] W2 λe w'=>e= .returned (.tuple #[])/\∃ct l',l'.Perm (ab++[y])/\(∀i j,i<j->j<l'.length->¬ltP (l'.getD j ϰ) (l'.getD i ϰ))/\OE w' w (vS (τ A) (m+1) z) ct l'/\Below w.heap.size W2 w'/\(∀b,b<W2.heap.size->(Value.slice (τ A) (m+1) z).ownBlock≠some b->w'.heap[b]? =W2.heap[b]?)):=QC w.heap.size _ _ _ W2 P2.k.ob.mem (by rw[lAp,ak.o];simp;omega);have c1:Δ W2 c 1 (vS (τ A) (m+1) z):=P2.k.c1;have bh:Ϛ (ab.length=m):=by show _=_;rw[<-ak.o,am.o.mem.len]
   clear P2 y0 y1 y2 y3 y4 z1 bz a7 bx p1 pf n1 bi;by_cases dj:d<(m:Int)+1
   ·go_wp2_with (first
     |(go_at_call 351;refine bk.o.mono ?_;rintro e B ⟨rfl,ao,M,aq,be,bb,ag,a8⟩;have l:=QE bj.o bb ag.size a8;dsimp only at l;have af:Ϛ (PSt B (w.heap.size+1+1) c.heap.size w.heap.size ⟨q,s,((some ⟨A,0,none⟩,m+1,z),ao),O⟩ ⟨d,M,P⟩):=l;have bg:Δ B c 0 (vI d):=l.k.c0;have b5:Δ B c 1 (vS (τ A) (m+1) z):=l.k.c1;have b6:Δ B c 2 (vS q F s):=(by have k:=l.k.c2;dsimp only at k;rw[aa.o]at k;exact k);have j0:=l.k.r0;have j1:=l.k.r1;have j2:=l.k.r2;have g0:=l.k.g0;have g1:=l.k.g1;have g2:=l.k.g2;have cu:=l.f1;have cv:=l.k.f2;have ci:Ϛ (B.ownsRow w.heap.size 33 1 (vS q F s) F (O.map λp=>hdV p.1)):=(by have k:=l.k.ob.hds;dsimp only at k;rw[aa.o]at k;exact k);have dr:w.heap.size<=B.heap.size:=Nat.le_trans a5.size ag.size;have dw:c.heap.size<B.heap.size:=bLt _ _ bg;have dv:w.heap.size+1+1<B.heap.size:=bLt _ _ j0;clear l)
     |(at_builtin;refine wpList_append_own _ rfl (.tmp 46) (.tmp 49) 34 rfl w.heap.size 33 i0 (vS none 0 0) 1 24 underlying34 HI.o.1 HI.o.2.1 HI.o.2.2.1 HI.o.2.2.2 rfl ϝ _ _ _ rfl (World.ownsRow.alloc ci.o _) ⟨B.heap.size,0,none⟩ 1 1 [vS (τ A) (m+1) z] rfl rfl (cell_one_new _ _ rfl _) (by intro u hu;simp at hu;rcases hu with rfl;rfl) Ϧ Ϝ ϡ ?_;intro dz d5 b0 bs dp;obtain⟨a0,az,c6⟩:=L2 b0;subst c6;have cz:=PD af.o (by dsimp only;rw[aa.o];exact bs);obtain⟨_,eN,eC,_⟩:=cz;have da:=(cOb (a:=⟨c.heap.size,0,none⟩) eN).trans bg;have db:=(cOb (a:=⟨c.heap.size,1,none⟩) eN).trans b5;have dc:=(cOb (a:=⟨c.heap.size,2,none⟩) eN).trans b6;have dd:=(AJ (p:=⟨c.heap.size,1,none⟩) eN).trans cu;have de:=(AJ (p:=⟨c.heap.size,2,none⟩) eN).trans cv;have ck:=(cOb (a:=⟨w.heap.size+1+1,0,none⟩) eC).trans j0;have cl:=(cOb (a:=⟨w.heap.size+1+1,1,none⟩) eC).trans j1;have cm:=(cOb (a:=⟨w.heap.size+1+1,2,none⟩) eC).trans j2;have df:=(AJ (p:=⟨w.heap.size+1+1,0,none⟩) eC).trans g0;have dg:=(AJ (p:=⟨w.heap.size+1+1,1,none⟩) eC).trans g1;have dh:=(AJ (p:=⟨w.heap.size+1+1,2,none⟩) eC).trans g2;have c3:w.heap.size+1+1≠c.heap.size:=Nat.ne_of_lt af.o.k.ne))
    have a9:M.length=m+1:=by rw[aq.length_eq,lAp,bh.o];rfl
    have ar:Gp ⟨d,ab,P⟩ M=⟨d,[],P++[M]⟩:=by unfold Gp;rw[if_pos (by dsimp only;rw[a9];push_cast;omega)]
    have al:=Wo (g:=a0) (cap2:=az) af.o (by dsimp only;rw[aa.o];exact b0) (by dsimp only;rw[aa.o];exact bs);dsimp only at al;rw[aa.o]at al;have a4:=(a5.trans ag).trans al.2;refine bodyPost_ret (v:=.tuple #[.agg #[vI d,ψ,vS (τ a0) (F+1) az],ω]) (by simp[results,results345,go_sem,ck,cl,cm,c3]) rfl ⟨⟨⟨some ⟨a0,0,none⟩,az,((none,0,0),[]),O++[((some ⟨A,0,none⟩,m+1,z),ao)]⟩,M,?_,aq,be,?_⟩,?_⟩
    ·rw[ar];unfold AY hdV;dsimp only;rw[lAp,aa.o];rfl
    ·rw[ar];exact Lb al.1.k.ob al.1.k.rt _ _ _
    ·exact((a4.setCell Ϣ _).setCell Ϣ _).setCell Ϣ _
   ·go_wp2_with (go_at_call 351;refine bk.o.mono ?_;rintro e B ⟨rfl,ao,M,aq,be,bb,ag,a8⟩;have l:=QE bj.o bb ag.size a8;dsimp only at l;have af:Ϛ (PSt B (w.heap.size+1+1) c.heap.size w.heap.size ⟨q,s,((some ⟨A,0,none⟩,m+1,z),ao),O⟩ ⟨d,M,P⟩):=l;have bg:Δ B c 0 (vI d):=l.k.c0;have b5:Δ B c 1 (vS (τ A) (m+1) z):=l.k.c1;have b6:Δ B c 2 (vS q F s):=(by have k:=l.k.c2;dsimp only at k;rw[aa.o]at k;exact k);have j0:=l.k.r0;have j1:=l.k.r1;have j2:=l.k.r2;have g0:=l.k.g0;have g1:=l.k.g1;have g2:=l.k.g2;clear l);have a9:M.length=m+1:=by rw[aq.length_eq,lAp,bh.o];rfl
    have a4:ϛ w B:=a5.trans ag;have ar:Gp ⟨d,ab,P⟩ M=⟨d,M,P⟩:=by unfold Gp;rw[if_neg (by dsimp only;rw[a9];push_cast;omega)]
    refine bodyPost_ret (v:=.tuple #[.agg #[vI d,vS (τ A) (m+1) z,vS q F s],ω]) (by simp[results,results345,go_sem,j0,j1,j2]) rfl ⟨⟨⟨q,s,((some ⟨A,0,none⟩,m+1,z),ao),O⟩,M,?_,aq,be,?_⟩,?_⟩
    ·rw[ar];unfold AY hdV;dsimp only;rw[aa.o]
    ·rw[ar];exact Lb af.o.k.ob af.o.k.rt _ _ _
    ·exact((a4.setCell Ϣ _).setCell Ϣ _).setCell Ϣ _
end bf
namespace bf
open vl
variable {X Y w w' : Ϙ} {base cap g i j k n : Nat} {e t : TypeId} {xs : List Value} {v : Value} {b : Buf} {hs : List Hdr} {x : BX}
theorem YM{size:Nat}(h:w.ownsRow base e size (vS (τ g) n cap) n xs)(j:Nat)(u:j<n * size)(x:Value):(w.setCell ⟨g,j,none⟩ x).ownsRow base e size (vS (τ g) n cap) n (xs.set j x):=by
 refine⟨by rw[length_set];exact h.1,?_⟩;rcases h.2 with⟨c,_⟩|⟨s,r,a,c,l,f,d,m,p,q⟩
 ·cases c
 ·cases c
  have y:n * size<=cap * size:=Nat.mul_le_mul_right _ d;refine .inr ⟨g,cap,a.setIfInBounds j x,rfl,l,?_,d,m,by rw[Array.size_setIfInBounds];exact p,?_⟩
  ·rw[setCell_eq_setRow w g j a e (0,0) x f];exact setRow_heap w g a _ e _ f
  ·rw[Array.toList_setIfInBounds,<-q,take_set]
def EM.meet(e:EM):EM:=⟨e.key,e.time,e.seq,e.row,true⟩
def Ent.meet(x:Ent):Ent:=⟨x.key,x.time,x.seq,x.row,true⟩
theorem H9:∀(l:List EM) (i:Nat),i<l.length->(A0 l).set (i * 5+4) (.bool true)=A0 (l.set i (l.getD i ϰ).meet)
 |[],i,h=>absurd h (Nat.not_lt_zero i)
 |e::l,0,_=>rfl
 |e::l,i+1,h=>by
  have c:=H9 l i (by simpa using h);have a:A0 (e::l)= .string e.key::vI e.time::vI e.seq::hdV e.row:: .bool e.met::A0 l:=rfl;rw[a,show(i+1) * 5+4=(i * 5+4)+1+1+1+1+1 by omega];simp only[sS,c,getD_cons_succ];rfl
theorem Di{α:Type}{l:List α}{a d:α}(h:i<l.length):(l.set i a).getD i d=a:=by
 simp[gDe,h]
theorem D9{α:Type}{l:List α}{a d:α}(h:i≠j):(l.set i a).getD j d=l.getD j d:=by
 simp[gDe,List.getElem?_set_ne h]
theorem Aaq{a:List EM}{l:List Ent}(h:OE w base (vS (τ g) a.length cap) a l)(q:i<l.length):
 OE (φ w g (i * 5+4) (.bool true)) base (vS (τ g) a.length cap) (a.set i (a.getD i ϰ).meet) (l.set i (l.getD i ϰ).meet):=by
 have s:i<a.length:=by rw[h.len];exact q
 refine⟨by simpa[World.setCell]using h.low,?_,by rw[length_set,length_set,h.len],λj u=>?_⟩
 ·rw[length_set,<-H9 a i s];exact YM h.own _ Ϝ _
 ·rw[length_set]at u;have y:∀{e:EM} {x:Ent},OR w base e x->OR (φ w g (i * 5+4) (.bool true)) base e x:=λ{e x} k=>by
   obtain⟨d,f,m,r,p,c⟩:=k;exact⟨d,f,m,r,p,As c (λb z=>heap_setCell_other _ _ _ _ (λe=>Hf h.own c ϝ (show(Value.slice (τ g) a.length cap).ownBlock=some b by rw[e];rfl) z))⟩
  by_cases e:i=j
  ·subst e;rw[Di s,Di q];obtain⟨d,f,m,r,p,c⟩:=y (h.rows i q);exact⟨d,f,m,rfl,p,c⟩
  ·rw[D9 e,D9 e];exact y (h.rows j u)
theorem YN{d:Nat}{c f:List EM}{l s:List Ent}(h:OE w base v c l)(q:OE w d (vS (τ g) n cap) f s)(m:v.ownBlock≠some g)(u:Value):OE (φ w g j u) base v c l:=
 h.same (by simp[World.setCell]) (λb y t p a=>heap_setCell_other _ _ _ _ (λe=>by
  dsimp only at e;rcases a with⟨r,_⟩|a
  ·exact m (by rw[<-e];exact r)
  ·subst a;exact tyAt_apart (Ay q.own (show(Value.slice (τ g) n cap).ownBlock=some b by rw[e];rfl)) ⟨_,_,p⟩ ϝ rfl))
def hd0:Hdr:=(none,0,0)
structure OP(w:World)(base:Nat)(hs:List Hdr)(ess:List (List EM))(ls:List (List Ent)):Prop where
 low:base<=w.heap.size
 l1:ess.length=hs.length
 l2:ls.length=hs.length
 oe:∀k,k<hs.length->OE w base (hdV (hs.getD k hd0)) (ess.getD k []) (ls.getD k [])
 two:(hs.map hdV).Pairwise apB
theorem LJ{a b:Value}(h:apB a b):apB b a:=λg c d=>h g d c
theorem OP.apart{f:List (List EM)}{q:List (List Ent)}(h:OP w base hs f q)(l:j<hs.length)(m:k<hs.length)(p:j≠k):apB (hdV (hs.getD j hd0)) (hdV (hs.getD k hd0)):=by
 have d:=pairwise_iff_getElem.1 h.two;have e:∀i (c:i<hs.length),hdV (hs.getD i hd0)=(hs.map hdV)[i]'(by rw[lMp];exact c):=λi c=>by
  rw[getElem_map,gDe,gEe c];rfl
 rw[e j l,e k m];rcases Nat.lt_or_gt_of_ne p with a|a
 ·exact d _ _ _ _ a
 ·exact LJ (d _ _ _ _ a)
theorem LK{h:Hdr}{m:List EM}{l:List Ent}(q:OE w base (hdV h) m l)(p:0<l.length):∃g,h=(some ⟨g,0,none⟩,m.length,h.2.2):=by
 obtain⟨a,n,c⟩:=h;rcases q.own.2 with⟨_,s⟩|⟨g,cap,u,r,_⟩
 ·rw[<-q.len,s]at p;exact absurd p (Nat.lt_irrefl _)
 ·unfold hdV at r;injection r with d f y
  dsimp only at d f;subst d f;exact⟨g,rfl⟩
theorem Aar{a:List (List EM)}{c:List (List Ent)}(h:OP w base hs a c)(d:k<hs.length)(A:i<(c.getD k []).length)(p:(hs.getD k hd0).1=some ⟨g,0,none⟩):
 OP (φ w g (i * 5+4) (.bool true)) base hs (a.set k ((a.getD k []).set i ((a.getD k []).getD i ϰ).meet)) (c.set k ((c.getD k []).set i ((c.getD k []).getD i ϰ).meet)):=by
 have s:=h.oe k d;obtain⟨f,q⟩:=LK s Ϝ;have z:f=g:=by rw[q]at p;cases p;rfl
 subst z;have m:hdV (hs.getD k hd0)=vS (τ f) (a.getD k []).length (hs.getD k hd0).2.2:=by rw[q];rfl
 have l:=s;rw[m]at l;refine⟨by simpa[World.setCell]using h.low,by rw[length_set];exact h.l1,by rw[length_set];exact h.l2,λj r=>?_,h.two⟩;by_cases e:k=j
 ·subst e;rw[Di (by rw[h.l1];exact d),Di (by rw[h.l2];exact d),m];exact Aaq l A
 ·rw[D9 e,D9 e];refine YN (h.oe j r) l (λy=>?_) _;have:=h.apart r d (λu=>e u.symm) f y;rw[m]at this;exact this rfl
theorem OP.below{a:List (List EM)}{d:List (List Ent)}(h:OP w base hs a d)(c:ϛ w w'):OP w' base hs a d:=
 ⟨Nat.le_trans h.low c.size,h.l1,h.l2,λk f=>(h.oe k f).below c,h.two⟩
theorem AaP(h:OB w base x b):OP w base ((x.m::x.rs).map (·.1)) ((x.m::x.rs).map (·.2)) (partsB b):=by
 refine⟨h.low,Ϟ,by simp[partsB,h.rlen],λk l=>?_,by rw[map_map];exact h.two⟩
 cases k with
 |zero=>exact h.mem
 |succ k=>
  have a:k<x.rs.length:=by simpa using l
  have m:=h.runs k (by rw[<-h.rlen];exact a);have c:((x.m::x.rs).map (·.1)).getD (k+1) hd0=(x.rs.getD k ϰ).1:=by
   simp[gDe,a]
  have d:((x.m::x.rs).map (·.2)).getD (k+1) []=(x.rs.getD k ϰ).2:=by
   simp[gDe,a]
  have f:(partsB b).getD (k+1) []=b.runs.getD k ϰ:=by
   unfold partsB;rw[getD_cons_succ];rfl
  rw[c,d,f];exact m
theorem JN{s:Nat}(h:w.ownsRow base e s v n xs):n<=maxLen:=by
 rcases h.2 with⟨_,a⟩|⟨g,cap,f,_,_,_,c,d,_⟩
 ·rw[a];exact Nat.zero_le _
 ·exact Nat.le_trans c d
theorem Cx{p:Part}{l:List Ent}(h:OE w base (hdV p.1) p.2 l):(p.1.2.1=p.2.length/\p.2.length<=χ)/\C5 w p.1.1 p.2:=by
 obtain⟨⟨a,n,c⟩,f⟩:=p;have m:n=f.length:=by
  obtain⟨q,r,d⟩:=h.form;unfold hdV at d;injection d with _ s _
 subst m;refine⟨⟨rfl,?_⟩,?_⟩
 ·have:=JN h.own;unfold maxLen at this;dsimp only at this⊢;omega
 ·exact OE.at h
theorem OB.at(h:OB w base x b):bufAt w b x:=by
 have a:∀p∈x.m::x.rs,∃l,OE w base (hdV p.1) p.2 l:=λp a=>by
  rcases mem_cons.1 a with rfl|a
  ·exact⟨_,h.mem⟩
  ·obtain⟨i,_,_,r⟩:=h.run a;exact⟨_,r⟩
 refine⟨λi c=>?_,λp f=>?_,λp f=>?_,?_,h.mem.ers,h.rlen,λi c=>(h.runs i c).ers⟩
 ·rw[lMp]at c;rcases h.hds.2 with⟨_,y⟩|⟨g,cap,u,s,_⟩
  ·omega
  ·injection s with m _ _
   refine⟨g,0,m,?_⟩;have q:=World.ownsRow.cells h.hds (g:=g) (by rw[m];rfl) i (hdV (x.rs[i]).1) (by rw[getElem?_map,gEe c];rfl);rw[De]at q;rw[gDe,getElem?_map,gEe c];exact q
 ·obtain⟨l,d⟩:=a p f;exact(Cx d).1
 ·obtain⟨l,d⟩:=a p f;exact(Cx d).2
 ·have:=JN h.hds;unfold maxLen at this;omega
def LL(l:List Ent):Prop:=l.Pairwise ltP
theorem getD_at{α:Type}{l:List α}{d:α}(h:i<l.length):l.getD i d=l[i]:=by
 rw[gDe,gEe h];rfl
theorem Wp{l:List Ent}(h:(l.map AZ).Nodup)(c:i<l.length)(d:j<l.length)(m:i≠j):¬D4 l[i] l[j]:=λhs=>by
 have e:=Uf.2 hs;have f:=pairwise_iff_getElem.1 h;rcases Nat.lt_or_gt_of_ne m with a|a
 ·exact f i j (by simpa using c) (by simpa using d) a (by simpa using e)
 ·exact f j i (by simpa using d) (by simpa using c) a (by simpa using e.symm)
theorem On{l:List Ent}(h:ME l)(p:(l.map AZ).Nodup):LL l:=by
 refine pairwise_iff_getElem.2 λi j f c m=>?_;have d:=h i j m c;rw[getD_at f,getD_at c]at d;rcases ltP_tri l[i] l[j]with a|a|a
 ·exact a
 ·exact absurd a (Wp p f c Ϝ)
 ·exact absurd a d
theorem Rv{l:List Ent}(h:∀i,i+1<l.length->ltP (l.getD i ϰ) (l.getD (i+1) ϰ)):LL l:=by
 have c:∀d i,i+d+1<l.length->ltP (l.getD i ϰ) (l.getD (i+d+1) ϰ):=by
  intro d
  induction d with
  |zero=>exact λi a=>h i a
  |succ d ih=>exact λi a=>Dr (ih i Ϝ) (h (i+d+1) a)
 refine pairwise_iff_getElem.2 λi j a f m=>?_;have:=c (j - i - 1) i Ϝ;rw[show i+(j - i - 1)+1=j by omega,getD_at a,getD_at f]at this;exact this
theorem Rw{l:List Ent}(h:LL l):∀i,i+1<l.length->ltP (l.getD i ϰ) (l.getD (i+1) ϰ):=λi a=>by
 rw[getD_at Ϝ,getD_at a];exact pairwise_iff_getElem.1 h i (i+1) Ϝ a Ϝ
theorem Ks{l:List Ent}(P:Ent->Bool)(h:LL l):LL (l.filter P):=h.sublist filter_sublist
theorem PE:∀{l m:List Ent},l.Perm m->LL l->LL m->l=m
 |[],m,hp,_,_=>(nil_perm.1 hp).symm
 |a::l,[],hp,_,_=>absurd (perm_nil.1 hp) Ϟ
 |a::l,b::m,hp,h1,h2=>by
  have d:=pairwise_cons.1 h1;have f:=pairwise_cons.1 h2;have p:a=b:=by
   have ha:a∈b::m:=hp.mem_iff.1 (mem_cons_self ..);have q:b∈a::l:=hp.mem_iff.2 (mem_cons_self ..);rcases mem_cons.1 ha with h|h
   ·exact h
   ·rcases mem_cons.1 q with c|c
    ·exact c.symm
    ·exact absurd (Dr (d.1 b c) (f.1 a h)) (DT _)
  subst p;rw[PE (List.Perm.cons_inv hp) d.2 f.2]
theorem Hg{l m:List Ent}(h:l.Perm m):(l.map AZ).Nodup↔(m.map AZ).Nodup:=(h.map AZ).nodup_iff
theorem Rx{l:List Ent}{p:Plc}(h:hasB l p=false):p ∉ l.map AZ:=λa=>by
 obtain⟨x,c,e⟩:=mem_map.1 a;unfold hasB at h;have:=any_eq_false.1 h x c;simp[e]at this
theorem Ei(b:Buf):Ab b=b.mem++b.runs.flatten:=by unfold Ab partsB;rw[flatten_cons]
theorem DX(h:okB b):Fx b=0:=by
 have f:B9 b.lim 1 64=true:=(BE _ _ _).2 h.lim;have l:countB b=true:=by unfold countB;simp only[Bool.and_eq_true,decide_eq_true_eq];exact⟨h.mem,h.all⟩
 have m:Fb b=true:=by
  unfold Fb;simp only[Bool.and_eq_true];refine⟨AQ.2 λi a=>?_,?_,?_⟩
  ·rw[getD_at a];have d:(partsB b)[i]∈partsB b:=getElem_mem a;refine AQ.2 λj c=>?_;unfold EA;simp only[Bool.and_eq_true,Bool.or_eq_true,decide_eq_true_eq];refine⟨GZ ?_,?_⟩
   ·rw[getD_at c];exact h.fine _ d _ (getElem_mem c)
   ·cases j with
    |zero=>exact .inl rfl
    |succ j=>exact .inr (h.rise _ d j c)
  ·unfold H4;refine AQ.2 λi a=>?_;rw[getD_at a];exact decide_eq_true (h.full _ (getElem_mem a))
  ·unfold GF;exact decide_eq_true h.once
 unfold Fx;rw[f,l,m];rfl
theorem okB.rises(h:okB b){l:List Ent}(a:l∈partsB b):LL l:=Rv (h.rise l a)
theorem okB.entry(h:okB b){y:Ent}(hy:y∈Ab b):Ew y:=by
 obtain⟨l,a,hy⟩:=mem_flatten.1 hy;exact h.fine l a y hy
theorem Ry(c:1<=b.lim/\b.lim<=64)(d:(b.mem.length:Int)<=b.lim)(f:(Ab b).length<=4096)(h:∀y∈Ab b,Ew y)(m:∀l∈partsB b,LL l)(p:∀r∈b.runs,0<r.length)(q:((Ab b).map AZ).Nodup):okB b:=
 ⟨c,d,f,λl a y s=>h y (mem_flatten.2 ⟨l,a,s⟩),λl a=>Rw (m l a),p,q⟩
theorem PF{d:List Ent}{y:Ent}(c:d.Perm (b.mem++[y])):(Ab (Gp b d)).Perm (y::Ab b):=by
 have a:(b.mem++[y]++b.runs.flatten).Perm (y::(b.mem++b.runs.flatten)):=by
  rw[append_assoc];exact perm_middle
 unfold Gp;split
 ·rw[Ei,Ei];dsimp only;rw[flatten_append,nil_append];simp only[flatten_cons,flatten_nil,append_nil];exact(perm_append_comm).trans ((c.append_right _).trans a)
 ·rw[Ei,Ei];exact(c.append_right _).trans a
theorem Us{d:List Ent}{y:Ent}(h:okB b)(A:Ew y)(q:hasB (Ab b) (AZ y)=false)(H:(Ab b).length≠4096)(m:d.Perm (b.mem++[y]))(u:ME d):okB (Gp b d):=by
 have f:=PF (b:=b) m;have F:((y::Ab b).map AZ).Nodup:=nodup_cons.2 ⟨Rx q,h.once⟩;have D:(d.map AZ).Nodup:=by
  rw[Hg m];have hs:((b.mem++[y]).map AZ).Perm ((y::b.mem).map AZ):=(perm_append_comm).map _;rw[hs.nodup_iff];refine nodup_cons.2 ⟨λE=>Rx q ?_,?_⟩
  ·rw[Ei,map_append];exact mem_append.2 (.inl E)
  ·have:=h.once;rw[Ei,map_append]at this;exact(nodup_append.1 this).1
 have s:=On u D;have B:(Gp b d).lim=b.lim:=by unfold Gp;split<;>rfl
 refine Ry (by rw[B];exact h.lim) ?_ ?_ (λz p=>?_) (λl a=>?_) (λr c=>?_) ?_
 ·have:=h.lim;unfold Gp;split
  ·dsimp only[length_nil];omega
  ·dsimp only;omega
 ·rw[f.length_eq,length_cons];have:=h.all;omega
 ·rcases mem_cons.1 (f.mem_iff.1 p)with rfl|p
  ·exact A
  ·exact h.entry p
 ·unfold Gp at a;split at a
  ·rcases mem_cons.1 a with rfl|a
   ·exact List.Pairwise.nil
   ·rcases mem_append.1 a with a|a
    ·exact h.rises (mem_cons_of_mem _ a)
    ·have:l=d:=by simpa using a
     rw[this];exact s
  ·rcases mem_cons.1 a with rfl|a
   ·exact s
   ·exact h.rises (mem_cons_of_mem _ a)
 ·have G:d.length=b.mem.length+1:=by rw[m.length_eq];simp
  unfold Gp at c;split at c
  ·rcases mem_append.1 c with c|c
   ·exact h.full r c
   ·have:r=d:=by simpa using c
    rw[this];omega
  ·exact h.full r c
 ·rw[Hg f];exact F
theorem Nw(P:Ent->Bool):∀l:List (List Ent),(Dt P l).flatten=l.flatten.filter P
 |[]=>rfl
 |r::l=>by
  have a:=Nw P l;unfold Dt at a⊢;rw[map_cons,flatten_cons,filter_append,<-a];by_cases h:0<(r.filter P).length
  ·rw[filter_cons_of_pos (by simpa using h),flatten_cons]
  ·have:r.filter P=[]:=length_eq_zero_iff.1 Ϝ;rw[filter_cons_of_neg (by simpa using h),this,nil_append]
theorem Hh(P:Ent->Bool)(b:Buf):Ab (CF P b)=(Ab b).filter P:=by
 rw[Ei,Ei,filter_append];unfold CF;dsimp only;rw[Nw]
theorem Io(P:Ent->Bool)(h:okB b):okB (CF P b):=by
 have c:=Hh P b;refine Ry h.lim ?_ ?_ (λz f=>?_) (λl a=>?_) (λr d=>?_) ?_
 ·have m:=h.mem;have p:(CF P b).mem.length<=b.mem.length:=length_filter_le _ _;show((CF P b).mem.length:Int)<=b.lim;omega
 ·rw[c];exact Nat.le_trans (length_filter_le _ _) h.all
 ·rw[c]at f;exact h.entry (mem_filter.1 f).1
 ·rcases mem_cons.1 a with rfl|a
  ·exact Ks P (h.rises (mem_cons_self ..))
  ·obtain⟨a,_⟩:=mem_filter.1 (show l∈Dt P b.runs from a);obtain⟨r,d,rfl⟩:=mem_map.1 a;exact Ks P (h.rises (mem_cons_of_mem _ d))
 ·obtain⟨_,a⟩:=mem_filter.1 (show r∈Dt P b.runs from d);exact of_decide_eq_true a
 ·rw[c];exact h.once.sublist (filter_sublist.map _)
def x0:BX:=⟨none,0,((none,0,0),[]),[]⟩
def notE:Nat->Obj->Prop:=λ_ o=> ∀c f,o≠ .cells c 166 f
theorem Rz{W:Ϙ}{b:Nat}(h:Ae W b t)(p:t≠166):names notE W b:=λo m c f e=>by
 obtain⟨q,r,a⟩:=h;rw[m]at a;rw[e]at a;injection a with d
 injection d with _ l _
 exact p l.symm
theorem OP.same{a:List (List EM)}{d:List (List Ent)}(h:OP w base hs a d)(c:w.heap.size<=w'.heap.size)(f:∀g,Ae w g 166\/Ae w g 119->w'.heap[g]? =w.heap[g]?):OP w' base hs a d:=
 ⟨Nat.le_trans h.low c,h.l1,h.l2,λk l=>(h.oe k l).other c f,h.two⟩
theorem ty_row{d:Option Nat}(p:X.grownBy Y d)(q:∀r,d=some r->∃x:Obj,X.heap[r]? =some x/\x.isCells=false)(h:Ae X g t):Y.heap[g]? =X.heap[g]? :=
 p.block g (A6 h) (λe=>by
  obtain⟨x,a,l⟩:=q g e.symm;obtain⟨c,f,m⟩:=h;rw[m]at a;cases a;cases l)
theorem Dv{α:Type}{l:List α}{d:α}(h:k<l.length):l.drop k=l.getD k d::l.drop (k+1):=by
 rw[drop_eq_getElem_cons h,gDe,gEe h];rfl
theorem set_mid{α β:Type}(f:α->β)(A:List α)(k:Nat)(x y:β)(B:List β)(h:k<=A.length):((A.take k).map f++x::B).set k y=(A.take k).map f++y::B:=by
 have a:((A.take k).map f).length=k:=by rw[lMp,length_take];omega
 rw[set_append_right _ _ Ϝ,a,Nat.sub_self];rfl
theorem PG{α β:Type}(f:α->β)(l:List α)(k:Nat)(d:α)(h:k<l.length):(l.take (k+1)).map f=(l.take k).map f++[f (l.getD k d)]:=by
 rw[take_succ_eq_append_getElem h,map_append,gDe,gEe h];rfl
theorem set_self{α:Type}{l:List α}{d:α}(h:k<l.length):l.set k (l.getD k d)=l:=by
 rw[gDe,gEe h];exact set_getElem_self _
theorem LM{c:Nat->Obj->Prop}(d:ϛ X Y):Ap c X Y:=λb o a _ _=>(d.block b (Array.getElem?_eq_some_iff.1 a).1).trans a
theorem YO{a b:ByteArray}(h:a≠b):¬a.toList=b.toList:=λe=>h (by have:=bytes_beq a b;rw[e]at this;simpa using this.symm)
theorem Ut(e f:EM)(w:Ϙ):η 189 #[e.val,f.val] w (θ w (vI (F5 e.ent f.ent))):=by
 obtain⟨R,z⟩:=nM (F5 e.ent f.ent);have a:Ϛ (AL [Lib.compareBytes (bl e.key) (bl f.key),C4 e.time f.time,C4 e.seq f.seq]=R):=by
  show _=_;rw[<-z];exact Ig e.ent f.ent
 rw[z];clear z;obtain⟨d,h,s,⟨M,N,O⟩,G⟩:=e;obtain⟨m,l,u,⟨J,K,L⟩,H⟩:=f;unfold EM.val hdV;dsimp only at a⊢;by_cases A:d=m
 ·subst A;have y:Lib.compareBytes (bl d) (bl d)=0:=by rw[KY];simp
  rw[y]at a;by_cases q:C4 h l=0
  ·have c:Ϛ (C4 s u=R):=by
    show _=_;rw[<-a.o,q];unfold AL;by_cases E:C4 s u=0<;>simp[AL,E]
   clear a y;have D:Ϛ (∀r,CT 193 #[vI h,vI l] r λe w'=>e= .returned (vI 0)/\w'=r):=λr=>by have:=JU h l r;rwa[q]at this
   go_enter func189,ntmps189;go_wp2_with (go_at_call 193;first|(refine(D.o _).mono ?_;rintro e w' ⟨rfl,rfl⟩)|(refine(JU s u _).mono ?_;rintro e w' ⟨rfl,rfl⟩));go_ret;refine⟨Am c.o,?_⟩
   repeat (first|exact bR|apply Below.drew|(refine Below.alloc ?_ ϣ _))
  ·have c:Ϛ (C4 h l=R):=by
    show _=_;rw[<-a.o];simp[AL,q]
   clear a y;have I:(C4 h l !=0)=true:=by simpa using q
   go_enter func189,ntmps189;go_wp2_with (go_at_call 193;refine(JU h l _).mono ?_;rintro e w' ⟨rfl,rfl⟩);go_ret;refine⟨Am c.o,?_⟩
   repeat (first|exact bR|apply Below.drew|(refine Below.alloc ?_ ϣ _))
 ·have B:=YO A;have P:(d.toList==m.toList)=false:=by simpa using B
  clear B;by_cases p:bl d<bl m
  ·have c:Ϛ ((-1:Int)=R):=by
    show _=_;rw[<-a.o,KY,if_pos p];rfl
   clear a;have F:Op.bytesLess d.toList m.toList=true:=by rw[Lib.toList_data,Lib.toList_data,EV];exact decide_eq_true p
   go_enter func189,ntmps189;go_wp2;go_ret;refine⟨Am c.o,?_⟩
   repeat (first|exact bR|apply Below.drew|(refine Below.alloc ?_ ϣ _))
  ·have c:Ϛ ((1:Int)=R):=by
    show _=_;rw[<-a.o,KY,if_neg p,if_neg (λe=>A (NW e))];rfl
   clear a;have F:Op.bytesLess d.toList m.toList=false:=by rw[Lib.toList_data,Lib.toList_data,EV];exact decide_eq_false p
   go_enter func189,ntmps189;go_wp2;go_ret;refine⟨Am c.o,?_⟩
   repeat (first|exact bR|apply Below.drew|(refine Below.alloc ?_ ϣ _))
end bf
namespace bf
open vl
attribute [local go_sem] Oper.semAt_some
variable {w : Ϙ} {b : Buf} {x x' : BX}
theorem PH(a S:ϙ)(c c':Nat)(p q:List EM)(l:List Ent)(w:Ϙ)(ha:C5 w a p)(hr:ERs w p l)(aa:C5 w S q)(ab:ERs w q l)(hl:l.length<=χ)(ac:∀y∈l,y.row.length<=χ):
 η 151 #[vS a l.length c,vS S l.length c'] w (θ w (.bool true)):=by
 have HA:=hqz ha;have ae:=hqz aa;have Q:=hqz hr;have R:=hqz ab;have af:=hqz ac;obtain⟨n,P⟩:∃n,l.length=n:=⟨_,rfl⟩;have u:=hqz P;rw[P]at hl⊢;clear P ha aa hr ab ac;go_enter func151,ntmps151;go_wp2
 go_loopw [5] (λi wr=> ∃k:Nat,k<=n/\i=vI k/\ϛ w wr) (λi _=>n - (intOf i).toNat)
 case atStart=>exact⟨0,Nat.zero_le _,rfl,bR⟩
 case round=>
  obtain⟨k,hk,rfl,d⟩:=hrel;by_cases D:k<n
  ·obtain⟨b1,o1,e1,x1,x2,x3,x4,x5⟩:=HA.o k (by rw[Q.o.1,u.o];exact D);obtain⟨b2,o2,e2,y1,y2,y3,y4,y5⟩:=ae.o k (by rw[R.o.1,u.o];exact D);subst e1 e2;have K:=cLz d x1;have L:=cLz d x2;have M:=cLz d x3;have E:=cLz d x4;have N:=cLz d x5;have u1:=cLz d y1;have u2:=cLz d y2;have u3:=cLz d y3;have u4:=cLz d y4;have u5:=cLz d y5;clear x1 x2 x3 x4 x5 y1 y2 y3 y4 y5;have r:=(Q.o.2 k (by rw[u.o];exact D)).below d;have s:=(R.o.2 k (by rw[u.o];exact D)).below d;have hm:l.getD k ϰ∈l:=AO (by rw[u.o];exact D);have O:=af.o _ hm;have A:Ϛ (∀m,CT 189 #[(p.getD k ϰ).val,(q.getD k ϰ).val] m (θ m (vI 0))):=λm=>by
    have J:=Ut (p.getD k ϰ) (q.getD k ϰ) m;rwa[Pb r s,TD.2 (QP _)]at J
   have B:Ϛ (∀m,ϛ wr m->CT 94 #[hdV (p.getD k ϰ).row,hdV (q.getD k ϰ).row] m (θ m (.bool true))):=λm hb=>by
    have J:=PU (p.getD k ϰ).row.1 (q.getD k ϰ).row.1 (p.getD k ϰ).row.2.2 (q.getD k ϰ).row.2.2 (l.getD k ϰ).row (l.getD k ϰ).row m (Ac r.row hb) (Ac s.row hb) O O;rw[decide_eq_true rfl]at J;unfold hdV;rw[r.len,s.len];exact J
   have F:=r.key.trans s.key.symm;have G:=r.time.trans s.time.symm;have H:=r.seq.trans s.seq.symm;have I:=r.met.trans s.met.symm;clear r s hm O;obtain⟨⟨T,Z,V,⟨r1,r2,r3⟩,U⟩,hz⟩:∃z,p.getD k ϰ=z:=⟨_,rfl⟩;obtain⟨⟨fk,ft,fs,⟨q1,q2,q3⟩,fm⟩,ad⟩:∃z,q.getD k ϰ=z:=⟨_,rfl⟩;rw[hz]at K L M E N A B F G H I;rw[ad]at u1 u2 u3 u4 u5 A B F G H I;unfold EM.val hdV at A;unfold hdV at B E u4;dsimp only at K L M E N u1 u2 u3 u4 u5 A B F G H I;subst F G H I;clear hz ad;have i1:(0:Int)<=(k:Int):=Ϝ;have i2:(k:Int)<(n:Int):=Ϝ;have dr:ϛ wr wr.drew:=bR.drew;go_wp2
   go_region_held3
    (λw'=>ϕ w' b1 (o1+k * 5) (.string T) (vI Z) (vI V) (vS r1 r2 r3) (.bool U) (ώ w' b2 (o2+k * 5) (.string T) (vI Z) (vI V) (vS q1 q2 q3) (.bool U)))
    (first|go_keep|exact⟨cLz h K,cLz h L,cLz h M,cLz h E,cLz h N,cLz h u1,cLz h u2,cLz h u3,cLz h u4,cLz h u5⟩|exact⟨cLz f K,cLz f L,cLz f M,cLz f E,cLz f N,cLz f u1,cLz f u2,cLz f u3,cLz f u4,cLz f u5⟩)
    (first
     |(go_at_call 94;refine(B.o _ f).mono ?_;rintro e wq ⟨rfl,ah⟩;have h:=bT f ah)
     |(go_at_call 189;refine(A.o _).mono ?_;rintro e wp ⟨rfl,ag⟩;have f:=dr.trans ag))
   all_goals
    have ai:ϛ w wq:=bT d h;go_wp2;go_roundw
    case rel=>exact⟨k+1,Ϝ,by go_num,ai⟩
    case measure=>simp[intOf];omega
  ·go_wp2;go_ret;exact⟨rfl,d⟩
theorem Uu(h:bufAt w b x)(c:bufAt w b x')(r:∀l∈partsB b,l.length<=χ)(s:∀y∈Ab b,y.row.length<=χ)(i:Nat)(a:i<b.runs.length):
 η 151 #[hdV (x.rs.getD i ϰ).1,hdV (x'.rs.getD i ϰ).1] w (θ w (.bool true)):=by
 have m:x.rs.getD i ϰ∈x.m::x.rs:=mem_cons_of_mem _ (AO (by rw[h.rlen];exact a));have p:x'.rs.getD i ϰ∈x'.m::x'.rs:=mem_cons_of_mem _ (AO (by rw[c.rlen];exact a));have d:=h.runs i a;have f:=c.runs i a;have q:b.runs.getD i ϰ∈partsB b:=mem_cons_of_mem _ (AO a);have k:=PH (x.rs.getD i ϰ).1.1 (x'.rs.getD i ϰ).1.1 (x.rs.getD i ϰ).1.2.2 (x'.rs.getD i ϰ).1.2.2 _ _ (b.runs.getD i ϰ) w (h.ems _ m) d (c.ems _ p) f (r _ q) (λy u=>s y (mem_flatten.2 ⟨_,q,u⟩));unfold hdV;rw[(h.len _ m).1,(c.len _ p).1,d.1,f.1];exact k
theorem Wq(h:bufAt w b x)(a:bufAt w b x')(m:∀l∈partsB b,l.length<=χ)(p:∀y∈Ab b,y.row.length<=χ):
 η 151 #[hdV x.m.1,hdV x'.m.1] w (θ w (.bool true)):=by
 have c:x.m∈x.m::x.rs:=mem_cons_self ..;have d:x'.m∈x'.m::x'.rs:=mem_cons_self ..;have f:b.mem∈partsB b:=mem_cons_self ..;have k:=PH x.m.1.1 x'.m.1.1 x.m.1.2.2 x'.m.1.2.2 _ _ b.mem w (h.ems _ c) h.mem (a.ems _ d) a.mem (m _ f) (λy q=>p y (mem_flatten.2 ⟨_,f,q⟩));unfold hdV;rw[(h.len _ c).1,(a.len _ d).1,h.mem.1,a.mem.1];exact k
theorem PI(b:Buf)(x x':BX)(w:Ϙ)(h:bufAt w b x)(r:bufAt w b x')(P:∀l∈partsB b,l.length<=χ)(Q:∀y∈Ab b,y.row.length<=χ):
 η 93 #[AY b x,AY b x'] w (θ w (.bool true)):=by
 have M:Ϛ (∀a,ϛ w a->CT 151 #[hdV x.m.1,hdV x'.m.1] a (θ a (.bool true))):=λa c=>Wq (Al h c) (Al r c) P Q;have N:Ϛ (∀i a,i<b.runs.length->ϛ w a->CT 151 #[hdV (x.rs.getD i ϰ).1,hdV (x'.rs.getD i ϰ).1] a (θ a (.bool true))):=λi a hi c=>Uu (Al h c) (Al r c) P Q i hi;have H1:Ϛ (FL w x.ra (x.rs.map (·.1))):=h.hds;have H2:Ϛ (FL w x'.ra (x'.rs.map (·.1))):=r.hds;have m:=h.rlen;have u:=r.rlen;have ac:=h.few;clear h r P Q;obtain⟨K,A,⟨⟨R,S,T⟩,ml⟩,D⟩:=x;obtain⟨L,B,⟨⟨U,V,Z⟩,ql⟩,E⟩:=x';obtain⟨p,al,ag⟩:=b;unfold AY hdV;unfold hdV at M;dsimp only at M N H1 H2 m u ac⊢;obtain⟨n,I⟩:∃n,ag.length=n:=⟨_,rfl⟩;have f:Ϛ (D.length=n/\E.length=n):=⟨by rw[m,I],by rw[u,I]⟩;rw[I]at N m u;rw[m]at ac;rw[m,u];clear I m u;have O:ϛ w (ξ (ξ w (ν p R S T K n A) 36) (ν p U V Z L n B) 36):=by
  repeat (first|exact bR|(refine Below.alloc ?_ ϣ _))
 have k1:Δ (ξ (ξ w (ν p R S T K n A) 36) (ν p U V Z L n B) 36) w 2 (vS K n A):=Ϡ;have k2:Δ (ξ (ξ w (ν p R S T K n A) 36) (ν p U V Z L n B) 36) (w+1) 2 (vS L n B):=Ϡ;go_enter func93,ntmps93;go_wp2_with fail;refine(M.o _ O).mono ?_;rintro e a ⟨rfl,G⟩;have c1:=cLz G k1;have c2:=cLz G k2;have aj:w.heap.size<a.heap.size:=bLt _ _ c1;have ak:w.heap.size+1<a.heap.size:=bLt _ _ c2;have af:ϛ w a:=bT O G;clear k1 k2 O G;go_wp2
 go_loopw [5] (λi wr=> ∃k:Nat,k<=n/\i=vI k/\ϛ a wr) (λi _=>n - (intOf i).toNat)
 case atStart=>exact⟨0,Nat.zero_le _,rfl,bR⟩
 case round=>
  obtain⟨k,hk,rfl,J⟩:=hrel;have d1:=cLz J c1;have d2:=cLz J c2;have H:=bT af J;have ah:w.heap.size<wr.heap.size:=bLt _ _ d1;have ai:w.heap.size+1<wr.heap.size:=bLt _ _ d2;by_cases d:k<n
  ·obtain⟨b1,o1,e1,x1⟩:=H1.o k (by rw[lMp,f.o.1];exact d);obtain⟨b2,o2,e2,y1⟩:=H2.o k (by rw[lMp,f.o.2];exact d);subst e1 e2;have F:=cLz H x1;have u1:=cLz H y1;have aa:(D.map (·.1)).getD k (none,0,0)=(D.getD k ϰ).1:=by rw[gDe,getElem?_map,gEe (by rw[f.o.1];exact d),gDe,gEe (by rw[f.o.1];exact d)];rfl
   have ab:(E.map (·.1)).getD k (none,0,0)=(E.getD k ϰ).1:=by rw[gDe,getElem?_map,gEe (by rw[f.o.2];exact d),gDe,gEe (by rw[f.o.2];exact d)];rfl
   rw[aa]at F;rw[ab]at u1;have q:Ϛ (∀a,ϛ w a->CT 151 #[hdV (D.getD k ϰ).1,hdV (E.getD k ϰ).1] a (θ a (.bool true))):=λa c=>N.o k a d c;obtain⟨⟨⟨s1,s2,s3⟩,sl⟩,hz⟩:∃z,D.getD k ϰ=z:=⟨_,rfl⟩;obtain⟨⟨⟨t1,t2,t3⟩,tl⟩,ad⟩:∃z,E.getD k ϰ=z:=⟨_,rfl⟩;rw[hz]at F q;rw[ad]at u1 q;unfold hdV at F u1 q;dsimp only at F u1 q;have i1:(0:Int)<=(k:Int):=Ϝ;have i2:(k:Int)<(n:Int):=Ϝ;clear hz ad aa ab x1 y1;go_wp2
   go_region_held3 (λw'=>Δ w' w 2 (vS (some ⟨b1,o1,none⟩) n A)/\Δ w' (w+1) 2 (vS (some ⟨b2,o2,none⟩) n B)/\Δ w' b1 (o1+k) (vS s1 s2 s3)/\Δ w' b2 (o2+k) (vS t1 t2 t3)) (first|go_keep|exact⟨cLz s d1,cLz s d2,cLz s F,cLz s u1⟩)
    (first|(go_at_call 151;refine(q.o _ H.drew).mono ?_;rintro e wq ⟨rfl,ae⟩;have s:ϛ wr wq:=bR.drew.trans ae))
   all_goals
    go_wp2;go_roundw
    case rel=>exact⟨k+1,Ϝ,by go_num,bT J s⟩
    case measure=>simp[intOf];omega
  ·go_wp2;go_ret;exact⟨rfl,H⟩
end bf
end Go.Proofs.YtfkihidbnfkbaaaGreatDoor
