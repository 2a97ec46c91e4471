import Derived.Test.YtfkihidbnfkbaaaGreatDoorPv22
set_option linter.all false
set_option maxHeartbeats 8000000
set_option maxRecDepth 100000
open Inhabited renaming default->ϰ
open List renaming length->ϲ
namespace Go.Proofs.YtfkihidbnfkbaaaGreatDoor
open ChangeShapes WideShapes ChangeAt RowKit List Proofs.Tryz
namespace bf
open vl
variable {W W1 W2 : ϟ} {o : Obj} {C NB base g : Nat} {x : BX} {b : Buf}
def Ms{r:Option Nat}(a:(W1.alloc o).grownBy W2 r):W1.heap.size<=W2.heap.size/\∀k,k<W1.heap.size->r≠some k->W2.heap[k]? =W1.heap[k]? :=
 ⟨by have:=a.size;simp at this;omega,λk c d=>by
  rw[a.block k Ϩ (λe=>d e.symm)];exact LE _ _ k c⟩
def Ae9(h:PSt W C NB base x b)(f:Ϣ W W1)(l:(W1.alloc o).grownBy W2 (hdV x.m.1).ownBlock):
 Δ W2 NB 1 (hdV x.m.1)/\Ξ W2 NB 1:=by
 have c:=h.below f;obtain⟨hs,m⟩:=Ms l;obtain⟨d,q⟩:=OX c hs m;exact⟨(cOb (a:=⟨NB,1,none⟩) d).trans c.k.c1,(AZ (p:=⟨NB,1,none⟩) d).trans c.f1⟩
theorem AeA{c4:Nat}{e:EM}{y:Ent}(h:PSt W C NB base x b)(m:Ϣ W W1)(J:OR W1 base e y)
 (I:W2.ownsRow base 166 5 (vS (ϋ g) (ϲ x.m.2+1) c4) (ϲ x.m.2+1) (Ap x.m.2++[.string e.key,vI e.time,vI e.seq,hdV e.row,.bool e.met])) (q:(W1.alloc o).grownBy W2 (hdV x.m.1).ownBlock) (F:(hdV x.m.1).ownBlock=some g\/g=W1.heap.size+1):
 PSt (ό W2 NB 1 (vS (ϋ g) (ϲ x.m.2+1) c4)) C NB base ⟨x.ra,x.rc,((some ⟨g,0,none⟩,ϲ x.m.2+1,c4),x.m.2++[e]),x.rs⟩ ⟨b.lim,b.mem++[y],b.runs⟩/\Below base W (ό W2 NB 1 (vS (ϋ g) (ϲ x.m.2+1) c4)):=by
 have c:=h.below m;obtain⟨hs,r⟩:=Ms q;obtain⟨f,B⟩:=OX c hs r;have s:=JC h.k.ob.mem m J I q;have E:OB W2 base ⟨x.ra,x.rc,((some ⟨g,0,none⟩,ϲ x.m.2+1,c4),x.m.2++[e]),x.rs⟩ ⟨b.lim,b.mem++[y],b.runs⟩:=AcC c.k.ob s.1 hs r (λD G=>by
  have:g=D:=by cases G;rfl
  subst this;rcases F with l|l
  ·exact .inl l
  ·exact .inr ϣ)
 have z:=A1 c.k.ty f;have K:=(cOb (a:=⟨NB,0,none⟩) f).trans c.k.c0;have A:=(cOb (a:=⟨NB,1,none⟩) f).trans c.k.c1;have L:=(cOb (a:=⟨NB,2,none⟩) f).trans c.k.c2;have M:=(AZ (p:=⟨NB,1,none⟩) f).trans c.f1;have N:=(AZ (p:=⟨NB,2,none⟩) f).trans c.k.f2;have H:=h.k.ne;have d:∀u,(W2.setCell ⟨NB,1,none⟩ u).heap[C]? =W1.heap[C]? :=λu=>(CB _ _ _ _ ϩ).trans B;refine⟨⟨⟨Ml E z _ _,?_,JR _ _ _ A,?_,?_,tyAt_set z _ _,(cOb (a:=⟨C,0,none⟩) (d _)).trans c.k.r0,(cOb (a:=⟨C,1,none⟩) (d _)).trans c.k.r1,(cOb (a:=⟨C,2,none⟩) (d _)).trans c.k.r2,(AZ (p:=⟨C,0,none⟩) (d _)).trans c.k.g0,(AZ (p:=⟨C,1,none⟩) (d _)).trans c.k.g1,(AZ (p:=⟨C,2,none⟩) (d _)).trans c.k.g2,A1 c.k.rt (d _),H,h.k.up⟩,?_⟩,?_⟩
 ·dsimp only;go_simp
 ·dsimp only;go_simp
 ·go_simp
 ·go_simp
 ·have:=h.k.up;exact s.2.setCell ϩ _
def TA(h:PSt W C NB base x b)(d:(W.alloc o).grownBy W2 (Value.slice x.ra (ϲ x.rs) x.rc).ownBlock):
 W2.heap.size≥W.heap.size/\W2.heap[NB]? =W.heap[NB]? /\W2.heap[C]? =W.heap[C]? /\(∀k,Am W k 166\/Am W k 119->W2.heap[k]? =W.heap[k]?):=by
 obtain⟨hs,f⟩:=Ms d;have c:∀k t,Am W k t->t≠33->W2.heap[k]? =W.heap[k]? :=λk t a l=>f k (A7 a) (λe=>tyAt_apart (Az h.k.ob.hds e) a (λe=>l e.symm) rfl);exact⟨hs,c _ _ h.k.ty Ϥ,c _ _ h.k.rt Ϥ,λk a=>by rcases a with a|a;exact c _ _ a Ϥ;exact c _ _ a Ϥ⟩
theorem Aca{cap2:Nat}(h:PSt W C NB base x b)
 (E:W2.ownsRow base 33 1 (vS (ϋ g) (ϲ x.rs+1) cap2) (ϲ x.rs+1) ((x.rs.map λp=>hdV p.1)++[hdV x.m.1])) (m:(W.alloc o).grownBy W2 (Value.slice x.ra (ϲ x.rs) x.rc).ownBlock):
 PSt (ό (ό W2 NB 2 (vS (ϋ g) (ϲ x.rs+1) cap2)) NB 1 (vS none 0 0)) C NB base ⟨some ⟨g,0,none⟩,cap2,((none,0,0),[]),x.rs++[x.m]⟩ ⟨b.lim,[],b.runs++[b.mem]⟩/\Below base W (ό (ό W2 NB 2 (vS (ϋ g) (ϲ x.rs+1) cap2)) NB 1 (vS none 0 0)):=by
 obtain⟨hs,f,r,A⟩:=TA h m;have s:=AeX h.k.ob E hs A;have l:=A1 h.k.ty f;have F:=(cOb (a:=⟨NB,0,none⟩) f).trans h.k.c0;have G:=(cOb (a:=⟨NB,1,none⟩) f).trans h.k.c1;have H:=(cOb (a:=⟨NB,2,none⟩) f).trans h.k.c2;have I:=(AZ (p:=⟨NB,1,none⟩) f).trans h.f1;have J:=(AZ (p:=⟨NB,2,none⟩) f).trans h.k.f2;have D:=h.k.ne;have d:∀u q,((W2.setCell ⟨NB,2,none⟩ u).setCell ⟨NB,1,none⟩ q).heap[C]? =W.heap[C]? :=λu q=>(CB _ _ _ _ ϩ).trans ((CB _ _ _ _ ϩ).trans r);refine⟨⟨⟨Ml (Ml s l _ _) (tyAt_set l _ _) _ _,?_,?_,?_,?_,tyAt_set (tyAt_set l _ _) _ _,(cOb (a:=⟨C,0,none⟩) (d _ _)).trans h.k.r0,(cOb (a:=⟨C,1,none⟩) (d _ _)).trans h.k.r1,(cOb (a:=⟨C,2,none⟩) (d _ _)).trans h.k.r2,(AZ (p:=⟨C,0,none⟩) (d _ _)).trans h.k.g0,(AZ (p:=⟨C,1,none⟩) (d _ _)).trans h.k.g1,(AZ (p:=⟨C,2,none⟩) (d _ _)).trans h.k.g2,A1 h.k.rt (d _ _),D,h.k.up⟩,?_⟩,?_⟩
 ·dsimp only;go_simp
 ·unfold hdV;dsimp only;go_simp
 ·dsimp only;rw[lAp];go_simp
 ·go_simp
 ·go_simp
 ·have:=h.k.up;have B:=h.k.ob.low;have y:Below base W W2:=(bR.alloc B o).grown m Ϩ (λc z=>(AL h.k.ob.hds z).1);exact(y.setCell ϩ _).setCell ϩ _
theorem Z7{N:Array Oper}{o:Oper}{a:Act}{K:Act->World->Prop}{Q:Exit->Act->World->Prop}{E:Prop}(A:o.guard=none)(s x:Operand)
 (F:o.op= .call {callee:=.builtin .append,args:=#[s,x],argTypes:=#[33,33]})
 (base:Nat) (v:Value) (L:List EM) (f:ByteArray) (p m:Int) (ad:Ϡ) (q cap:Nat) (l:Bool) (c:ϟ) (d:Nat) (D:c.ownsRow base 166 5 v d (Ap L)) (P:d<=1000000) (O:base<=c.heap.size)
 (hs:a.eval s=v) (G:a.eval x=vS (ϋ c) 1 1)
 (h:∀g y r,r.ownsRow base 166 5 (vS (ϋ g) (d+1) y) (d+1) (Ap L++[.string f,vI p,vI m,vS ad q cap,.bool l])->(c.alloc (.cells (φ f p m ad q cap l) 166)).grownBy r v.ownBlock->(v.ownBlock=some g\/g=c.heap.size+1)->g<r.heap.size->K (a.put o.dst (vS (ϋ g) (d+1) y)) r):
 if Region.wanted o (yielded N a.tmps)=true then Oper.wp prog o a (ϊ c (φ f p m ad q cap l) 166) K Q else E:=by
 obtain⟨M,B,H,I,J⟩:=IR Ul;exact step_append_lies _ A s x 33 F base 166 M (.agg #[ϐ,Ϗ,Ϗ,ώ,ϑ]) 5 64 underlying33 B H I J rfl Ϥ v d (Ap L) hs
  (D.alloc _) ⟨c,0,none⟩ 1 1 [.string f,vI p,vI m,vS ad q cap,.bool l] G rfl (Eu _ _ _ _ _ _ _) (by intro u z;simp at z;rcases z with rfl|rfl|rfl|rfl|rfl<;>rfl) Ϥ ϭ ϣ Ϩ (c.heap.size+1) ϥ h
attribute [local go_sem] Oper.semAt_some
def IE(b:Buf)(l:List Ent):Buf:=if b.lim<(ϲ l:Int)then⟨b.lim,[],b.runs++[l]⟩else⟨b.lim,l,b.runs⟩
theorem Ago(b:Buf)(x:BX)(e:EM)(y:Ent)(w:ϟ)(h:bufAt w b x)(hw:∀y∈Ab b,wfE y/\wfP (AJ y))(hs:ϲ (Ab b)<=4611686018427387904)(he:D6 b=0)(hr:ER w e y)(hy:wfE y)(hf:Du y=true)(hh:hasB (Ab b) (AJ y)=false)(hm:ϲ (Ab b)≠4096):
 χ 345 #[Bh b x,e.val] w λr w'=>(∃x' l',r= .returned (.tuple #[Bh (IE b l') x',Ϗ])/\l'.Perm (b.mem++[y])/\Nq l'/\OB w' w x' (IE b l'))/\Ϣ w w':=by
 have KC:ϡ (∀f,Ϣ w f->CT 100 #[Bh b x] f (ψ f (vI 0))):=λf L=>by
  have:=Bb b x f (Ao h L) hw hs;rwa[he]at this
 have KE:ϡ (∀f,Ϣ w f->CT 271 #[e.val] f (ψ f (.bool true))):=λf L=>by
  have:=IL e y f (hr.below L) hy;rwa[hf]at this
 have KP:=hIz (λ(f:ϟ)=>IK e f);have KH:ϡ (∀f,Ϣ w f->CT 350 #[Bh b x,.agg #[.string e.key,vI e.time,vI e.seq]] f (ψ f (.bool false))):=λf L=>by
  have k:=AeU b x (AJ y) f (Ao h L);rw[hh]at k;unfold BM AJ at k;rw[<-hr.key,<-hr.time,<-hr.seq]at k;exact k
 have KS:=hIz (λ(f:ϟ) (L:Ϣ w f)=>NP b x f (Ao h L) hs);have bb:=ED he;have ai:=bb.small;have bv:=ai.1 b.mem (E0 ..);have KK:ϡ (∀f,Ϣ w f->CT 253 #[Bh b x,.func (.func 254) #[] #[]] f λr w'=>(∃x',r= .returned (Bh b x')/\OB w' f x' b)/\Ϣ f w'):=λf L=>by
  have k:=Ld 254 (IB func254 Ϧ rfl) #[] (λ_=>true) b x f (Ao h L) ai.1 ai.2.1 ai.2.2 (λe y Q _ _ _=>by rw[eL];exact Im e Q);rw[Kx bb]at k;exact k
 have b1:ϲ y.row<=1000000:=by
  have h1:=(Me.1 hf).2.1;unfold Aq at h1;by_cases h8:8<ϲ y.row
  ·rw[AE h8]at h1;cases h1
  ·omega
 have KF:=hIz (λ(f:ϟ) (L:Ϣ w f)=>Hu e y f (hr.below L) b1);have au:=hV0 hr;obtain⟨N,hN⟩:=nM (ϲ (Ab b));rw[hN]at KS hm;have dm:((N:Int)==4096)=false:=by simpa using(λh=>hm ϣ:¬(N:Int)=4096)
 have cd:=hV0 bv;have bw:ϲ b.runs<=100000:=ai.2.1;have cg:=hV0 bw;clear h hw hs he hr hy hf hh hm bb ai bv hN b1 bw;obtain⟨ra,rc,⟨⟨m1,m2,m3⟩,ml⟩,rs⟩:=x;obtain⟨d,ab,P⟩:=b;obtain⟨H,K,J,⟨r1,r2,r3⟩,I⟩:=e;rw[show Bh ⟨d,ab,P⟩ ⟨ra,rc,((m1,m2,m3),ml),rs⟩= .agg #[vI d,vS m1 m2 m3,vS ra (ϲ rs) rc]from rfl]at KC KH KS KK⊢;unfold EM.val EM.to hdV at KF;unfold EM.val hdV at KE KP⊢;dsimp only at KE KP KH KF⊢;obtain⟨n,hn⟩:∃n,ϲ rs=n:=⟨_,rfl⟩;rw[hn]at KC KH KS KK⊢;clear hn;obtain⟨rl,bc⟩:=nM (ϲ y.row);have cj:=hV0 bc;rw[bc]at KF;clear bc;have bk:Ϣ w (ϊ (ϊ (ϊ w (τ d m1 m2 m3 ra n rc) 36) (φ H K J r1 r2 r3 I) 166) #[Ϗ,ώ,ώ] 36):=by
  repeat (first|exact bR|(refine DH ?_ Ϫ _))
 have aw:=Lc (ϊ (ϊ w (τ d m1 m2 m3 ra n rc) 36) (φ H K J r1 r2 r3 I) 166);rw[D0,D0]at aw;have cf:ϡ (nbAt (ϊ (ϊ (ϊ w (τ d m1 m2 m3 ra n rc) 36) (φ H K J r1 r2 r3 I) 166) #[Ϗ,ώ,ώ] 36) (w.heap.size+1+1)):=aw;clear aw;go_enter func345,ntmps345;go_wp2_with (first
  |(go_at_call 100;refine(KC.o _ bk).mono ?_;rintro e Q ⟨rfl,R⟩;have bq:Ϣ w Q:=bT bk R;have c7:=C4 R cf.o;have k0:Δ Q w 0 (vI d):=cLz R ϧ;have k1:Δ Q w 1 (vS m1 m2 m3):=cLz R ϧ;have k2:Δ Q w 2 (vS ra n rc):=cLz R ϧ;have d0:Δ Q (w+1) 0 (.string H):=cLz R ϧ;have d1:Δ Q (w+1) 1 (vI K):=cLz R ϧ;have d2:Δ Q (w+1) 2 (vI J):=cLz R ϧ;have d3:Δ Q (w+1) 3 (vS r1 r2 r3):=cLz R ϧ;have d4:Δ Q (w+1) 4 (.bool I):=cLz R ϧ)
  |(go_at_call 271;refine(KE.o _ bq).mono ?_;rintro e w3 ⟨rfl,S⟩;have b8:=C4 S c7;have br:Ϣ w w3:=bT bq S;have ds:Δ w3 w 0 (vI d):=cLz S k0;have dt:Δ w3 w 1 (vS m1 m2 m3):=cLz S k1;have du:Δ w3 w 2 (vS ra n rc):=cLz S k2;have cn:Δ w3 (w+1) 0 (.string H):=cLz S d0;have co:Δ w3 (w+1) 1 (vI K):=cLz S d1;have cq:Δ w3 (w+1) 2 (vI J):=cLz S d2;have cr:Δ w3 (w+1) 3 (vS r1 r2 r3):=cLz S d3;have cs:Δ w3 (w+1) 4 (.bool I):=cLz S d4))
 go_region_law (first
  |(go_simp;go_at_call 275;refine(KP.o _).mono ?_;rintro e w4 ⟨rfl,T⟩;have bn:Ϣ w w4:=br.drew.trans (T.mono br.size);have b9:=C4 T (Nt b8);have v0:Δ w4 (w+1) 0 (.string H):=cLz T cn;have v1:Δ w4 (w+1) 1 (vI K):=cLz T co;have v2:Δ w4 (w+1) 2 (vI J):=cLz T cq;have v3:Δ w4 (w+1) 3 (vS r1 r2 r3):=cLz T cr;have v4:Δ w4 (w+1) 4 (.bool I):=cLz T cs;have u0:Δ w4 w 0 (vI d):=cLz T ϧ;have u1:Δ w4 w 1 (vS m1 m2 m3):=cLz T ϧ;have u2:Δ w4 w 2 (vS ra n rc):=cLz T ϧ)
  |(go_simp;go_at_call 350;refine(KH.o _ bn).mono ?_;rintro e w5 ⟨rfl,U⟩;have ca:=C4 U b9;have bo:Ϣ w w5:=bT bn U;have x0:Δ w5 (w+1) 0 (.string H):=cLz U v0;have x1:Δ w5 (w+1) 1 (vI K):=cLz U v1;have x2:Δ w5 (w+1) 2 (vI J):=cLz U v2;have x3:Δ w5 (w+1) 3 (vS r1 r2 r3):=cLz U v3;have x4:Δ w5 (w+1) 4 (.bool I):=cLz U v4;have s0:Δ w5 w 0 (vI d):=cLz U ϧ;have s1:Δ w5 w 1 (vS m1 m2 m3):=cLz U ϧ;have s2:Δ w5 w 2 (vS ra n rc):=cLz U ϧ))
 all_goals
  go_wp2_with (first
   |(go_at_call 232;refine(KS.o _ bo).mono ?_;rintro e w6 ⟨rfl,Z⟩;have cb:=C4 Z ca;have a5:Ϣ w w6:=bT bo Z;have t0:Δ w6 w 0 (vI d):=cLz Z s0;have t1:Δ w6 w 1 (vS m1 m2 m3):=cLz Z s1;have t2:Δ w6 w 2 (vS ra n rc):=cLz Z s2)
   |(go_at_call 253;refine(KK.o _ a5).mono ?_;rintro e c ⟨⟨⟨q,s,⟨⟨D,G,E⟩,ac⟩,O⟩,rfl,c5⟩,ae⟩;have al:ϡ (OB c w.heap.size ⟨q,s,((D,G,E),ac),O⟩ ⟨d,ab,P⟩):=CL c5 a5.size;rw[show Bh ⟨d,ab,P⟩ ⟨q,s,((D,G,E),ac),O⟩= .agg #[vI d,vS D G E,vS q (ϲ O) s]from rfl];have cc:=C4 ae cb;have bp:Ϣ w c:=bT a5 ae;obtain⟨F,ar⟩:=nM (ϲ O);rw[ar]))
  have q0:Δ c (w+1) 0 (.string H):=cLz ae (cLz Z x0);have q1:Δ c (w+1) 1 (vI K):=cLz ae (cLz Z x1);have q2:Δ c (w+1) 2 (vI J):=cLz ae (cLz Z x2);have q3:Δ c (w+1) 3 (vS r1 r2 r3):=cLz ae (cLz Z x3);have q4:Δ c (w+1) 4 (.bool I):=cLz ae (cLz Z x4);have cw:G=ϲ ac:=by
   obtain⟨ad,cp,hf⟩:=al.o.mem.form;unfold hdV at hf;injection hf with _ e2 _
  have c2:ϲ ac<=100000:=by rw[al.o.mem.len];exact cd.o
  have aa:=hV0 ar;have dq:F<=100000:=by rw[<-ar,al.o.rlen];exact cg.o
  have am:ϡ (PSt (ϊ c (τ d D G E q F s) 36) (w.heap.size+1+1) c.heap.size w.heap.size ⟨q,s,((D,G,E),ac),O⟩ ⟨d,ab,P⟩):=by
   have k:=Ag1 cc al.o (show w.heap.size<=w.heap.size+1+1 by omega);rw[<-ar];exact k
  have ao:Ϣ w (ϊ c (τ d D G E q F s) 36):=bp.alloc bp.size _;have bm:Ϣ c (ϊ c (τ d D G E q F s) 36):=Ϯ;obtain⟨y0,y1,y2,y3,y4⟩:=lk5 bm q0 q1 q2 q3 q4;have z1:Δ (ϊ c (τ d D G E q F s) 36) c 1 (vS D G E):=am.o.k.c1;have b7:c.heap.size<(c.alloc (.cells (τ d D G E q F s) 36)).heap.size:=ϥ;have dy:w.heap.size+1<c.heap.size:=bLt _ _ q0;clear s0 s1 s2 t0 t1 t2 u0 u1 u2 q0 q1 q2 q3 q4 b8 b9 ca cb cc ar x0 x1 x2 x3 x4 v0 v1 v2 v3 v4;subst cw;obtain⟨m,a9⟩:=nM (ϲ ac);have aj:=hV0 a9;rw[a9]at c2 z1 am y0 y1 y2 y3 y4 ao bm b7⊢;clear a9;generalize di:c.alloc (.cells (τ d D m E q F s) 36)=V at *;obtain⟨i0,bu,b2,b3,b4⟩:=IR AfE;have HI:ϡ (prog.info? 33=some i0/\i0.zero=some (vS none 0 0)/\i0.size=1/\i0.bytes=24):=⟨bu,b2,b3,b4⟩;clear bu b2 b3 b4
  go_region_law (first
   |(refine Z7 (by rfl) (.tmp 30) (.tmp 33) (by rfl) w.heap.size (vS D m E) ac H K J ax rl c9 I w9 m bh.o ϣ (B0 ao.size ah.size) (by simp[Act.eval,Act.put]) (by simp[Act.eval,Act.put]) ?_;intro A z c8 bz a6 cx dl;have c0:=Ae9 am.o ah a6;obtain⟨p1,pf⟩:=c0;unfold hdV at p1;dsimp only at p1)
   |(go_simp;go_at_call 295;refine(KF.o _ ao.drew).mono ?_;rintro e w9 ⟨⟨ax,c9,rfl,bx⟩,cy⟩;have ah:Ϣ V w9:=bR.drew.trans cy;have n1:Δ w9 c 1 (vS D m E):=cLz ah z1;have bh:ϡ (w9.ownsRow w.heap.size 166 5 (vS D m E) m (Ap ac)):=(by have k:=own_below am.o.k.ob.mem.own ah;dsimp only at k;rw[aj.o]at k;exact k);have dx:c.heap.size<w9.heap.size:=NE b7 ah.size))
  all_goals
   have av:=AeA (e:=⟨H,K,J,(ax,rl,c9),I⟩) (y:=y) (g:=A) (c4:=z) am.o ah ⟨au.o.key,au.o.time,au.o.seq,au.o.met,cj.o.symm,by unfold hdV;dsimp only;exact D7 bx ao.size⟩ (by dsimp only;rw[aj.o];exact bz) a6 cx;dsimp only at av;rw[aj.o]at av;obtain⟨P2,B2⟩:=av;generalize c8.setCell ⟨c,1,none⟩ (vS (ϋ A) (m+1) z)=W2 at *;have a4:Ϣ w W2:=ao.trans B2;have bi:ϡ (PSt W2 (w.heap.size+1+1) c.heap.size w.heap.size ⟨q,s,((some ⟨A,0,none⟩,m+1,z),ac++[⟨H,K,J,(ax,rl,c9),I⟩]),O⟩ ⟨d,ab++[y],P⟩):=P2;have bj:ϡ (CT 351 #[vS (ϋ A) (m+1) z,.func (.func 272) #[] #[]] W2 λe w'=>e= .returned (.tuple #[])/\∃ct l',l'.Perm (ab++[y])/\(∀i j,i<j->j<ϲ l'->¬ltP (l'.getD j ϰ) (l'.getD i ϰ))/\OE w' w (vS (ϋ A) (m+1) z) ct l'/\Below w.heap.size W2 w'/\(∀b,b<W2.heap.size->(Value.slice (ϋ A) (m+1) z).ownBlock≠some b->w'.heap[b]? =W2.heap[b]?)):=UL w.heap.size _ _ _ W2 P2.k.ob.mem (by rw[lAp,aj.o];simp;omega);have c1:Δ W2 c 1 (vS (ϋ A) (m+1) z):=P2.k.c1;have bg:ϡ (ϲ ab=m):=by show _=_;rw[<-aj.o,al.o.mem.len]
   clear P2 y0 y1 y2 y3 y4 z1 bz a6 bx p1 pf n1 bh;by_cases dj:d<(m:Int)+1
   ·go_wp2_with (first
     |(go_at_call 351;refine bj.o.mono ?_;rintro e B ⟨rfl,an,M,ap,bd,ba,ag,a7⟩;have l:=Um bi.o ba ag.size a7;dsimp only at l;have af:ϡ (PSt B (w.heap.size+1+1) c.heap.size w.heap.size ⟨q,s,((some ⟨A,0,none⟩,m+1,z),an),O⟩ ⟨d,M,P⟩):=l;have be:Δ B c 0 (vI d):=l.k.c0;have b5:Δ B c 1 (vS (ϋ A) (m+1) z):=l.k.c1;have b6:Δ B c 2 (vS q F s):=(by have k:=l.k.c2;dsimp only at k;rw[aa.o]at k;exact k);have j0:=l.k.r0;have j1:=l.k.r1;have j2:=l.k.r2;have g0:=l.k.g0;have g1:=l.k.g1;have g2:=l.k.g2;have cu:=l.f1;have cv:=l.k.f2;have ci:ϡ (B.ownsRow w.heap.size 33 1 (vS q F s) F (O.map λp=>hdV p.1)):=(by have k:=l.k.ob.hds;dsimp only at k;rw[aa.o]at k;exact k);have dr:w.heap.size<=B.heap.size:=B0 a4.size ag.size;have dw:c.heap.size<B.heap.size:=bLt _ _ be;have dv:w.heap.size+1+1<B.heap.size:=bLt _ _ j0;clear l)
     |(at_builtin;refine Vc _ rfl (.tmp 46) (.tmp 49) 34 rfl w.heap.size 33 i0 (vS none 0 0) 1 24 underlying34 HI.o.1 HI.o.2.1 HI.o.2.2.1 HI.o.2.2.2 rfl Ϥ _ _ _ rfl (WD ci.o _) ⟨B.heap.size,0,none⟩ 1 1 [vS (ϋ A) (m+1) z] rfl rfl (cell_one_new _ _ rfl _) (by intro u hu;simp at hu;rcases hu with rfl;rfl) ϭ ϣ Ϩ ?_;intro dz d5 b0 bs dp;obtain⟨az,ay,c6⟩:=Oi b0;subst c6;have cz:=TA af.o (by dsimp only;rw[aa.o];exact bs);obtain⟨_,eN,eC,_⟩:=cz;have da:=(cOb (a:=⟨c.heap.size,0,none⟩) eN).trans be;have db:=(cOb (a:=⟨c.heap.size,1,none⟩) eN).trans b5;have dc:=(cOb (a:=⟨c.heap.size,2,none⟩) eN).trans b6;have dd:=(AZ (p:=⟨c.heap.size,1,none⟩) eN).trans cu;have de:=(AZ (p:=⟨c.heap.size,2,none⟩) eN).trans cv;have ck:=(cOb (a:=⟨w.heap.size+1+1,0,none⟩) eC).trans j0;have cl:=(cOb (a:=⟨w.heap.size+1+1,1,none⟩) eC).trans j1;have cm:=(cOb (a:=⟨w.heap.size+1+1,2,none⟩) eC).trans j2;have df:=(AZ (p:=⟨w.heap.size+1+1,0,none⟩) eC).trans g0;have dg:=(AZ (p:=⟨w.heap.size+1+1,1,none⟩) eC).trans g1;have dh:=(AZ (p:=⟨w.heap.size+1+1,2,none⟩) eC).trans g2;have c3:w.heap.size+1+1≠c.heap.size:=Nat.ne_of_lt af.o.k.ne))
    have a8:ϲ M=m+1:=by rw[ap.length_eq,lAp,bg.o];rfl
    have aq:IE ⟨d,ab,P⟩ M=⟨d,[],P++[M]⟩:=by unfold IE;rw[AE (by dsimp only;rw[a8];push_cast;omega)]
    have ak:=Aca (g:=az) (cap2:=ay) af.o (by dsimp only;rw[aa.o];exact b0) (by dsimp only;rw[aa.o];exact bs);dsimp only at ak;rw[aa.o]at ak;have a0:=(a4.trans ag).trans ak.2;refine CD (v:=.tuple #[.agg #[vI d,ώ,vS (ϋ az) (F+1) ay],Ϗ]) (by simp[results,results345,go_sem,ck,cl,cm,c3]) rfl ⟨⟨⟨some ⟨az,0,none⟩,ay,((none,0,0),[]),O++[((some ⟨A,0,none⟩,m+1,z),an)]⟩,M,?_,ap,bd,?_⟩,?_⟩
    ·rw[aq];unfold Bh hdV;dsimp only;rw[lAp,aa.o];rfl
    ·rw[aq];exact Nu ak.1.k.ob ak.1.k.rt _ _ _
    ·exact((a0.setCell ϩ _).setCell ϩ _).setCell ϩ _
   ·go_wp2_with (go_at_call 351;refine bj.o.mono ?_;rintro e B ⟨rfl,an,M,ap,bd,ba,ag,a7⟩;have l:=Um bi.o ba ag.size a7;dsimp only at l;have af:ϡ (PSt B (w.heap.size+1+1) c.heap.size w.heap.size ⟨q,s,((some ⟨A,0,none⟩,m+1,z),an),O⟩ ⟨d,M,P⟩):=l;have be:Δ B c 0 (vI d):=l.k.c0;have b5:Δ B c 1 (vS (ϋ A) (m+1) z):=l.k.c1;have b6:Δ B c 2 (vS q F s):=(by have k:=l.k.c2;dsimp only at k;rw[aa.o]at k;exact k);have j0:=l.k.r0;have j1:=l.k.r1;have j2:=l.k.r2;have g0:=l.k.g0;have g1:=l.k.g1;have g2:=l.k.g2;clear l);have a8:ϲ M=m+1:=by rw[ap.length_eq,lAp,bg.o];rfl
    have a0:Ϣ w B:=a4.trans ag;have aq:IE ⟨d,ab,P⟩ M=⟨d,M,P⟩:=by unfold IE;rw[AC (by dsimp only;rw[a8];push_cast;omega)]
    refine CD (v:=.tuple #[.agg #[vI d,vS (ϋ A) (m+1) z,vS q F s],Ϗ]) (by simp[results,results345,go_sem,j0,j1,j2]) rfl ⟨⟨⟨q,s,((some ⟨A,0,none⟩,m+1,z),an),O⟩,M,?_,ap,bd,?_⟩,?_⟩
    ·rw[aq];unfold Bh hdV;dsimp only;rw[aa.o]
    ·rw[aq];exact Nu af.o.k.ob af.o.k.rt _ _ _
    ·exact((a0.setCell ϩ _).setCell ϩ _).setCell ϩ _
end bf
namespace bf
open vl
variable {X Y w w' : ϟ} {base cap g i j k n : Nat} {e t : TypeId} {xs : List Value} {v : Value} {b : Buf} {hs : List Hdr} {x : BX}
def J6{size:Nat}(h:w.ownsRow base e size (vS (ϋ g) n cap) n xs)(j:Nat)(u:j<n * size)(x:Value):(w.setCell ⟨g,j,none⟩ x).ownsRow base e size (vS (ϋ g) n cap) n (xs.set j x):=by
 refine⟨by rw[bI];exact h.1,?_⟩;rcases h.2 with⟨c,_⟩|⟨s,r,a,c,l,f,d,m,p,q⟩
 ·cases c
 ·cases c
  have y:n * size<=cap * size:=cY _ d;refine .inr ⟨g,cap,a.setIfInBounds j x,rfl,l,?_,d,m,by rw[Array.size_setIfInBounds];exact p,?_⟩
  ·rw[setCell_eq_setRow w g j a e (0,0) x f];exact setRow_heap w g a _ e _ f
  ·rw[Array.toList_setIfInBounds,<-q,take_set]
def EM.meet(e:EM):EM:=⟨e.key,e.time,e.seq,e.row,true⟩
def Ent.meet(x:Ent):Ent:=⟨x.key,x.time,x.seq,x.row,true⟩
theorem JZ:∀(l:List EM) (i:Nat),i<ϲ l->(Ap l).set (i * 5+4) (.bool true)=Ap (l.set i (l.getD i ϰ).meet)
 |[],i,h=>absurd h (CA i)
 |e::l,0,_=>rfl
 |e::l,i+1,h=>by
  have c:=JZ l i (by simpa using h);have a:Ap (e::l)= .string e.key::vI e.time::vI e.seq::hdV e.row:: .bool e.met::Ap l:=rfl;rw[a,show(i+1) * 5+4=(i * 5+4)+1+1+1+1+1 by omega];simp only[sSz,c,cB];rfl
def Et{α:Type}{l:List α}{a d:α}(h:i<ϲ l):(l.set i a).getD i d=a:=by
 simp[gDe,h]
def Fh{α:Type}{l:List α}{a d:α}(h:i≠j):(l.set i a).getD j d=l.getD j d:=by
 simp[gDe,dC h]
theorem Agp{a:List EM}{l:List Ent}(h:OE w base (vS (ϋ g) (ϲ a) cap) a l)(q:i<ϲ l):
 OE (ό w g (i * 5+4) (.bool true)) base (vS (ϋ g) (ϲ a) cap) (a.set i (a.getD i ϰ).meet) (l.set i (l.getD i ϰ).meet):=by
 have s:i<ϲ a:=by rw[h.len];exact q
 refine⟨by simpa[World.setCell]using h.low,?_,by rw[bI,bI,h.len],λj u=>?_⟩
 ·rw[bI,<-JZ a i s];exact J6 h.own _ ϣ _
 ·rw[bI]at u;have y:∀{e:EM} {x:Ent},OR w base e x->OR (ό w g (i * 5+4) (.bool true)) base e x:=λ{e x} k=>by
   obtain⟨d,f,m,r,p,c⟩:=k;exact⟨d,f,m,r,p,A4 c (λb z=>CB _ _ _ _ (λe=>JB h.own c Ϥ (show(Value.slice (ϋ g) (ϲ a) cap).ownBlock=some b by rw[e];rfl) z))⟩
  by_cases e:i=j
  ·subst e;rw[Et s,Et q];obtain⟨d,f,m,r,p,c⟩:=y (h.rows i q);exact⟨d,f,m,rfl,p,c⟩
  ·rw[Fh e,Fh e];exact y (h.rows j u)
def AeB{d:Nat}{c f:List EM}{l s:List Ent}(h:OE w base v c l)(q:OE w d (vS (ϋ g) n cap) f s)(m:v.ownBlock≠some g)(u:Value):OE (ό w g j u) base v c l:=
 h.same (by simp[World.setCell]) (λb y t p a=>CB _ _ _ _ (λe=>by
  dsimp only at e;rcases a with⟨r,_⟩|a
  ·exact m (by rw[<-e];exact r)
  ·subst a;exact tyAt_apart (Az q.own (show(Value.slice (ϋ g) n cap).ownBlock=some b by rw[e];rfl)) ⟨_,_,p⟩ Ϥ rfl))
def hd0:Hdr:=(none,0,0)
structure OP(w:World)(base:Nat)(hs:List Hdr)(ess:List (List EM))(ls:List (List Ent)):Prop where
 low:base<=w.heap.size
 l1:ϲ ess=ϲ hs
 l2:ϲ ls=ϲ hs
 oe:∀k,k<ϲ hs->OE w base (hdV (hs.getD k hd0)) (ess.getD k []) (ls.getD k [])
 two:(hs.map hdV).Pairwise apB
def O5{a b:Value}(h:apB a b):apB b a:=λg c d=>h g d c
def OP.apart{f:List (List EM)}{q:List (List Ent)}(h:OP w base hs f q)(l:j<ϲ hs)(m:k<ϲ hs)(p:j≠k):apB (hdV (hs.getD j hd0)) (hdV (hs.getD k hd0)):=by
 have d:=aA.1 h.two;have e:∀i (c:i<ϲ hs),hdV (hs.getD i hd0)=(hs.map hdV)[i]'(by rw[lMp];exact c):=λi c=>by
  rw[aP,gDe,gEe c];rfl
 rw[e j l,e k m];rcases Nat.lt_or_gt_of_ne p with a|a
 ·exact d _ _ _ _ a
 ·exact O5 (d _ _ _ _ a)
def O6{h:Hdr}{m:List EM}{l:List Ent}(q:OE w base (hdV h) m l)(p:0<ϲ l):∃g,h=(some ⟨g,0,none⟩,ϲ m,h.2.2):=by
 obtain⟨a,n,c⟩:=h;rcases q.own.2 with⟨_,s⟩|⟨g,cap,u,r,_⟩
 ·rw[<-q.len,s]at p;exact absurd p (Nat.lt_irrefl _)
 ·unfold hdV at r;injection r with d f y
  dsimp only at d f;subst d f;exact⟨g,rfl⟩
theorem Agq{a:List (List EM)}{c:List (List Ent)}(h:OP w base hs a c)(d:k<ϲ hs)(A:i<ϲ (c.getD k []))(p:(hs.getD k hd0).1=some ⟨g,0,none⟩):
 OP (ό w g (i * 5+4) (.bool true)) base hs (a.set k ((a.getD k []).set i ((a.getD k []).getD i ϰ).meet)) (c.set k ((c.getD k []).set i ((c.getD k []).getD i ϰ).meet)):=by
 have s:=h.oe k d;obtain⟨f,q⟩:=O6 s ϣ;have z:f=g:=by rw[q]at p;cases p;rfl
 subst z;have m:hdV (hs.getD k hd0)=vS (ϋ f) (ϲ (a.getD k [])) (hs.getD k hd0).2.2:=by rw[q];rfl
 have l:=s;rw[m]at l;refine⟨by simpa[World.setCell]using h.low,by rw[bI];exact h.l1,by rw[bI];exact h.l2,λj r=>?_,h.two⟩;by_cases e:k=j
 ·subst e;rw[Et (by rw[h.l1];exact d),Et (by rw[h.l2];exact d),m];exact Agp l A
 ·rw[Fh e,Fh e];refine AeB (h.oe j r) l (λy=>?_) _;have:=h.apart r d (λu=>e u.symm) f y;rw[m]at this;exact this rfl
def OP.below{a:List (List EM)}{d:List (List Ent)}(h:OP w base hs a d)(c:Ϣ w w'):OP w' base hs a d:=
 ⟨B0 h.low c.size,h.l1,h.l2,λk f=>(h.oe k f).below c,h.two⟩
theorem AgU(h:OB w base x b):OP w base ((x.m::x.rs).map (·.1)) ((x.m::x.rs).map (·.2)) (partsB b):=by
 refine⟨h.low,ϥ,by simp[partsB,h.rlen],λk l=>?_,by rw[aR];exact h.two⟩
 cases k with
 |zero=>exact h.mem
 |succ k=>
  have a:k<ϲ x.rs:=by simpa using l
  have m:=h.runs k (by rw[<-h.rlen];exact a);have c:((x.m::x.rs).map (·.1)).getD (k+1) hd0=(x.rs.getD k ϰ).1:=by
   simp[gDe,a]
  have d:((x.m::x.rs).map (·.2)).getD (k+1) []=(x.rs.getD k ϰ).2:=by
   simp[gDe,a]
  have f:(partsB b).getD (k+1) []=b.runs.getD k ϰ:=by
   unfold partsB;rw[cB];rfl
  rw[c,d,f];exact m
def Mt{s:Nat}(h:w.ownsRow base e s v n xs):n<=maxLen:=by
 rcases h.2 with⟨_,a⟩|⟨g,cap,f,_,_,_,c,d,_⟩
 ·rw[a];exact At _
 ·exact B0 c d
def GU{p:Part}{l:List Ent}(h:OE w base (hdV p.1) p.2 l):(p.1.2.1=ϲ p.2/\(ϲ p.2)<=ύ)/\Cn w p.1.1 p.2:=by
 obtain⟨⟨a,n,c⟩,f⟩:=p;have m:n=ϲ f:=by
  obtain⟨q,r,d⟩:=h.form;unfold hdV at d;injection d with _ s _
 subst m;refine⟨⟨rfl,?_⟩,?_⟩
 ·have:=Mt h.own;unfold maxLen at this;dsimp only at this⊢;omega
 ·exact OE.at h
theorem OB.at(h:OB w base x b):bufAt w b x:=by
 have a:∀p∈x.m::x.rs,∃l,OE w base (hdV p.1) p.2 l:=λp a=>by
  rcases E3.1 a with rfl|a
  ·exact⟨_,h.mem⟩
  ·obtain⟨i,_,_,r⟩:=h.run a;exact⟨_,r⟩
 refine⟨λi c=>?_,λp f=>?_,λp f=>?_,?_,h.mem.ers,h.rlen,λi c=>(h.runs i c).ers⟩
 ·rw[lMp]at c;rcases h.hds.2 with⟨_,y⟩|⟨g,cap,u,s,_⟩
  ·omega
  ·injection s with m _ _
   refine⟨g,0,m,?_⟩;have q:=RT h.hds (g:=g) (by rw[m];rfl) i (hdV (x.rs[i]).1) (by rw[L7,gEe c];rfl);rw[Di]at q;rw[gDe,L7,gEe c];exact q
 ·obtain⟨l,d⟩:=a p f;exact(GU d).1
 ·obtain⟨l,d⟩:=a p f;exact(GU d).2
 ·have:=Mt h.hds;unfold maxLen at this;omega
def DV(l:List Ent):Prop:=l.Pairwise ltP
def getD_at{α:Type}{l:List α}{d:α}(h:i<ϲ l):l.getD i d=l[i]:=by
 rw[gDe,gEe h];rfl
def Acb{l:List Ent}(h:(l.map AJ).Nodup)(c:i<ϲ l)(d:j<ϲ l)(m:i≠j):¬Er l[i] l[j]:=λhs=>by
 have e:=M3.2 hs;have f:=aA.1 h;rcases Nat.lt_or_gt_of_ne m with a|a
 ·exact f i j (by simpa using c) (by simpa using d) a (by simpa using e)
 ·exact f j i (by simpa using d) (by simpa using c) a (by simpa using e.symm)
def RL{l:List Ent}(h:Nq l)(p:(l.map AJ).Nodup):DV l:=by
 refine aA.2 λi j f c m=>?_;have d:=h i j m c;rw[getD_at f,getD_at c]at d;rcases ltP_tri l[i] l[j]with a|a|a
 ·exact a
 ·exact absurd a (Acb p f c ϣ)
 ·exact absurd a d
theorem Ko{l:List Ent}(h:∀i,i+1<ϲ l->ltP (l.getD i ϰ) (l.getD (i+1) ϰ)):DV l:=by
 have c:∀d i,i+d+1<ϲ l->ltP (l.getD i ϰ) (l.getD (i+d+1) ϰ):=by
  intro d
  induction d with
  |zero=>exact λi a=>h i a
  |succ d ih=>exact λi a=>CF (ih i ϣ) (h (i+d+1) a)
 refine aA.2 λi j a f m=>?_;have:=c (j - i - 1) i ϣ;rw[show i+(j - i - 1)+1=j by omega,getD_at a,getD_at f]at this;exact this
def O7{l:List Ent}(h:DV l):∀i,i+1<ϲ l->ltP (l.getD i ϰ) (l.getD (i+1) ϰ):=λi a=>by
 rw[getD_at ϣ,getD_at a];exact aA.1 h i (i+1) ϣ a ϣ
def XW{l:List Ent}(h:DV l):Nq l:=λi j d a c=>by
 have:=aA.1 h i j ϣ a d;rw[getD_at (by omega:i<ϲ l),getD_at a]at c;exact EA _ (CF this c)
def MR{l:List Ent}(P:Ent->Bool)(h:DV l):DV (l.filter P):=h.sublist filter_sublist
theorem TC:∀{l m:List Ent},l.Perm m->DV l->DV m->l=m
 |[],m,hp,_,_=>(nil_perm.1 hp).symm
 |a::l,[],hp,_,_=>absurd (perm_nil.1 hp) ϥ
 |a::l,b::m,hp,h1,h2=>by
  have d:=WF.1 h1;have f:=WF.1 h2;have p:a=b:=by
   have ha:a∈b::m:=hp.mem_iff.1 (E0 ..);have q:b∈a::l:=hp.mem_iff.2 (E0 ..);rcases E3.1 ha with h|h
   ·exact h
   ·rcases E3.1 q with c|c
    ·exact c.symm
    ·exact absurd (CF (d.1 b c) (f.1 a h)) (EA _)
  subst p;rw[TC (List.Perm.cons_inv hp) d.2 f.2]
def J7{l m:List Ent}(h:l.Perm m):(l.map AJ).Nodup↔(m.map AJ).Nodup:=(h.map AJ).nodup_iff
def Acd{l m:List Ent}(h:l.Perm m)(p:Plc):hasB l p=hasB m p:=by
 rw[PJ];unfold hasB;simp only[bP]
 constructor
 ·rintro ⟨x,a,e⟩;exact⟨x,h.mem_iff.1 a,e⟩
 ·rintro ⟨x,a,e⟩;exact⟨x,h.mem_iff.2 a,e⟩
def RO{l:List Ent}{p:Plc}(h:hasB l p=false):p ∉ l.map AJ:=λa=>by
 obtain⟨x,c,e⟩:=DS.1 a;unfold hasB at h;have:=cS.1 h x c;simp[e]at this
def E6(b:Buf):Ab b=b.mem++b.runs.flatten:=by unfold Ab partsB;rw[aQ]
theorem Gh(h:okB b):D6 b=0:=by
 have f:A8 b.lim 1 64=true:=(Bg _ _ _).2 h.lim;have l:countB b=true:=by unfold countB;simp only[G3,Sh];exact⟨h.mem,h.all⟩
 have m:FV b=true:=by
  unfold FV;simp only[G3];refine⟨AA.2 λi a=>?_,?_,?_⟩
  ·rw[getD_at a];have d:(partsB b)[i]∈partsB b:=GE a;refine AA.2 λj c=>?_;unfold Gk;simp only[G3,cX,Sh];refine⟨Ge ?_,?_⟩
   ·rw[getD_at c];exact h.fine _ d _ (GE c)
   ·cases j with
    |zero=>exact .inl rfl
    |succ j=>exact .inr (h.rise _ d j c)
  ·unfold Ke;refine AA.2 λi a=>?_;rw[getD_at a];exact DB (h.full _ (GE a))
  ·unfold Cu;exact DB h.once
 unfold D6;rw[f,l,m];rfl
def okB.rises(h:okB b){l:List Ent}(a:l∈partsB b):DV l:=Ko (h.rise l a)
def okB.entry(h:okB b){y:Ent}(hy:y∈Ab b):EK y:=by
 obtain⟨l,a,hy⟩:=Th.1 hy;exact h.fine l a y hy
def RU(h1:1<=b.lim/\b.lim<=64)(c:(ϲ b.mem:Int)<=b.lim)(d:ϲ (Ab b)<=4096)(f:∀y∈Ab b,EK y)(h:∀l∈partsB b,DV l)(m:∀r∈b.runs,0<ϲ r)(p:((Ab b).map AJ).Nodup):okB b:=
 ⟨h1,c,d,λl a y hy=>f y (Th.2 ⟨l,a,hy⟩),λl a=>O7 (h l a),m,p⟩
def TD{d:List Ent}{y:Ent}(c:d.Perm (b.mem++[y])):(Ab (IE b d)).Perm (y::Ab b):=by
 have a:(b.mem++[y]++b.runs.flatten).Perm (y::(b.mem++b.runs.flatten)):=by
  rw[Bx];exact perm_middle
 unfold IE;split
 ·rw[E6,E6];dsimp only;rw[cE,JV];simp only[aQ,eV,Nd];exact(perm_append_comm).trans ((c.append_right _).trans a)
 ·rw[E6,E6];exact(c.append_right _).trans a
theorem Z8{d:List Ent}{y:Ent}(h:okB b)(A:EK y)(q:hasB (Ab b) (AJ y)=false)(H:ϲ (Ab b)≠4096)(m:d.Perm (b.mem++[y]))(u:Nq d):okB (IE b d):=by
 have f:=TD (b:=b) m;have F:((y::Ab b).map AJ).Nodup:=eW.2 ⟨RO q,h.once⟩;have D:(d.map AJ).Nodup:=by
  rw[J7 m];have hs:((b.mem++[y]).map AJ).Perm ((y::b.mem).map AJ):=(perm_append_comm).map _;rw[hs.nodup_iff];refine eW.2 ⟨λE=>RO q ?_,?_⟩
  ·rw[E6,DQ];exact Fk.2 (.inl E)
  ·have:=h.once;rw[E6,DQ]at this;exact(aK.1 this).1
 have s:=RL u D;have B:(IE b d).lim=b.lim:=by unfold IE;split<;>rfl
 refine RU (by rw[B];exact h.lim) ?_ ?_ (λz p=>?_) (λl a=>?_) (λr c=>?_) ?_
 ·have:=h.lim;unfold IE;split
  ·dsimp only[length_nil];omega
  ·dsimp only;omega
 ·rw[f.length_eq,DP];have:=h.all;omega
 ·rcases E3.1 (f.mem_iff.1 p)with rfl|p
  ·exact A
  ·exact h.entry p
 ·unfold IE at a;split at a
  ·rcases E3.1 a with rfl|a
   ·exact eX
   ·rcases Fk.1 a with a|a
    ·exact h.rises (EQ _ a)
    ·have:l=d:=by simpa using a
     rw[this];exact s
  ·rcases E3.1 a with rfl|a
   ·exact s
   ·exact h.rises (EQ _ a)
 ·have G:ϲ d=ϲ b.mem+1:=by rw[m.length_eq];simp
  unfold IE at c;split at c
  ·rcases Fk.1 c with c|c
   ·exact h.full r c
   ·have:r=d:=by simpa using c
    rw[this];omega
  ·exact h.full r c
 ·rw[J7 f];exact F
theorem Q0(P:Ent->Bool):∀l:List (List Ent),(ET P l).flatten=l.flatten.filter P
 |[]=>rfl
 |r::l=>by
  have a:=Q0 P l;unfold ET at a⊢;rw[P3,aQ,eM,<-a];by_cases h:0<ϲ (r.filter P)
  ·rw[filter_cons_of_pos (by simpa using h),aQ]
  ·have:r.filter P=[]:=aL.1 ϣ;rw[filter_cons_of_neg (by simpa using h),this,JV]
def J8(P:Ent->Bool)(b:Buf):Ab (Ei P b)=(Ab b).filter P:=by
 rw[E6,E6,eM];unfold Ei;dsimp only;rw[Q0]
def Kq(P:Ent->Bool)(h:okB b):okB (Ei P b):=by
 have c:=J8 P b;refine RU h.lim ?_ ?_ (λz f=>?_) (λl a=>?_) (λr d=>?_) ?_
 ·have m:=h.mem;have p:ϲ (Ei P b).mem<=ϲ b.mem:=aZ _ _;show(ϲ (Ei P b).mem:Int)<=b.lim;omega
 ·rw[c];exact B0 (aZ _ _) h.all
 ·rw[c]at f;exact h.entry (cF.1 f).1
 ·rcases E3.1 a with rfl|a
  ·exact MR P (h.rises (E0 ..))
  ·obtain⟨a,_⟩:=cF.1 (show l∈ET P b.runs from a);obtain⟨r,d,rfl⟩:=DS.1 a;exact MR P (h.rises (EQ _ d))
 ·obtain⟨_,a⟩:=cF.1 (show r∈ET P b.runs from d);exact Fd a
 ·rw[c];exact h.once.sublist (filter_sublist.map _)
def x0:BX:=⟨none,0,((none,0,0),[]),[]⟩
def notE:Nat->Obj->Prop:=λ_ o=> ∀c f,o≠ .cells c 166 f
def Wp{W:ϟ}{b:Nat}(h:Am W b t)(ht:t≠166):names notE W b:=λo m c f e=>by
 obtain⟨p,q,a⟩:=h;rw[m]at a;rw[e]at a;injection a with d
 injection d with _ l _
 exact ht l.symm
def OP.same{a:List (List EM)}{d:List (List Ent)}(h:OP w base hs a d)(c:w.heap.size<=w'.heap.size)(f:∀g,Am w g 166\/Am w g 119->w'.heap[g]? =w.heap[g]?):OP w' base hs a d:=
 ⟨B0 h.low c,h.l1,h.l2,λk l=>(h.oe k l).other c f,h.two⟩
def ty_row{d:Option Nat}(p:X.grownBy Y d)(q:∀r,d=some r->∃x:Obj,X.heap[r]? =some x/\x.isCells=false)(h:Am X g t):Y.heap[g]? =X.heap[g]? :=
 p.block g (A7 h) (λe=>by
  obtain⟨x,a,l⟩:=q g e.symm;obtain⟨c,f,m⟩:=h;rw[m]at a;cases a;cases l)
def BE{α:Type}{l:List α}{d:α}(h:k<ϲ l):l.drop k=l.getD k d::l.drop (k+1):=by
 rw[cM h,gDe,gEe h];rfl
def set_mid{α β:Type}(f:α->β)(A:List α)(k:Nat)(x y:β)(B:List β)(h:k<=ϲ A):((A.take k).map f++x::B).set k y=(A.take k).map f++y::B:=by
 have a:ϲ ((A.take k).map f)=k:=by rw[lMp,DA];omega
 rw[set_append_right _ _ ϣ,a,cW];rfl
def TE{α β:Type}(f:α->β)(l:List α)(k:Nat)(d:α)(h:k<ϲ l):(l.take (k+1)).map f=(l.take k).map f++[f (l.getD k d)]:=by
 rw[M1 h,DQ,gDe,gEe h];rfl
def set_self{α:Type}{l:List α}{d:α}(h:k<ϲ l):l.set k (l.getD k d)=l:=by
 rw[gDe,gEe h];exact set_getElem_self _
def O8{c:Nat->Obj->Prop}(d:Ϣ X Y):Aw c X Y:=λb o a _ _=>(d.block b (GS.1 a).1).trans a
def AeC{a b:ByteArray}(h:a≠b):¬a.toList=b.toList:=λe=>h (by have:=bytes_beq a b;rw[e]at this;simpa using this.symm)
theorem Mu(e f:EM)(w:ϟ):χ 189 #[e.val,f.val] w (ψ w (vI (Fw e.ent f.ent))):=by
 obtain⟨R,z⟩:=nM (Fw e.ent f.ent);have a:ϡ (AY [Lib.compareBytes (bl e.key) (bl f.key),CN e.time f.time,CN e.seq f.seq]=R):=by
  show _=_;rw[<-z];exact Ki e.ent f.ent
 rw[z];clear z;obtain⟨d,h,s,⟨M,N,O⟩,G⟩:=e;obtain⟨m,l,u,⟨J,K,L⟩,H⟩:=f;unfold EM.val hdV;dsimp only at a⊢;by_cases A:d=m
 ·subst A;have y:Lib.compareBytes (bl d) (bl d)=0:=by rw[Nr];simp
  rw[y]at a;by_cases q:CN h l=0
  ·have c:ϡ (CN s u=R):=by
    show _=_;rw[<-a.o,q];unfold AY;by_cases E:CN s u=0<;>simp[AY,E]
   clear a y;have D:ϡ (∀r,CT 193 #[vI h,vI l] r λe w'=>e= .returned (vI 0)/\w'=r):=λr=>by have:=Gi h l r;rwa[q]at this
   go_enter func189,ntmps189;go_wp2_with (go_at_call 193;first|(refine(D.o _).mono ?_;rintro e w' ⟨rfl,rfl⟩)|(refine(Gi s u _).mono ?_;rintro e w' ⟨rfl,rfl⟩));go_ret;refine⟨Ad c.o,?_⟩
   repeat (first|exact bR|apply KD|(refine DH ?_ Ϫ _))
  ·have c:ϡ (CN h l=R):=by
    show _=_;rw[<-a.o];simp[AY,q]
   clear a y;have I:(CN h l !=0)=true:=by simpa using q
   go_enter func189,ntmps189;go_wp2_with (go_at_call 193;refine(Gi h l _).mono ?_;rintro e w' ⟨rfl,rfl⟩);go_ret;refine⟨Ad c.o,?_⟩
   repeat (first|exact bR|apply KD|(refine DH ?_ Ϫ _))
 ·have B:=AeC A;have P:(d.toList==m.toList)=false:=by simpa using B
  clear B;by_cases p:bl d<bl m
  ·have c:ϡ ((-1:Int)=R):=by
    show _=_;rw[<-a.o,Nr,AE p];rfl
   clear a;have F:Op.bytesLess d.toList m.toList=true:=by rw[aF,aF,GM];exact DB p
   go_enter func189,ntmps189;go_wp2;go_ret;refine⟨Ad c.o,?_⟩
   repeat (first|exact bR|apply KD|(refine DH ?_ Ϫ _))
  ·have c:ϡ ((1:Int)=R):=by
    show _=_;rw[<-a.o,Nr,AC p,AC (λe=>A (Vp e))];rfl
   clear a;have F:Op.bytesLess d.toList m.toList=false:=by rw[aF,aF,GM];exact BP p
   go_enter func189,ntmps189;go_wp2;go_ret;refine⟨Ad c.o,?_⟩
   repeat (first|exact bR|apply KD|(refine DH ?_ Ϫ _))
attribute [local go_sem] Oper.semAt_some
variable {w : ϟ} {b : Buf} {x x' : BX}
theorem TF(a S:Ϡ)(c c':Nat)(m p:List EM)(l:List Ent)(w:ϟ)(ha:Cn w a m)(hr:ERs w m l)(aa:Cn w S p)(ab:ERs w p l)(hl:ϲ l<=ύ)(ac:∀y∈l,ϲ y.row<=ύ):
 χ 151 #[vS a (ϲ l) c,vS S (ϲ l) c'] w (ψ w (.bool true)):=by
 have HA:=hV0 ha;have ae:=hV0 aa;have Q:=hV0 hr;have R:=hV0 ab;have af:=hV0 ac;obtain⟨n,P⟩:∃n,ϲ l=n:=⟨_,rfl⟩;have s:=hV0 P;rw[P]at hl⊢;clear P ha aa hr ab ac;go_enter func151,ntmps151;go_wp2
 go_loopw [5] (λi wr=> ∃k:Nat,k<=n/\i=vI k/\Ϣ w wr) (λi _=>n - (intOf i).toNat)
 case atStart=>exact⟨0,At _,rfl,bR⟩
 case round=>
  obtain⟨k,hk,rfl,D⟩:=hrel;by_cases B:k<n
  ·obtain⟨b1,o1,e1,x1,x2,x3,x4,x5⟩:=HA.o k (by rw[Q.o.1,s.o];exact B);obtain⟨b2,o2,e2,y1,y2,y3,y4,y5⟩:=ae.o k (by rw[R.o.1,s.o];exact B);subst e1 e2;obtain⟨K,L,M,E,N,u1,u2,u3,u4,u5⟩:=AgZ D x1 x2 x3 x4 x5 y1 y2 y3 y4 y5;clear x1 x2 x3 x4 x5 y1 y2 y3 y4 y5;have q:=(Q.o.2 k (by rw[s.o];exact B)).below D;have r:=(R.o.2 k (by rw[s.o];exact B)).below D;have hm:l.getD k ϰ∈l:=Bc (by rw[s.o];exact B);have O:=af.o _ hm;have u:ϡ (∀h,CT 189 #[(m.getD k ϰ).val,(p.getD k ϰ).val] h (ψ h (vI 0))):=λh=>by
    have J:=Mu (m.getD k ϰ) (p.getD k ϰ) h;rwa[K6 q r,Md.2 (Vq _)]at J
   have A:ϡ (∀h,Ϣ wr h->CT 94 #[hdV (m.getD k ϰ).row,hdV (p.getD k ϰ).row] h (ψ h (.bool true))):=λh hb=>by
    have J:=NQ (m.getD k ϰ).row.1 (p.getD k ϰ).row.1 (m.getD k ϰ).row.2.2 (p.getD k ϰ).row.2.2 (l.getD k ϰ).row (l.getD k ϰ).row h (Ac q.row hb) (Ac r.row hb) O O;rw[DB rfl]at J;unfold hdV;rw[q.len,r.len];exact J
   have F:=q.key.trans r.key.symm;have G:=q.time.trans r.time.symm;have H:=q.seq.trans r.seq.symm;have I:=q.met.trans r.met.symm;clear q r hm O;obtain⟨⟨T,Z,V,⟨r1,r2,r3⟩,U⟩,hz⟩:∃z,m.getD k ϰ=z:=⟨_,rfl⟩;obtain⟨⟨fk,ft,fs,⟨q1,q2,q3⟩,fm⟩,ad⟩:∃z,p.getD k ϰ=z:=⟨_,rfl⟩;rw[hz]at K L M E N u A F G H I;rw[ad]at u1 u2 u3 u4 u5 u A F G H I;unfold EM.val hdV at u;unfold hdV at A E u4;dsimp only at K L M E N u1 u2 u3 u4 u5 u A F G H I;subst F G H I;clear hz ad;have i1:=nn0 k;have i2:(k:Int)<(n:Int):=ϣ;have dr:Ϣ wr wr.drew:=bR.drew;go_wp2
   go_region_held3
    (λw'=>Ϟ w' b1 (o1+k * 5) (.string T) (vI Z) (vI V) (vS r1 r2 r3) (.bool U) (ϒ w' b2 (o2+k * 5) (.string T) (vI Z) (vI V) (vS q1 q2 q3) (.bool U)))
    (first|go_keep|exact⟨cLz f K,cLz f L,cLz f M,cLz f E,cLz f N,cLz f u1,cLz f u2,cLz f u3,cLz f u4,cLz f u5⟩|exact⟨cLz d K,cLz d L,cLz d M,cLz d E,cLz d N,cLz d u1,cLz d u2,cLz d u3,cLz d u4,cLz d u5⟩)
    (first
     |(go_at_call 94;refine(A.o _ d).mono ?_;rintro e wq ⟨rfl,ah⟩;have f:=bT d ah)
     |(go_at_call 189;refine(u.o _).mono ?_;rintro e wp ⟨rfl,ag⟩;have d:=dr.trans ag))
   all_goals
    have ai:Ϣ w wq:=bT D f;go_wp2;go_roundw;exact⟨k+1,ϣ,by go_num,ai⟩;simp[intOf];omega
  ·go_wp2;go_ret;exact⟨rfl,D⟩
theorem Z9(h:bufAt w b x)(c:bufAt w b x')(r:∀l∈partsB b,ϲ l<=ύ)(s:∀y∈Ab b,ϲ y.row<=ύ)(i:Nat)(a:i<ϲ b.runs):
 χ 151 #[hdV (x.rs.getD i ϰ).1,hdV (x'.rs.getD i ϰ).1] w (ψ w (.bool true)):=by
 have m:x.rs.getD i ϰ∈x.m::x.rs:=EQ _ (Bc (by rw[h.rlen];exact a));have p:x'.rs.getD i ϰ∈x'.m::x'.rs:=EQ _ (Bc (by rw[c.rlen];exact a));have d:=h.runs i a;have f:=c.runs i a;have q:b.runs.getD i ϰ∈partsB b:=EQ _ (Bc a);have k:=TF (x.rs.getD i ϰ).1.1 (x'.rs.getD i ϰ).1.1 (x.rs.getD i ϰ).1.2.2 (x'.rs.getD i ϰ).1.2.2 _ _ (b.runs.getD i ϰ) w (h.ems _ m) d (c.ems _ p) f (r _ q) (λy hy=>s y (Th.2 ⟨_,q,hy⟩));unfold hdV;rw[(h.len _ m).1,(c.len _ p).1,d.1,f.1];exact k
def Ace(h:bufAt w b x)(a:bufAt w b x')(m:∀l∈partsB b,ϲ l<=ύ)(p:∀y∈Ab b,ϲ y.row<=ύ):
 χ 151 #[hdV x.m.1,hdV x'.m.1] w (ψ w (.bool true)):=by
 have c:x.m∈x.m::x.rs:=E0 ..;have d:x'.m∈x'.m::x'.rs:=E0 ..;have f:b.mem∈partsB b:=E0 ..;have k:=TF x.m.1.1 x'.m.1.1 x.m.1.2.2 x'.m.1.2.2 _ _ b.mem w (h.ems _ c) h.mem (a.ems _ d) a.mem (m _ f) (λy hy=>p y (Th.2 ⟨_,f,hy⟩));unfold hdV;rw[(h.len _ c).1,(a.len _ d).1,h.mem.1,a.mem.1];exact k
theorem TH(b:Buf)(x x':BX)(w:ϟ)(h:bufAt w b x)(r:bufAt w b x')(P:∀l∈partsB b,ϲ l<=ύ)(Q:∀y∈Ab b,ϲ y.row<=ύ):
 χ 93 #[Bh b x,Bh b x'] w (ψ w (.bool true)):=by
 have M:ϡ (∀a,Ϣ w a->CT 151 #[hdV x.m.1,hdV x'.m.1] a (ψ a (.bool true))):=λa c=>Ace (Ao h c) (Ao r c) P Q;have N:ϡ (∀i a,i<ϲ b.runs->Ϣ w a->CT 151 #[hdV (x.rs.getD i ϰ).1,hdV (x'.rs.getD i ϰ).1] a (ψ a (.bool true))):=λi a hi c=>Z9 (Ao h c) (Ao r c) P Q i hi;have H1:ϡ (Gj w x.ra (x.rs.map (·.1))):=h.hds;have H2:ϡ (Gj w x'.ra (x'.rs.map (·.1))):=r.hds;have m:=h.rlen;have u:=r.rlen;have ac:=h.few;clear h r P Q;obtain⟨K,A,⟨⟨R,S,T⟩,ml⟩,D⟩:=x;obtain⟨L,B,⟨⟨U,V,Z⟩,ql⟩,E⟩:=x';obtain⟨p,al,ag⟩:=b;unfold Bh hdV;unfold hdV at M;dsimp only at M N H1 H2 m u ac⊢;obtain⟨n,I⟩:∃n,ϲ ag=n:=⟨_,rfl⟩;have f:ϡ (ϲ D=n/\(ϲ E)=n):=⟨by rw[m,I],by rw[u,I]⟩;rw[I]at N m u;rw[m]at ac;rw[m,u];clear I m u;have O:Ϣ w (ϊ (ϊ w (τ p R S T K n A) 36) (τ p U V Z L n B) 36):=by
  repeat (first|exact bR|(refine DH ?_ Ϫ _))
 have k1:Δ (ϊ (ϊ w (τ p R S T K n A) 36) (τ p U V Z L n B) 36) w 2 (vS K n A):=ϧ;have k2:Δ (ϊ (ϊ w (τ p R S T K n A) 36) (τ p U V Z L n B) 36) (w+1) 2 (vS L n B):=ϧ;go_enter func93,ntmps93;go_wp2_with fail;refine(M.o _ O).mono ?_;rintro e a ⟨rfl,G⟩;have c1:=cLz G k1;have c2:=cLz G k2;have aj:w.heap.size<a.heap.size:=bLt _ _ c1;have ak:w.heap.size+1<a.heap.size:=bLt _ _ c2;have af:Ϣ w a:=bT O G;clear k1 k2 O G;go_wp2
 go_loopw [5] (λi wr=> ∃k:Nat,k<=n/\i=vI k/\Ϣ a wr) (λi _=>n - (intOf i).toNat)
 case atStart=>exact⟨0,At _,rfl,bR⟩
 case round=>
  obtain⟨k,hk,rfl,J⟩:=hrel;have d1:=cLz J c1;have d2:=cLz J c2;have H:=bT af J;have ah:w.heap.size<wr.heap.size:=bLt _ _ d1;have ai:w.heap.size+1<wr.heap.size:=bLt _ _ d2;by_cases d:k<n
  ·obtain⟨b1,o1,e1,x1⟩:=H1.o k (by rw[lMp,f.o.1];exact d);obtain⟨b2,o2,e2,y1⟩:=H2.o k (by rw[lMp,f.o.2];exact d);subst e1 e2;have F:=cLz H x1;have u1:=cLz H y1;have aa:(D.map (·.1)).getD k (none,0,0)=(D.getD k ϰ).1:=by rw[gDe,L7,gEe (by rw[f.o.1];exact d),gDe,gEe (by rw[f.o.1];exact d)];rfl
   have ab:(E.map (·.1)).getD k (none,0,0)=(E.getD k ϰ).1:=by rw[gDe,L7,gEe (by rw[f.o.2];exact d),gDe,gEe (by rw[f.o.2];exact d)];rfl
   rw[aa]at F;rw[ab]at u1;have q:ϡ (∀a,Ϣ w a->CT 151 #[hdV (D.getD k ϰ).1,hdV (E.getD k ϰ).1] a (ψ a (.bool true))):=λa c=>N.o k a d c;obtain⟨⟨⟨s1,s2,s3⟩,sl⟩,hz⟩:∃z,D.getD k ϰ=z:=⟨_,rfl⟩;obtain⟨⟨⟨t1,t2,t3⟩,tl⟩,ad⟩:∃z,E.getD k ϰ=z:=⟨_,rfl⟩;rw[hz]at F q;rw[ad]at u1 q;unfold hdV at F u1 q;dsimp only at F u1 q;have i1:=nn0 k;have i2:(k:Int)<(n:Int):=ϣ;clear hz ad aa ab x1 y1;go_wp2
   go_region_held3 (λw'=>Δ w' w 2 (vS (some ⟨b1,o1,none⟩) n A)/\Δ w' (w+1) 2 (vS (some ⟨b2,o2,none⟩) n B)/\Δ w' b1 (o1+k) (vS s1 s2 s3)/\Δ w' b2 (o2+k) (vS t1 t2 t3)) (first|go_keep|exact⟨cLz s d1,cLz s d2,cLz s F,cLz s u1⟩)
    (first|(go_at_call 151;refine(q.o _ H.drew).mono ?_;rintro e wq ⟨rfl,ae⟩;have s:Ϣ wr wq:=bR.drew.trans ae))
   all_goals
    go_wp2;go_roundw;exact⟨k+1,ϣ,by go_num,bT J s⟩;simp[intOf];omega
  ·go_wp2;go_ret;exact⟨rfl,H⟩
theorem ZA(e:EM)(x:Ent)(w:ϟ)(h:ER w e x)(hw:wfE x)(N:x.key.size<=140737488355328):
 χ 188 #[e.val] w (ψ w (.bool (Du x))):=by
 obtain⟨c,s,r,⟨U,b1,V⟩,G⟩:=e;obtain⟨Z,h2,h3,h4,h5,J⟩:=h;obtain⟨xk,xt,xs,u,xm⟩:=x;obtain⟨a,P,Q⟩:=hw;dsimp only at Z h2 h3 h4 h5 J a P Q N;subst Z h2 h3 h4 h5;obtain⟨R,E⟩:=nM (Du ⟨c,s,r,u,G⟩);have ab:ϡ (EK ⟨c,s,r,u,G⟩->true=R):=λh=>by rw[<-E,Ge h]
 have y:ϡ (¬EK ⟨c,s,r,u,G⟩->false=R):=λh=>by rw[<-E,NO h]
 have B:=hIz (λ(a:ϟ) (A:Ϣ w a)=>Cq U V u a (vl.Ac J A) P Q);have m:=hIz (λ(a:ϟ)=>tm.B7 s a);rw[E];obtain⟨ke,M⟩:=nM (Aq u);rw[M]at B;have S:=hV0 M;obtain⟨n,O⟩:=nM (ϲ u);rw[O]at B;unfold EM.val hdV;dsimp only;rw[O];clear E M O J P Q a;have q:Ϣ w (ϊ w (φ c s r U n V G) 166):=Ϯ
 cases hf:tm.Br s with
 |false=>
  have d:ϡ (false=R):=y.o (λh=>by have:=h.2.2.1;rw[hf]at this;cases this);rw[hf]at m;go_enter func188,ntmps188;go_wp2_with (go_at_call 148;refine(m.o _).mono ?_;rintro e w' ⟨rfl,f⟩;subst f);go_ret;exact⟨Aa d.o,q⟩
 |true=>
  rw[hf]at m;by_cases s0:r<0
  ·have d:ϡ (false=R):=y.o (λh=>by have:=h.2.2.2.1;dsimp only at this;omega);go_enter func188,ntmps188;go_wp2_with (go_at_call 148;refine(m.o _).mono ?_;rintro e w' ⟨rfl,f⟩;subst f);go_ret;exact⟨Aa d.o,q⟩
  ·by_cases s2:r>1099511627776
   ·have d:ϡ (false=R):=y.o (λh=>by have:=h.2.2.2.2;dsimp only at this;omega);go_enter func188,ntmps188;go_wp2_with (go_at_call 148;refine(m.o _).mono ?_;rintro e w' ⟨rfl,f⟩;subst f);go_ret;exact⟨Aa d.o,q⟩
   ·by_cases I:ke=0
    ·subst I;obtain⟨l,z⟩:∃l:Bool,(l=true↔isKey c):=by
      rcases Classical.em (isKey c)with h|h
      ·exact⟨true,by simp[h]⟩
      ·exact⟨false,by simp[h]⟩
     have T:ϡ (∀a,CT 91 #[.string c] a λe w'=>(∃D aa cap,e= .returned (.tuple #[vS D aa cap,.bool l]))/\Ϣ a w'):=λa=>by
      cases hI:l with
      |true=>
       obtain⟨r0,ag,ae⟩:=z.1 hI;exact(QP c r0 a N ag ae).mono (λe w' ⟨⟨D,cap,L,_⟩,A⟩=>⟨⟨D,_,cap,L⟩,A⟩)
      |false=>
       have af:¬isKey c:=λh=>by have:=z.2 h;rw[hI]at this;cases this
       exact(UD c a N (Abf af)).mono (λe w' ⟨L,A⟩=>⟨⟨_,_,_,L⟩,A⟩)
     have d:ϡ (l=R):=by
      show l=R
      cases hI:l with
      |true=>exact ab.o ⟨z.1 hI,S.o,hf,ϩ,ϩ⟩
      |false=>exact y.o (λh=>by have:=z.2 h.1;rw[hI]at this;cases this)
     clear z;go_enter func188,ntmps188;go_wp2_with
      (first
       |(go_at_call 148;refine(m.o _).mono ?_;rintro e w' ⟨rfl,f⟩;subst f)
       |(go_at_call 119;refine(B.o _ q).mono ?_;rintro e H ⟨rfl,F⟩;have K:Ϣ w H:=bT q F;have c0:Δ H w 0 (.string c):=(by rw[F.cell (p:=⟨w.heap.size,0,none⟩) ϥ];go_simp))
       |(go_at_call 91;refine(T.o _).mono ?_;rintro e wb ⟨⟨D,aa,cap,rfl⟩,ac⟩))
     go_ret;exact⟨Aa d.o,bT K ac⟩
    ·have ah:(ke !=0)=true:=by simpa using I
     have d:ϡ (false=R):=y.o (λh=>I (by rw[<-S.o];exact h.2.1));have T:ϡ True:=trivial;go_enter func188,ntmps188;go_wp2_with (first
      |(go_at_call 148;refine(m.o _).mono ?_;rintro e w' ⟨rfl,f⟩;subst f)
      |(go_at_call 119;refine(B.o _ q).mono ?_;rintro e H ⟨rfl,F⟩;have K:Ϣ w H:=bT q F))
     go_ret;exact⟨Aa d.o,K⟩
def upB(l:List Ent):Bool:=allB (ϲ l - 1) λi=>decide (ltP (l.getD i ϰ) (l.getD (i+1) ϰ))
def Nx{l:List Ent}:upB l=true↔DV l:=by
 unfold upB;rw[AA]
 constructor
 ·exact λh=>Ko λi a=>Fd (h i ϣ)
 ·exact λh i a=>DB (O7 h i ϣ)
def O9(x:Int):IntKind.i64.wrap x=(x+9223372036854775808) % 18446744073709551616 - 9223372036854775808:=by
 simp only[IntKind.wrap,IntKind.signed,IntKind.bits];simp;split<;>omega
theorem Q1(a:Ϡ)(c:Nat)(p:List EM)(l:List Ent)(w:ϟ)(ha:Cn w a p)(hr:ERs w p l)(hl:ϲ l<=1000000):
 χ 186 #[vS a (ϲ l) c] w (ψ w (.bool (upB l))):=by
 have P:=hV0 ha;have u:=hV0 hr;obtain⟨R,y⟩:=nM (upB l);have T:ϡ (∀k,k+1<ϲ l->¬ltP (l.getD k ϰ) (l.getD (k+1) ϰ)->false=R):=λk hk h=>by
  rw[<-y];unfold upB;exact(CK ϣ (BP h)).symm
 have U:ϡ ((∀k,k+1<ϲ l->ltP (l.getD k ϰ) (l.getD (k+1) ϰ))->true=R):=λh=>by
  rw[<-y];exact(Nx.2 (Ko h)).symm
 rw[y];obtain⟨n,N⟩:∃n,ϲ l=n:=⟨_,rfl⟩;have s:=hV0 N;rw[N]at hl T U⊢;clear N ha hr y;go_enter func186,ntmps186;go_wp2
 go_loopw [3] (λi wr=> ∃k:Nat,(k=0\/k+1<=n)/\i=vI ((k:Int)+1)/\Ϣ w wr/\∀j,j<k->ltP (l.getD j ϰ) (l.getD (j+1) ϰ)) (λi _=>n - (intOf i).toNat)
 case atStart=>exact⟨0,.inl rfl,rfl,bR,λj A=>absurd A (CA j)⟩
 case round=>
  obtain⟨k,hk,rfl,B,ab⟩:=hrel;have Q:=hV0 ab;clear ab;by_cases M:k+1<n
  ·obtain⟨f,m,V,x1,x2,x3,x4,x5⟩:=P.o k (by rw[u.o.1,s.o];omega);obtain⟨b2,o2,Z,y1,y2,y3,y4,y5⟩:=P.o (k+1) (by rw[u.o.1,s.o];exact M);rw[V]at Z
   cases Z
   subst V;obtain⟨E,F,G,r,H,u1,u2,u3,u4,u5⟩:=AgZ B x1 x2 x3 x4 x5 y1 y2 y3 y4 y5;clear x1 x2 x3 x4 x5 y1 y2 y3 y4 y5;have h1:=u.o.2 k (by rw[s.o];omega);have h2:=u.o.2 (k+1) (by rw[s.o];exact M);have q:ϡ (∀D,CT 189 #[(p.getD k ϰ).val,(p.getD (k+1) ϰ).val] D (ψ D (vI (Fw (l.getD k ϰ) (l.getD (k+1) ϰ))))):=λD=>by
    have k0:=Mu (p.getD k ϰ) (p.getD (k+1) ϰ) D;rwa[K6 h1 h2]at k0
   obtain⟨J,L⟩:=nM (Fw (l.getD k ϰ) (l.getD (k+1) ϰ));have S:=hV0 L;rw[L]at q;obtain⟨⟨ek,et,aa,⟨r1,r2,r3⟩,em⟩,hz⟩:∃z,p.getD k ϰ=z:=⟨_,rfl⟩;obtain⟨⟨fk,ft,fs,⟨q1,q2,q3⟩,fm⟩,ac⟩:∃z,p.getD (k+1) ϰ=z:=⟨_,rfl⟩;rw[hz]at E F G r H q;rw[ac]at u1 u2 u3 u4 u5 q;unfold EM.val hdV at q;unfold hdV at r u4;dsimp only at E F G r H u1 u2 u3 u4 u5 q;clear hz ac L h1 h2;have i1:=nn0 k;have i2:(k:Int)<(n:Int):=ϣ;have i3:(0:Int)<=(k:Int)+1:=ϣ;have i4:(k:Int)+1<(n:Int):=ϣ;have af:IntKind.i64.wrap ((k:Int)+1 - 1)=(k:Int):=by rw[O9];omega
   have ah:(k:Int)+1 - 1=(k:Int):=ϣ;have ai:IntKind.i64.wrap (k:Int)=(k:Int):=by rw[O9];omega
   have aj:IntKind.i64.wrap ((k:Int)+1)=(k:Int)+1:=by rw[O9];omega
   have ag:((k:Int)+1).toNat=k+1:=ϣ;by_cases v1:J<0
   ·have ae:¬J≥0:=ϣ;have ad:ϡ (ltP (l.getD k ϰ) (l.getD (k+1) ϰ)):=Ho.1 (by rw[S.o];exact v1);go_wp2
    go_region_held3
     (λw'=>Δ w' f (m+k * 5) (.string ek)/\Δ w' f (m+k * 5+1) (vI et)/\Δ w' f (m+k * 5+1+1) (vI aa)/\Δ w' f (m+k * 5+1+1+1) (vS r1 r2 r3)/\Δ w' f (m+k * 5+1+1+1+1) (.bool em)/\Δ w' f (m+(k+1) * 5) (.string fk)/\Δ w' f (m+(k+1) * 5+1) (vI ft)/\Δ w' f (m+(k+1) * 5+1+1) (vI fs)/\Δ w' f (m+(k+1) * 5+1+1+1) (vS q1 q2 q3)/\Δ w' f (m+(k+1) * 5+1+1+1+1) (.bool fm))
     (first|go_keep|exact⟨cLz d E,cLz d F,cLz d G,cLz d r,cLz d H,cLz d u1,cLz d u2,cLz d u3,cLz d u4,cLz d u5⟩)
     (first|(go_at_call 189;refine(q.o _).mono ?_;rintro e O ⟨rfl,K⟩;have d:Ϣ wr O:=bR.drew.trans K))
    all_goals
     go_wp2;go_roundw;exact⟨k+1,.inr ϣ,by go_num,bT B d,λj A=>by
      rcases Fm.1 A with h|h
      ·exact Q.o j h
      ·rw[h];exact ad.o⟩
     simp[intOf];omega
   ·have ae:J≥0:=ϣ;have I:ϡ (false=R):=T.o k M (λh=>v1 (by rw[<-S.o];exact Ho.2 h));go_wp2
    go_region_held3
     (λw'=>Δ w' f (m+k * 5) (.string ek)/\Δ w' f (m+k * 5+1) (vI et)/\Δ w' f (m+k * 5+1+1) (vI aa)/\Δ w' f (m+k * 5+1+1+1) (vS r1 r2 r3)/\Δ w' f (m+k * 5+1+1+1+1) (.bool em)/\Δ w' f (m+(k+1) * 5) (.string fk)/\Δ w' f (m+(k+1) * 5+1) (vI ft)/\Δ w' f (m+(k+1) * 5+1+1) (vI fs)/\Δ w' f (m+(k+1) * 5+1+1+1) (vS q1 q2 q3)/\Δ w' f (m+(k+1) * 5+1+1+1+1) (.bool fm))
     (first|go_keep|exact⟨cLz d E,cLz d F,cLz d G,cLz d r,cLz d H,cLz d u1,cLz d u2,cLz d u3,cLz d u4,cLz d u5⟩)
     (first|(go_at_call 189;refine(q.o _).mono ?_;rintro e O ⟨rfl,K⟩;have d:Ϣ wr O:=bR.drew.trans K))
    all_goals
     go_wp2;go_ret;exact⟨Aa I.o,bT B d⟩
  ·have I:ϡ (true=R):=U.o (λj A=>Q.o j ϣ);have i5:¬(k:Int)+1<(n:Int):=ϣ;go_wp2;go_ret;exact⟨Aa I.o,B⟩
end bf
