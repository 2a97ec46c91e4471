import Derived.Test.YtfkihidbnfkbaaaGreatDoorPv15
import Derived.Test.YtfkihidbnfkbaaaGreatDoorPv12
import Derived.Shelf.GgSortFunc.InsertionK
set_option linter.all false
set_option maxHeartbeats 8000000
set_option maxRecDepth 100000
open Go.ChangeShapes Go.WideShapes Go.ChangeAt Go.RowKit Go.Sort Go.Shelf Go.Maps Go.WideMaps List
open Inhabited renaming default->ϰ
open List renaming length->ϲ
namespace Go.Proofs.YtfkihidbnfkbaaaGreatDoor
open Go.Proofs.Tryz
namespace bf
open vl
attribute [local go_sem] Oper.semAt_some
variable {l : List Ent} {W w w2 : ϟ} {B C N base base' : Nat} {v : Value} {es : List EM} {hh : Hdr} {lim : Int} {x : BX} {b : Buf}
def ET(P:Ent->Bool)(l:List (List Ent)):List (List Ent):=(l.map (·.filter P)).filter λr=>decide (0<ϲ r)
def Ei(P:Ent->Bool)(b:Buf):Buf:=⟨b.lim,b.mem.filter P,ET P b.runs⟩
def VL{P:Ent->Bool}{l:List (List Ent)}{k:Nat}(h:k<ϲ l):ET P (l.take (k+1))=ET P (l.take k)++(if 0<ϲ ((l.getD k ϰ).filter P) then [(l.getD k ϰ).filter P]else []):=by
 unfold ET;rw[M1 h,DQ,eM];have e:l.getD k ϰ=l[k]:=by rw[gDe,gEe h];rfl
 rw[e]
 congr 1
 simp only[P3,map_nil,filter_cons,filter_nil,Sh]
def Bc{α:Type}{l:List α}{d:α}{j:Nat}(h:j<ϲ l):l.getD j d∈l:=by
 rw[gDe,gEe h];exact GE h
def AfE:(Tryz.prog.info? 33).map (λi=>(i.zero,i.size,i.bytes))=some (some (vS none 0 0),1,24):=Ϧ
structure nbAt(W:World)(B:Nat):Prop where
 n0:Δ W B 0 (vI 0)
 n1:Δ W B 1 (vS none 0 0)
 n2:Δ W B 2 (vS none 0 0)
 o0:Ξ W B 0
 o1:Ξ W B 1
 o2:Ξ W B 2
 ty:Am W B 36
def Lc(W:ϟ):nbAt (ϊ W #[Ϗ,ώ,ώ] 36) W.heap.size:=⟨ϧ,ϧ,ϧ,ϧ,ϧ,ϧ,⟨_,_,DE W _⟩⟩
def Nt(h:nbAt W B):nbAt W.drew B:=⟨h.n0,h.n1,h.n2,h.o0,h.o1,h.o2,h.ty⟩
def C4{W':ϟ}(c:Ϣ W W')(h:nbAt W B):nbAt W' B:=by
 have e:=A7 h.ty;exact⟨cLz c h.n0,cLz c h.n1,cLz c h.n2,(c.frozen (p:=⟨B,0,none⟩) e).trans h.o0,(c.frozen (p:=⟨B,1,none⟩) e).trans h.o1,(c.frozen (p:=⟨B,2,none⟩) e).trans h.o2,Ak h.ty c⟩
def Oh(h:OE w base v es l)(e:Am w N 36)(k:Nat)(u:Value):OE (ό w N k u) base v es l:=
 h.other (by simp[World.setCell]) (λg c=>CB _ _ _ _ (by
  rcases c with c|c
  ·exact tyAt_apart c e Ϥ
  ·exact tyAt_apart c e Ϥ))
def Es(h:OE w base (hdV hh) es l):OB w base ⟨none,0,(hh,es),[]⟩ ⟨lim,l,[]⟩:=
 ⟨h.low,h,KX _ _ _ _,rfl,λi c=>absurd c (CA i),eQ _ _⟩
def AfZ(nb:nbAt w2 C)(h:OE w2 base' (hdV hh) es l)(i:base<=base')(f:base<=C):
 KSt (ϊ w2 #[vI lim,hdV hh,ώ] 36) C w2.heap.size base ⟨none,0,(hh,es),[]⟩ ⟨lim,l,[]⟩:=by
 have e:Ϣ w2 (ϊ w2 #[vI lim,hdV hh,ώ] 36):=Ϯ;have c:=C4 e nb;have j:=A7 nb.ty;refine⟨Es ((h.mono i).below e),?_,?_,?_,?_,⟨_,_,DE _ _⟩,c.n0,c.n1,c.n2,c.o0,c.o1,c.o2,c.ty,j,f⟩
 ·unfold hdV;go_simp
 ·unfold hdV;go_simp
 ·unfold hdV;go_simp
 ·unfold hdV;go_simp
theorem Aga(nb:nbAt w2 C)(nn:nbAt w2 N)(h:OE w2 base' (hdV hh) es l)(t:base<=base')(q:base<=C)(r:C<N):
 KSt (ό (ό (ό w2 N 0 (vI lim)) N 1 (hdV hh)) N 2 (vS none 0 0)) C N base ⟨none,0,(hh,es),[]⟩ ⟨lim,l,[]⟩:=by
 obtain⟨D,E,F,G,H,I,e⟩:=nn;obtain⟨u,y,z,j,k,m,A⟩:=nb;have c:(((w2.setCell ⟨N,0,none⟩ (vI lim)).setCell ⟨N,1,none⟩ (hdV hh)).setCell ⟨N,2,none⟩ (vS none 0 0)).heap[C]? =w2.heap[C]? :=by
  rw[CB _ _ _ _ ϩ,CB _ _ _ _ ϩ,CB _ _ _ _ ϩ]
 have f:=tyAt_set e ⟨N,0,none⟩ (vI lim);have i:=tyAt_set f ⟨N,1,none⟩ (hdV hh);refine⟨Es (Oh (Oh (Oh (h.mono t) e _ _) f _ _) i _ _),?_,?_,?_,?_,tyAt_set i _ _,?_,?_,?_,?_,?_,?_,A1 A c,r,q⟩
 ·go_simp
 ·go_simp
 ·go_simp
 ·go_simp
 ·exact(cOb (a:=⟨C,0,none⟩) c).trans u
 ·exact(cOb (a:=⟨C,1,none⟩) c).trans y
 ·exact(cOb (a:=⟨C,2,none⟩) c).trans z
 ·exact(AZ (p:=⟨C,0,none⟩) c).trans j
 ·exact(AZ (p:=⟨C,1,none⟩) c).trans k
 ·exact(AZ (p:=⟨C,2,none⟩) c).trans m
def Aec{j i:ϟ}{c:Nat}{o:Obj}(h:KSt W C c base x b)(m:Ϣ W j)(q:(j.alloc o).grownBy i (Value.slice x.ra (ϲ x.rs) x.rc).ownBlock):
 Δ i c 2 (vS x.ra (ϲ x.rs) x.rc)/\Ξ i c 2:=by
 have f:=h.below m;have r:=A7 f.ty;have k:i.heap[c]? =j.heap[c]? :=by
  rw[q.block c Ϩ (λe=>tyAt_apart f.ty (Az f.ob.hds e.symm) Ϥ rfl)];exact LE _ _ c r
 exact⟨(cOb (a:=⟨c,2,none⟩) k).trans f.c2,(AZ (p:=⟨c,2,none⟩) k).trans f.f2⟩
def Ml(h:OB w base x b)(c:Am w N 36)(k:Nat)(u:Value):OB (ό w N k u) base x b:=
 ⟨by simp[World.setCell];exact h.low,Oh h.mem c k u,A4 h.hds (λg e=>CB _ _ _ _ (tyAt_apart (Az h.hds e) c Ϥ)),h.rlen,λi f=>Oh (h.runs i f) c k u,h.two⟩
def Nu(h:OB w base x b)(c:Am w N 36)(u0 u1 u2:Value):OB (ό (ό (ό w N 0 u0) N 1 u1) N 2 u2) base x b:=
 Ml (Ml (Ml h c _ _) (tyAt_set c _ _) _ _) (tyAt_set (tyAt_set c _ _) _ _) _ _
theorem cell_one_new(w:ϟ)(a:Value)(h:a.oneCell'=true)(t:TypeId):∀j u,[a][j]? =some u->(w.alloc (.cells #[a] t)).cell? ((⟨w,0,none⟩:Addr).add j)=some u:=by
 intro j u c;rw[Di]
 match j,c with
 |0,c=>simp at c;subst c;simp[go_sem]
 |(n+1),c=>simp at c
def Oi{e:TypeId}{s:Nat}{n:Nat}{i:List Value}(h:w.ownsRow base e s v (n+1) i):∃g c,v=vS (ϋ g) (n+1) c:=by
 rcases h.2 with⟨_,f⟩|⟨g,cap,j,rfl,_⟩
 ·exact absurd f ϣ
 ·exact⟨_,_,rfl⟩
def Za(P:Ent->Bool)(l:List (List Ent)):ϲ (ET P l)<=ϲ l:=by
 unfold ET;have:=aZ (λr:List Ent=>decide (0<ϲ r)) (l.map (·.filter P));rwa[lMp]at this
theorem Ld(G:FuncId)(eg:∀aw w,(callFunc G aw).run Tryz.prog w= .ok (.enter G aw) w)(K:Array Value)(P:Ent->Bool)(b:Buf)(x:BX)(w:ϟ)(h:bufAt w b x)(hl:∀l∈partsB b,ϲ l<=100000)(hr:ϲ b.runs<=100000)(a9:∀y∈Ab b,ϲ y.row<=1000000)
 (H:∀e y c,ER c e y->y∈Ab b->Ϣ w c->Calls Tryz.prog G (#[e.val]++K) c (ψ c (.bool (P y)))):
 χ 253 #[Bh b x,.func (.func G) #[] K] w λe w'=>(∃X,e= .returned (Bh (Ei P b) X)/\OB w' w X (Ei P b))/\Ϣ w w':=by
 obtain⟨i0,az,bb,bc,bd⟩:=IR AfE;have HI:ϡ (Tryz.prog.info? 33=some i0/\i0.zero=some (vS none 0 0)/\i0.size=1/\i0.bytes=24):=⟨az,bb,bc,bd⟩;clear az bb bc bd;have ak:ϲ (partsB b)=ϲ (x.m::x.rs):=by simp[partsB,h.rlen]
 have KM:ϡ (∀i c,i<ϲ (x.m::x.rs)->Ϣ w c->CT 281 #[hdV ((x.m::x.rs).getD i ϰ).1,.func (.func G) #[] K] c λe w'=>(∃(hh:Hdr) (D:List EM),e= .returned (hdV hh)/\OE w' c (hdV hh) D (((partsB b).getD i ϰ).filter P))/\Ϣ c w'):=λi c hi R=>by
  have a4:(x.m::x.rs).getD i ϰ∈x.m::x.rs:=by rw[gDe,gEe hi];exact GE hi
  have a6:(partsB b).getD i ϰ∈partsB b:=by
   rw[gDe,gEe (by rw[ak];exact hi)];exact GE (by rw[ak];exact hi)
  have hE:ERs w ((x.m::x.rs).getD i ϰ).2 ((partsB b).getD i ϰ):=by
   cases i with
   |zero=>exact h.mem
   |succ i=>
    have bm:i<ϲ b.runs:=by rw[DP,h.rlen]at hi;omega
    simpa[partsB]using h.runs i bm
  have ao:=h.len _ a4;have a0:∀y∈(partsB b).getD i ϰ,y∈Ab b:=λy hy=>Th.2 ⟨_,a6,hy⟩;obtain⟨⟨⟨z1,z2,z3⟩,zl⟩,hz⟩:∃z,(x.m::x.rs).getD i ϰ=z:=⟨_,rfl⟩;have am:=h.ems _ a4;rw[hz]at hE ao am⊢;unfold hdV;dsimp only at hE ao am⊢;have e2:z2=ϲ ((partsB b).getD i ϰ):=by rw[ao.1,hE.1]
  subst e2;refine(WL G eg K P z1 z3 zl ((partsB b).getD i ϰ) c (hl _ a6) (Ch am R) (hE.below R) (λy hy=>a9 y (a0 y hy)) (λj w2 hj I=>H _ _ w2 (((hE.below R).below I).2 j hj) (a0 _ (Bc hj)) (bT R I))).mono ?_;rintro e w' ⟨⟨v,D,rfl,J⟩,bk⟩;obtain⟨ad,cp,rfl⟩:=J.form;exact⟨⟨(ad,ϲ D,cp),D,rfl,J⟩,bk⟩
 have HB:=hV0 h;have ar:=h.rlen;clear h H hl a9;obtain⟨r,t,⟨⟨f,m,q⟩,ml⟩,O⟩:=x;obtain⟨lim,au,E⟩:=b;unfold Bh;dsimp only at KM HB ar hr⊢;obtain⟨n,hn⟩:∃n,ϲ O=n:=⟨_,rfl⟩;have HN:ϡ (ϲ O=n/\(ϲ E)=n):=⟨hn,by rw[<-ar,hn]⟩;have bq:n<=100000:=ϣ;rw[hn];clear hn ar hr ak;have K0:ϡ (∀c,Ϣ w c->CT 281 #[vS f m q,.func (.func G) #[] K] c λe w'=>(∃(hh:Hdr) (D:List EM),e= .returned (hdV hh)/\OE w' c (hdV hh) D (au.filter P))/\Ϣ c w'):=λc R=>KM.o 0 c ϥ R;have e1:hdV (f,m,q)=vS f m q:=rfl;rw[e1];have V0:Δ (ϊ (ϊ w (τ lim f m q r n t) 36) #[Ϗ,ώ,ώ] 36) w 0 (vI lim):=ϧ;have V1:Δ (ϊ (ϊ w (τ lim f m q r n t) 36) #[Ϗ,ώ,ώ] 36) w 1 (vS f m q):=ϧ;have V2:Δ (ϊ (ϊ w (τ lim f m q r n t) 36) #[Ϗ,ώ,ώ] 36) w 2 (vS r n t):=ϧ;have R0:Δ (ϊ (ϊ w (τ lim f m q r n t) 36) #[Ϗ,ώ,ώ] 36) (w+1) 0 (vI 0):=ϧ;have R1:Δ (ϊ (ϊ w (τ lim f m q r n t) 36) #[Ϗ,ώ,ώ] 36) (w+1) 1 (vS none 0 0):=ϧ;have R2:Δ (ϊ (ϊ w (τ lim f m q r n t) 36) #[Ϗ,ώ,ώ] 36) (w+1) 2 (vS none 0 0):=ϧ;have G0:Ξ (ϊ (ϊ w (τ lim f m q r n t) 36) #[Ϗ,ώ,ώ] 36) (w+1) 0:=ϧ;have G1:Ξ (ϊ (ϊ w (τ lim f m q r n t) 36) #[Ϗ,ώ,ώ] 36) (w+1) 1:=ϧ;have G2:Ξ (ϊ (ϊ w (τ lim f m q r n t) 36) #[Ϗ,ώ,ώ] 36) (w+1) 2:=ϧ;have VT:Am (ϊ (ϊ w (τ lim f m q r n t) 36) #[Ϗ,ώ,ώ] 36) (w.heap.size+1) 36:=⟨_,_,by
  have h:=DE (ϊ w (τ lim f m q r n t) 36) (.cells #[Ϗ,ώ,ώ] 36);rw[D0]at h;exact h⟩
 have F:Ϣ w (ϊ (ϊ w (τ lim f m q r n t) 36) #[Ϗ,ώ,ώ] 36):=by
  repeat (first|exact bR|(refine DH ?_ Ϫ _))
 have V9:((w.alloc (.cells (τ lim f m q r n t) 36)).alloc (.cells #[Ϗ,ώ,ώ] 36)).heap.size=w.heap.size+1+1:=ϥ;have al:nbAt (ϊ (ϊ w (τ lim f m q r n t) 36) #[Ϗ,ώ,ώ] 36) (w.heap.size+1):=⟨R0,R1,R2,G0,G1,G2,VT⟩;clear R0 R1 R2 G0 G1 G2 VT;go_enter func253,ntmps253;go_wp2;generalize ((w.alloc (.cells (τ lim f m q r n t) 36)).alloc (.cells #[Ϗ,ώ,ώ] 36))=V at *;refine wp_mono (Q:=Exit.then (λa' W'=> ∃(Z:Nat) (hh:Hdr) (D:List EM),a'={tmps:=#[.agg #[vI lim,vS f m q,vS r n t],.func (.func G) #[] K,.pointer (some ⟨w,0,none⟩),undef,.pointer (some ⟨w+1,0,none⟩),.pointer (some ⟨Z,0,none⟩),undef,undef,undef,.pointer (some ⟨w,0,none⟩),vI lim,.pointer (some ⟨w,1,none⟩),vS f m q,.func (.func G) #[] K,hdV hh,.agg #[vI lim,hdV hh,vS none 0 0],undef,undef,undef,undef,undef,undef,undef,undef,undef,undef,undef,undef,undef,undef,undef,undef,undef,undef,undef,undef,undef],defers:=[]}/\KSt W' (w.heap.size+1) Z w.heap.size ⟨none,0,(hh,D),[]⟩ ⟨lim,au.filter P,[]⟩/\Δ W' w 2 (vS r n t)/\Ϣ w W') (λ_ _ _=>False)) ?_ ?_
 ·go_region_law (go_simp;go_at_call 281;refine(K0.o _ (by first|exact F.drew|exact(F.alloc F.size _).drew|exact F|exact F.alloc F.size _|exact F.drew.alloc F.size _)).mono ?_;rintro e w2 ⟨⟨⟨h1,h2,h3⟩,D,rfl,J⟩,I⟩;unfold hdV;dsimp only;have k0:Δ w2 w 0 (vI lim):=cLz I ϧ;have k2:Δ w2 w 2 (vS r n t):=cLz I ϧ;have lw:w.heap.size<w2.heap.size:=bLt _ _ k0;first|(obtain⟨n0,n1,n2,o0,o1,o2,n3⟩:=C4 I (Nt (Lc V));rw[V9]at n0 n1 n2 o0 o1 o2 n3)|(obtain⟨n0,n1,n2,o0,o1,o2,n3⟩:=C4 I (Lc V.drew);rw[show V.drew.heap.size=w.heap.size+1+1 from V9]at n0 n1 n2 o0 o1 o2 n3)|skip)
  all_goals first
   | (have av:nbAt w2 (w.heap.size+1):=C4 I (Nt al)
      have ae:Ϣ w w2:=F.drew.trans (I.mono (by have:=F.size;exact this));exact⟨w2.heap.size,(h1,h2,h3),D,rfl,AfZ av J (by have:=F.size;exact this) (PS _),ϧ,ae.alloc ae.size _⟩)
   | (have av:nbAt w2 (w.heap.size+1):=C4 I (Nt (C4 Ϯ al))
      have ax:Ϣ w (V.alloc (.cells #[Ϗ,ώ,ώ] 36)).drew:=(F.alloc F.size _).drew;have ae:Ϣ w w2:=bT ax I;exact⟨w.heap.size+1+1,(h1,h2,h3),D,rfl,Aga av ⟨n0,n1,n2,o0,o1,o2,n3⟩ J ax.size (PS _) (Nat.lt_succ_self _),ϧ,((ae.setCell ϩ _).setCell ϩ _).setCell ϩ _⟩)
 ·intro e a' W' hQ
  cases e with
  |normal=>
   obtain⟨Z,hh,D,rfl,A,bp,bj⟩:=hQ;have KR:ϡ (∀k c,k<n->Ϣ w c->CT 281 #[hdV ((O.map (·.1)).getD k (none,0,0)),.func (.func G) #[] K] c λe w'=>(∃(hh:Hdr) (D:List EM),e= .returned (hdV hh)/\OE w' c (hdV hh) D ((E.getD k ϰ).filter P))/\Ϣ c w'):=λk c hk R=>by
    have an:k<ϲ O:=by rw[HN.o.1];exact hk
    have h:=KM.o (k+1) c (by simpa using an) R;have e1:(O.map (·.1)).getD k (none,0,0)=(O.getD k ϰ).1:=by rw[gDe,L7,gEe an,gDe,gEe an];rfl
    rw[e1];exact h
   have HR:ϡ (Gj w r (O.map (·.1))):=HB.o.hds;have HS:=hV0 A;obtain⟨h1,h2,h3⟩:=hh;unfold hdV;dsimp only;clear KM K0 V0 V1 V2 F V9 al A;go_wp2
   go_loopw [19] (λi wr=> ∃(k:Nat) (X:BX),k<=n/\i=vI k/\KSt wr (w.heap.size+1) Z w.heap.size X ⟨lim,au.filter P,ET P (E.take k)⟩/\Ϣ w wr) (λi _=>n - (intOf i).toNat)
   case atStart=>exact⟨0,_,At _,rfl,HS.o,bj⟩
   case round=>
    obtain⟨k,X,hk,rfl,A,aa⟩:=hrel;have a7:=A.ob.rlen;dsimp only at a7;have a8:ϲ X.rs<=100000:=by
     have h1:=Za P (E.take k);rw[DA]at h1;omega
    have c0:=A.c0;have c1:=A.c1;have c2:=A.c2;have r0:=A.r0;have r1:=A.r1;have r2:=A.r2;have g0:=A.g0;have g1:=A.g1;have g2:=A.g2;have br:=A.ne;obtain⟨ah,ai,⟨⟨a1,a2,a3⟩,bo⟩,aj⟩:=X;have ac:=hV0 A;unfold hdV at c1;dsimp only at c0 c1 c2 a8;obtain⟨rn,af⟩:=nM (ϲ aj);have Y:=hV0 af;rw[af]at c2 a8;have bh:ϡ (wr.ownsRow w 33 1 (vS ah rn ai) rn (aj.map λp=>hdV p.1)):=by
     have h:=A.ob.hds;dsimp only at h;rw[af]at h;exact h
    clear A a7 af;have ba:=aa.size;have lC:w.heap.size+1<wr.heap.size:=bLt _ _ r0;have lN:Z<wr.heap.size:=bLt _ _ c0;by_cases ap:k<n
    ·obtain⟨b,o,e,x1⟩:=HR.o k (by rw[lMp,HN.o.1];exact ap);subst e;have q1:=cLz aa x1;have KQ:ϡ (CT 281 #[hdV ((O.map (·.1)).getD k (none,0,0)),.func (.func G) #[] K] wr λe w'=>(∃(hh:Hdr) (D:List EM),e= .returned (hdV hh)/\OE w' wr (hdV hh) D ((E.getD k ϰ).filter P))/\Ϣ wr w'):=KR.o k wr ap aa;have HF:ϡ (ET P (E.take (k+1))=ET P (E.take k)++(if 0<ϲ ((E.getD k ϰ).filter P) then [(E.getD k ϰ).filter P]else [])):=VL (by rw[HN.o.2];exact ap);obtain⟨⟨z1,z2,z3⟩,hz⟩:∃z,(O.map (·.1)).getD k (none,0,0)=z:=⟨_,rfl⟩;rw[hz]at q1 KQ;unfold hdV at q1;rw[show hdV (z1,z2,z3)=vS z1 z2 z3 from rfl]at KQ;dsimp only at q1;clear hz x1;have i1:=nn0 k;have i2:(k:Int)<(n:Int):=ϣ;obtain⟨L,hL⟩:=nM ((E.getD k ϰ).filter P);rw[hL]at KQ HF;clear hL;go_wp2_with fail;refine KQ.o.mono ?_;rintro e c ⟨⟨⟨y1,y2,y3⟩,bi,rfl,J⟩,T⟩;unfold hdV;dsimp only;have bg:=hV0 J;have ag:y2=ϲ L:=by
      obtain⟨ad,cp,hf⟩:=J.form;unfold hdV at hf;injection hf with _ e2 _
      exact Eq.trans e2 J.len
     clear J;by_cases h0:0<y2
     ·have HE:ϡ (ET P (E.take (k+1))=ET P (E.take k)++[L]):=by show _=_;rw[HF.o,AE (by rw[<-ag];exact h0)]
      clear ag;have d2:=cLz T c2;have bv:Z<c.heap.size:=NE lN T.size;have be:ϡ (c.ownsRow w 33 1 (vS ah rn ai) rn (aj.map λp=>hdV p.1)):=own_below bh.o T;have bu:w.heap.size<=c.heap.size:=B0 ba T.size;go_wp2_with (at_builtin;refine Vc _ rfl (.tmp 30) (.tmp 32) 34 rfl w.heap.size 33 i0 (vS none 0 0) 1 24 underlying34 HI.o.1 HI.o.2.1 HI.o.2.2.1 HI.o.2.2.2 rfl Ϥ _ _ _ rfl (WD be.o _) ⟨c,0,none⟩ 1 1 [vS y1 y2 y3] rfl rfl (cell_one_new _ _ rfl _) (by intro u hu;simp at hu;rcases hu with rfl;rfl) ϭ ϣ Ϩ ?_;intro v3 w3 a5 ay bs;have aq:=Aec ac.o T (by dsimp only;rw[Y.o];exact ay);dsimp only at aq;rw[Y.o]at aq;obtain⟨p2,pf⟩:=aq;obtain⟨g3,c3,bn⟩:=Oi a5;subst bn);have ab:=AcB (g:=g3) (cap2:=c3) (p:=((y1,y2,y3),bi)) (l:=L) ac.o T bg.o (by dsimp only;rw[Y.o];exact a5) (by dsimp only;rw[Y.o];exact ay);unfold BX.more Buf.more at ab;dsimp only at ab;rw[Y.o]at ab;go_roundw;exact⟨k+1,_,ϣ,by go_num,by rw[HE.o];exact ab.1,aa.trans ab.2⟩;simp[intOf];omega
     ·have HE:ϡ (ET P (E.take (k+1))=ET P (E.take k)):=by show _=_;rw[HF.o,AC (by rw[<-ag];exact h0),Nd]
      clear ag;go_wp2;go_roundw;exact⟨k+1,_,ϣ,by go_num,by rw[HE.o];exact ac.o.below T,aa.trans (T.mono ba)⟩;simp[intOf];omega
    ·have HT:ϡ (E.take k=E):=KI (by rw[HN.o.2];omega);go_wp2;refine CD (v:=.agg (τ lim a1 a2 a3 ah rn ai)) (by simp[results,results253,go_sem,r0,r1,r2,c0,c1,c2]) rfl ⟨⟨⟨ah,ai,((a1,a2,a3),bo),aj⟩,?_,?_⟩,?_⟩
     ·unfold Ei hdV;dsimp only;rw[Y.o]
     ·have hh:=ac.o.ob;rw[HT.o]at hh;exact Nu hh ac.o.rt _ _ _
     ·exact((aa.setCell ϩ _).setCell ϩ _).setCell ϩ _
  |_=>exact hQ.elim
def CL(h:OB w base x b)(c:base'<=base):OB w base' x b:=
 ⟨B0 c h.low,h.mem.mono c,D7 h.hds c,h.rlen,λi e=>(h.runs i e).mono c,h.two⟩
def Aed(h:D6 b=0):A8 b.lim 1 64=true/\countB b=true/\FV b=true:=by
 unfold D6 at h;by_cases c:A8 b.lim 1 64=false
 ·rw[AE c]at h;cases h
 ·rw[AC c]at h;by_cases e:countB b=false
  ·rw[AE e]at h;cases h
  ·rw[AC e]at h;by_cases f:FV b=false
   ·rw[AE f]at h;cases h
   ·exact⟨by simpa using c,by simpa using e,by simpa using f⟩
theorem Rx(h:l∈partsB b):ϲ l<=ϲ (Ab b):=by
 unfold Ab;rw[length_flatten];generalize partsB b=p at h
 induction p with
 |nil=>cases h
 |cons x p ih=>
  rw[P3,sum_cons];rcases E3.1 h with rfl|h
  ·omega
  ·have:=ih h;omega
theorem Aee(l:List (List Ent))(h:∀r∈l,0<ϲ r):ϲ l<=ϲ l.flatten:=by
 induction l with
 |nil=>simp
 |cons x l ih=>
  rw[aQ,lAp,DP];have:=h x (E0 ..);have:=ih (λr c=>h r (EQ _ c));omega
structure okB(b:Buf):Prop where
 lim:1<=b.lim/\b.lim<=64
 mem:(ϲ b.mem:Int)<=b.lim
 all:ϲ (Ab b)<=4096
 fine:∀l∈partsB b,∀y∈l,EK y
 rise:∀l∈partsB b,∀i,i+1<ϲ l->ltP (l.getD i ϰ) (l.getD (i+1) ϰ)
 full:∀r∈b.runs,0<ϲ r
 once:((Ab b).map AJ).Nodup
theorem ED(h:D6 b=0):okB b:=by
 obtain⟨z,m,f⟩:=Aed h;unfold countB at m;unfold FV at f;simp only[G3,Sh]at m f;have q:=AA.1 f.1;have u:∀l∈partsB b,∀i,i<ϲ l->Gk l i=true:=λl k i c=>by
  obtain⟨j,t,rfl⟩:=LT k;have:=q j t;have e:(partsB b).getD j ϰ=(partsB b)[j]:=by rw[gDe,gEe t];rfl
  rw[e]at this;exact AA.1 this i c
 refine⟨(Bg _ _ _).1 z,m.1,m.2,λl k y hy=>?_,λl k i c=>?_,λr q=>?_,?_⟩
 ·obtain⟨i,c,rfl⟩:=LT hy;have:=u l k i c;unfold Gk at this;simp only[G3]at this;have h:=Me.1 this.1;rw[gDe,gEe c]at h;exact h
 ·have:=u l k (i+1) c;unfold Gk at this;simp only[G3,cX,Sh]at this;rcases this.2 with h|h
  ·omega
  ·exact h
 ·obtain⟨i,c,rfl⟩:=LT q;have:=AA.1 f.2.1 i c;have e:b.runs.getD i ϰ=b.runs[i]:=by rw[gDe,gEe c];rfl
  rw[e]at this;simpa using this
 ·have:=f.2.2;unfold Cu at this;exact Fd this
def okB.small(h:okB b):(∀l∈partsB b,ϲ l<=100000)/\(ϲ b.runs)<=100000/\∀y∈Ab b,ϲ y.row<=1000000:=by
 have j:=h.all;refine⟨λl f=>by have:=Rx f;omega,?_,λy hy=>?_⟩
 ·have:=Aee b.runs h.full;have e:ϲ (Ab b)=ϲ b.mem+ϲ b.runs.flatten:=by unfold Ab partsB;simp
  omega
 ·obtain⟨l,f,hy⟩:=Th.1 hy;have c:=(h.fine l f y hy).2.1;unfold Aq at c;by_cases i:8<ϲ y.row
  ·rw[AE i]at c;cases c
  ·omega
def Im(e:EM)(w:ϟ):χ 254 #[e.val] w (ψ w (.bool true)):=by
 obtain⟨i,m,k,⟨c,f,h⟩,j⟩:=e;unfold EM.val hdV;dsimp only;go_enter func254,ntmps254;go_wp2;go_ret;refine⟨rfl,?_⟩
 repeat (first|exact bR|(refine DH ?_ Ϫ _))
def Zb(e:EM)(c:Int)(h:Nat)(w:ϟ)(k:Δ w h 0 (vI c)):
 χ 347 #[e.val,ω h] w (ψ w (.bool (decide (c<e.time)))):=by
 obtain⟨t,i,z,⟨m,q,r⟩,y⟩:=e;unfold EM.val hdV;dsimp only;have u:h<w.heap.size:=bLt _ _ k;by_cases j:c<i
 ·have f:ϡ (decide (c<i)=true):=DB j;go_enter func347,ntmps347;go_wp2;go_ret;exact⟨Aa (by rw[f.o]),Ϯ⟩
 ·have f:ϡ (decide (c<i)=false):=BP j;go_enter func347,ntmps347;go_wp2;go_ret;exact⟨Aa (by rw[f.o]),Ϯ⟩
def Fe(to:Int)(y:Ent):Bool:=decide (to<y.time)
theorem Aef(b:Buf)(x:BX)(c:Int)(w:ϟ)(h:bufAt w b x)(hw:∀y∈Ab b,wfE y/\wfP (AJ y))(hs:ϲ (Ab b)<=4611686018427387904)(O:D6 b=0):
 χ 343 #[Bh b x,vI c] w λe w'=>(∃t,e= .returned (.tuple #[Bh (Ei (Fe c) b) t,Ϗ])/\OB w' w t (Ei (Fe c) b))/\Ϣ w w':=by
 have I:ϡ (∀f,Ϣ w f->CT 100 #[Bh b x] f (ψ f (vI 0))):=λf K=>by
  have:=Bb b x f (Ao h K) hw hs;rwa[O]at this
 have E:=(ED O).small;have u:ϡ (∀f,Ϣ w f->Δ f (w+1) 0 (vI c)->CT 253 #[Bh b x,.func (.func 347) #[] #[ω (w+1)]] f λe w'=>(∃t,e= .returned (Bh (Ei (Fe c) b) t)/\OB w' f t (Ei (Fe c) b))/\Ϣ f w'):=λf K hc=>
  Ld 347 (IB func347 Ϧ rfl) #[ω (w+1)] (Fe c) b x f (Ao h K) E.1 E.2.1 E.2.2 (λe y w2 ae _ i=>by
   have:=Zb e c (w.heap.size+1) w2 (cLz i hc);rw[ae.time]at this;exact this)
 clear h hw hs O E;obtain⟨R,Y⟩:=nM (Ei (Fe c) b);rw[Y]at u⊢;clear Y;obtain⟨q,r,⟨⟨j,k,m⟩,ml⟩,T⟩:=x;obtain⟨lim,ag,ai⟩:=b;rw[show Bh ⟨lim,ag,ai⟩ ⟨q,r,((j,k,m),ml),T⟩= .agg #[vI lim,vS j k m,vS q (ϲ T) r]from rfl]at I u⊢;obtain⟨n,Z⟩:∃n,ϲ T=n:=⟨_,rfl⟩;rw[Z]at I u⊢;clear Z;have V:Ϣ w (ϊ (ϊ (ϊ w (τ lim j k m q n r) 36) #[vI c] 3) #[Ϗ,ώ,ώ] 36):=by
  repeat (first|exact bR|(refine DH ?_ Ϫ _))
 have J:=Lc (ϊ (ϊ w (τ lim j k m q n r) 36) #[vI c] 3);rw[D0,D0]at J;have ab:ϡ (nbAt (ϊ (ϊ (ϊ w (τ lim j k m q n r) 36) #[vI c] 3) #[Ϗ,ώ,ώ] 36) (w.heap.size+1+1)):=J;clear J;go_enter func343,ntmps343;go_wp2_with (first
  |(go_at_call 100;refine(I.o _ V).mono ?_;rintro e w2 ⟨rfl,i⟩;have L:Ϣ w w2:=bT V i;have ah:=C4 i ab.o;have k0:Δ w2 w 0 (vI lim):=cLz i ϧ;have k1:Δ w2 w 1 (vS j k m):=cLz i ϧ;have k2:Δ w2 w 2 (vS q n r):=cLz i ϧ;have k3:Δ w2 (w+1) 0 (vI c):=cLz i ϧ)
  |(go_at_call 253;refine(u.o _ L k3).mono ?_;rintro e w3 ⟨⟨⟨F,G,⟨⟨z,A,D⟩,aa⟩,H⟩,rfl,af⟩,X⟩;rw[show Bh R ⟨F,G,((z,A,D),aa),H⟩= .agg #[vI R.lim,vS z A D,vS F (ϲ H) G]from rfl];have ac:ϡ (nbAt w3 (w.heap.size+1+1)):=C4 X ah;obtain⟨n0,n1,n2,o0,o1,o2,n3⟩:=ac.o))
 have ad:Ϣ w w3:=bT L X;refine CD (v:=.tuple #[.agg #[vI R.lim,vS z A D,vS F (ϲ H) G],Ϗ]) (by simp[results,results343,go_sem,n0,n1,n2]) rfl ⟨⟨⟨F,G,((z,A,D),aa),H⟩,rfl,?_⟩,((ad.setCell ϩ _).setCell ϩ _).setCell ϩ _⟩;exact Nu (CL af L.size) n3 _ _ _
end bf
namespace jn
open vl
variable {U U' W W' w w' : ϟ} {B b n o : Nat} {p : pl.Pln} {x : pl.PA}
structure Jn where
 L:bf.Buf
 R:bf.Buf
 lm:Int
 rm:Int
 seq:Int
structure JX where
 l:bf.BX
 r:bf.BX
def joinV(s:Jn)(x:JX):Value:=.agg #[vI s.L.lim,bf.hdV x.l.m.1,vS x.l.ra (ϲ x.l.rs) x.l.rc,vI s.R.lim,bf.hdV x.r.m.1,vS x.r.ra (ϲ x.r.rs) x.r.rc,vI s.lm,vI s.rm,vI s.seq]
structure joinAt(w:World)(s:Jn)(x:JX):Prop where
 l:bf.bufAt w s.L x.l
 r:bf.bufAt w s.R x.r
def joinAt.below{s:Jn}{x:JX}(h:joinAt w s x)(c:Ϣ w w'):joinAt w' s x:=⟨bf.Ao h.l c,bf.Ao h.r c⟩
structure wfB(b:bf.Buf):Prop where
 ents:∀y∈bf.Ab b,bf.wfE y/\bf.wfP (bf.AJ y)
 size:ϲ (bf.Ab b)<=4611686018427387904
structure wfJ(s:Jn):Prop where
 l:wfB s.L
 r:wfB s.R
 seq:pl.i64 s.seq
def Ar(s:Jn)(side:Int):bf.Buf:=if side=2 then s.R else s.L
def BZ(x:JX)(side:Int):bf.BX:=if side=2 then x.r else x.l
def BJ(s:Jn)(side:Int):Int:=if side=2 then s.rm else s.lm
def wfJ.of{s:Jn}(h:wfJ s)(side:Int):wfB (Ar s side):=by
 unfold Ar;split
 ·exact h.r
 ·exact h.l
def joinAt.of{s:Jn}{x:JX}(h:joinAt w s x)(side:Int):bf.bufAt w (Ar s side) (BZ x side):=by
 unfold Ar BZ;split
 ·exact h.r
 ·exact h.l
structure Ev where
 kind:Int
 side:Int
 time:Int
 row:List Cel
def evV(v:Ev)(ra:Option Addr)(rc:Nat):Value:=.agg #[vI v.kind,vI v.side,vI v.time,vS ra (ϲ v.row) rc]
structure evAt(w:World)(v:Ev)(ra:Option Addr):Prop where
 row:vl.rowAt w ra v.row
 wf:B8 v.row
 len:ϲ v.row<=ύ
def evAt.below{v:Ev}{c:Ϡ}(h:evAt w v c)(e:Ϣ w w'):evAt w' v c:=⟨vl.Ac h.row e,h.wf,h.len⟩
def noMark:Int:= -1099511627777
def Dv(m:Int):Bool:=decide (m=noMark)||tm.Br m
def Ez(s:Jn):Bool:=Dv s.lm&&Dv s.rm&&bf.A8 s.seq 0 1099511627776
def F3(n:Int)(l:List bf.Ent):Prop:=(∀y∈l,y.seq<n)/\(l.map (·.seq)).Nodup
instance(n:Int)(l:List bf.Ent):Decidable (F3 n l):=by unfold F3;infer_instance
def JW(s:Jn):Bool:=decide (F3 s.seq (bf.Ab s.L++bf.Ab s.R))
def FZ(p:pl.Pln)(side:Int)(y:bf.Ent):Bool:=decide (pl.Bm p side y.row=0)&&pl.hasB p side y.row&&decide (pl.A0 p side y.row=y.key)
def I9(p:pl.Pln)(side:Int)(b:bf.Buf):Bool:=(bf.Ab b).all (FZ p side)
def Ct(p:pl.Pln)(s:Jn):Bool:=decide (s.L.lim=p.limit)&&decide (s.R.lim=p.limit)&&JW s&&I9 p 1 s.L&&I9 p 2 s.R
noncomputable def AV(p:pl.Pln)(s:Jn):Int:=
 if pl.Ag p≠0 then pl.Ag p else if bf.D6 s.L≠0 then bf.D6 s.L else if bf.D6 s.R≠0 then bf.D6 s.R else if Ez s=false then 3 else if Ct p s=false then 1 else 0
def AN(p:pl.Pln)(s:Jn)(v:Ev):Int:=
 if¬(v.kind=1\/v.kind=2)\/pl.Bw v.side=false then 4 else if tm.Br v.time=false then 3
 else if v.kind=2 then(if 0<ϲ v.row then 1 else if v.time<BJ s v.side then 8 else 0)
 else if pl.Bm p v.side v.row≠0 then pl.Bm p v.side v.row else if v.time<=BJ s v.side then 7 else if s.seq=1099511627776\/ϲ (bf.Ab (Ar s v.side))=4096 then 2 else 0
def boxP(U:World)(b:Nat)(p:pl.Pln)(x:pl.PA):Prop:=Ϝ U b (vI p.kind) (vI p.mode) (vI p.low) (vI p.high) (vI p.size) (vI p.limit) (vS x.l (ϲ p.left) x.lc) (vS x.r (ϲ p.right) x.rc) (vS x.lk (ϲ p.lkeys) x.lkc) (vS x.rk (ϲ p.rkeys) x.rkc) (.bool p.grouped) (vS x.g (ϲ p.group) x.gc) (vS x.a (ϲ p.aggs) x.ac)
def BF(w:ϟ)(p:pl.Pln)(x:pl.PA)(t:TypeId):boxP (ϊ w (Φ p x) t) w.heap.size p x:=by
 unfold boxP;refine⟨?_,?_,?_,?_,?_,?_,?_,?_,?_,?_,?_,?_,?_⟩<;>go_simp
def Af(h:boxP U b p x)(c:Ϣ U U'):boxP U' b p x:=by
 obtain⟨e,f,m,q,r,t,u,y,z,A,i,j,k⟩:=h;exact⟨cLz c e,cLz c f,cLz c m,cLz c q,cLz c r,cLz c t,cLz c u,cLz c y,cLz c z,cLz c A,cLz c i,cLz c j,cLz c k⟩
def Le(h:boxP U b p x):b<U.heap.size:=bLt _ _ h.1
def BU(U:World)(b:Nat)(s:Jn)(y:JX):Prop:=ϛ U b (vI s.L.lim) (vS y.l.m.1.1 y.l.m.1.2.1 y.l.m.1.2.2) (vS y.l.ra (ϲ y.l.rs) y.l.rc) (vI s.R.lim) (vS y.r.m.1.1 y.r.m.1.2.1 y.r.m.1.2.2) (vS y.r.ra (ϲ y.r.rs) y.r.rc) (vI s.lm) (vI s.rm) (vI s.seq)
def C5(w:ϟ)(s:Jn)(y:JX)(t:TypeId):BU (ϊ w #[vI s.L.lim,vS y.l.m.1.1 y.l.m.1.2.1 y.l.m.1.2.2,vS y.l.ra (ϲ y.l.rs) y.l.rc,vI s.R.lim,vS y.r.m.1.1 y.r.m.1.2.1 y.r.m.1.2.2,vS y.r.ra (ϲ y.r.rs) y.r.rc,vI s.lm,vI s.rm,vI s.seq] t) w.heap.size s y:=by
 unfold BU;refine⟨?_,?_,?_,?_,?_,?_,?_,?_,?_⟩<;>go_simp
def Ay{s:Jn}{y:JX}(h:BU U b s y)(c:Ϣ U U'):BU U' b s y:=by
 obtain⟨e,f,i,j,k,m,q,r,t⟩:=h;exact⟨cLz c e,cLz c f,cLz c i,cLz c j,cLz c k,cLz c m,cLz c q,cLz c r,cLz c t⟩
def noJ(W:World)(B:Nat):Prop:=W.there B 0 9
theorem Ry(w:ϟ):noJ (ϊ w #[Ϗ,ώ,ώ,Ϗ,ώ,ώ,Ϗ,Ϗ,Ϗ] 38) w.heap.size:=by
 intro j c
 match j,c with
 |0,_=>exact⟨ϧ,ϧ⟩
 |1,_=>exact⟨ϧ,ϧ⟩
 |2,_=>exact⟨ϧ,ϧ⟩
 |3,_=>exact⟨ϧ,ϧ⟩
 |4,_=>exact⟨ϧ,ϧ⟩
 |5,_=>exact⟨ϧ,ϧ⟩
 |6,_=>exact⟨ϧ,ϧ⟩
 |7,_=>exact⟨ϧ,ϧ⟩
 |8,_=>exact⟨ϧ,ϧ⟩
def Tl(h:W.there B o n)(c:0<n):B<W.heap.size:=by
 obtain⟨u,e⟩:=cD.1 (h 0 c).1;exact bLt _ _ e
def Ci(h:W.there B o n)(c:Ϣ W W'):W'.there B o n:=λj e=>by
 obtain⟨u,f⟩:=cD.1 (h j e).1;exact⟨by rw[cLz c f];rfl,(c.frozen (p:=⟨B,o+j,none⟩) (bLt _ _ f)).trans (h j e).2⟩
def D9(h:noJ W B)(c:Ϣ W W'):noJ W' B:=Ci h c
def Abz(h:noJ W B):B<W.heap.size:=Tl h Ϥ
theorem below_setCells{k B:Nat}{w:ϟ}(c:k<=B):∀(l:List Value) (o:Nat) (W:ϟ),Below k w W->Below k w (W.setCells B o l)
 |[],_,_,h=>h
 |v::l,o,W,h=>below_setCells c l (o+1) _ (h.setCell c v)
def Oj:(Tryz.prog.info? 38).map (·.size)=some 9:=Ϧ
def Io(h:noJ W B){l:List Value}(c:ϲ l=9):(W.setCells B 0 l).rangeAt B 0 l:=Wf W B 0 l (by rw[c];exact h)
def jx0:JX:=⟨⟨none,0,((none,0,0),[]),[]⟩,⟨none,0,((none,0,0),[]),[]⟩⟩
def j0:Jn:=⟨⟨0,[],[]⟩,⟨0,[],[]⟩,0,0,0⟩
def AU(s:Jn)(y:JX):joinV s y= .agg #[vI s.L.lim,vS y.l.m.1.1 y.l.m.1.2.1 y.l.m.1.2.2,vS y.l.ra (ϲ y.l.rs) y.l.rc,vI s.R.lim,vS y.r.m.1.1 y.r.m.1.2.1 y.r.m.1.2.2,vS y.r.ra (ϲ y.r.rs) y.r.rc,vI s.lm,vI s.rm,vI s.seq]:=rfl
end jn
def Θ(v:jn.Ev)(a:Option Addr)(c:Nat):Mmz (#[.int .i64 v.kind,.int .i64 v.side,.int .i64 v.time,.slice a (ϲ v.row) c]:Array Value):=⟨⟩
def Ψ(s:jn.Jn)(y:jn.JX):Mmz (#[.int .i64 s.L.lim,.slice y.l.m.1.1 y.l.m.1.2.1 y.l.m.1.2.2,.slice y.l.ra (ϲ y.l.rs) y.l.rc,.int .i64 s.R.lim,.slice y.r.m.1.1 y.r.m.1.2.1 y.r.m.1.2.2,.slice y.r.ra (ϲ y.r.rs) y.r.rc,.int .i64 s.lm,.int .i64 s.rm,.int .i64 s.seq]:Array Value):=⟨⟩
def Γ(s:jn.Jn)(y:jn.JX):Mmz ([.int .i64 s.L.lim,.slice y.l.m.1.1 y.l.m.1.2.1 y.l.m.1.2.2,.slice y.l.ra (ϲ y.l.rs) y.l.rc,.int .i64 s.R.lim,.slice y.r.m.1.1 y.r.m.1.2.1 y.r.m.1.2.2,.slice y.r.ra (ϲ y.r.rs) y.r.rc,.int .i64 s.lm,.int .i64 s.rm,.int .i64 s.seq]:List Value):=⟨⟩
def ν(s:jn.Jn)(x y:bf.BX)(t:List Value):Mmz (.int .i64 s.L.lim:: .slice x.m.1.1 x.m.1.2.1 x.m.1.2.2:: .slice x.ra (ϲ x.rs) x.rc:: .int .i64 s.R.lim:: .slice y.m.1.1 y.m.1.2.1 y.m.1.2.2:: .slice y.ra (ϲ y.rs) y.rc:: .int .i64 s.lm:: .int .i64 s.rm:: .int .i64 s.seq::t:List Value):=⟨⟩
def ζ(s:jn.Jn)(x y:bf.BX)(t:List Value):Mmz (List.toArray (.int .i64 s.L.lim:: .slice x.m.1.1 x.m.1.2.1 x.m.1.2.2:: .slice x.ra (ϲ x.rs) x.rc:: .int .i64 s.R.lim:: .slice y.m.1.1 y.m.1.2.1 y.m.1.2.2:: .slice y.ra (ϲ y.rs) y.rc:: .int .i64 s.lm:: .int .i64 s.rm:: .int .i64 s.seq::t):Array Value):=⟨⟩
def η(p:pl.Pln)(x:pl.PA)(t:List Value):Mmz (.int .i64 p.kind:: .int .i64 p.mode:: .int .i64 p.low:: .int .i64 p.high:: .int .i64 p.size:: .int .i64 p.limit:: .slice x.l (ϲ p.left) x.lc:: .slice x.r (ϲ p.right) x.rc:: .slice x.lk (ϲ p.lkeys) x.lkc:: .slice x.rk (ϲ p.rkeys) x.rkc:: .bool p.grouped:: .slice x.g (ϲ p.group) x.gc:: .slice x.a (ϲ p.aggs) x.ac::t:List Value):=⟨⟩
def θ(p:pl.Pln)(x:pl.PA)(t:List Value):Mmz (List.toArray (.int .i64 p.kind:: .int .i64 p.mode:: .int .i64 p.low:: .int .i64 p.high:: .int .i64 p.size:: .int .i64 p.limit:: .slice x.l (ϲ p.left) x.lc:: .slice x.r (ϲ p.right) x.rc:: .slice x.lk (ϲ p.lkeys) x.lkc:: .slice x.rk (ϲ p.rkeys) x.rkc:: .bool p.grouped:: .slice x.g (ϲ p.group) x.gc:: .slice x.a (ϲ p.aggs) x.ac::t):Array Value):=⟨⟩
namespace jn
variable {P : Program} {md : Region.Mode} {ops : Array Oper} {Q : Exit -> Act -> World -> Prop} {S : World -> Prop} {fuel : Nat} {listed : Array Bool} {a a' : Act} {w : ϟ} {oi : Oper} {v : Value}
def Ol(l:List Value)(c:List Deferred)(i:Nat)(v:Value):(Act.mk l.toArray c).put (some i) v=Act.mk (l.set i v).toArray c:=by simp[Act.put]
theorem takeB(i:Nat)(d:Nat)(f:S w)(h:wpAnyH P md ops Q S fuel (listed.setIfInBounds i true) a' w)
 (m:ops[i]? =some oi:=by exact rfl) (q:(Region.noSelect ops&&(Region.free md ops listed i&&(Region.ready md ops listed).contains i))=true:=by kernel_rfl) (k:oi.dst=some d:=by exact rfl) (r:Region.wanted oi (yielded ops a.tmps)=true:=by exact rfl) (hy:∀w,S w->(execOp a.eval oi).run P w= .ok (.value v) w:=by(intro w' j;(try simp only[boxP,BU]at j);first|(go_simp;done)|(go_simp;with_reducible rfl))) (ha:a.put (some d) v=a':=by(apply (Ol _ _ _ _).trans;dsimp only[sZ,sSz];try exact rfl))
 (e:∀c a w,Q (.panic c) (a.put oi.dst v) w->Q (.panic c) a w:=by exact λ_ _ _ h=>h):wpAnyH P md ops Q S (fuel+1) listed a w:=gr.Qz i (some d) f h m q k r hy ha e
theorem CU{j:Act}{e:Oper}{u:Value}(i:Nat)(d:Nat)(k:S w)(h:wpAnyH P md ops Q S fuel ((listed.setIfInBounds i true).setIfInBounds (i+1) true) j w)
 (z:ops[i]? =some oi:=by exact rfl) (D:(Region.noSelect ops&&(Region.free md ops listed i&&(Region.ready md ops listed).contains i))=true:=by kernel_rfl) (t:oi.dst=some d:=by exact rfl) (F:Region.wanted oi (yielded ops a.tmps)=true:=by exact rfl) (hy:∀w,S w->(execOp a.eval oi).run P w= .ok (.value v) w:=by(intro w' f;(try simp only[boxP,BU]at f);first|(go_simp;done)|(go_simp;with_reducible rfl))) (ha:a.put (some d) v=a':=by(apply (Ol _ _ _ _).trans;dsimp only[sZ,sSz];try exact rfl))
 (A:ops[i+1]? =some e:=by exact rfl) (E:(Region.noSelect ops&&(Region.free md ops (listed.setIfInBounds i true) (i+1)&&(Region.ready md ops (listed.setIfInBounds i true)).contains (i+1)))=true:=by kernel_rfl) (y:e.dst=some (d+1):=by exact rfl) (G:Region.wanted e (yielded ops a'.tmps)=true:=by exact rfl) (H:∀w,S w->(execOp a'.eval e).run P w= .ok (.value u) w:=by(intro w' f;(try simp only[boxP,BU]at f);first|(go_simp;done)|(go_simp;with_reducible rfl))) (r:a'.put (some (d+1)) u=j:=by(apply (Ol _ _ _ _).trans;dsimp only[sZ,sSz];try exact rfl))
 (m:∀c a w,Q (.panic c) (a.put oi.dst v) w->Q (.panic c) a w:=by exact λ_ _ _ h=>h) (q:∀c a w,Q (.panic c) (a.put e.dst u) w->Q (.panic c) a w:=by exact λ_ _ _ h=>h):wpAnyH P md ops Q S (fuel+1+1) listed a w:=takeB i d k (takeB (i+1) (d+1) k h A E y G H r q) z D t F hy ha m
end jn
namespace jn
open vl
attribute [local go_sem] Oper.semAt_some
variable {U : ϟ} {b : Nat}
def BN(side:Int):Nat:=if side=2 then 7 else 6
def A6(side:Int):Nat:=if side=2 then 3 else 0
def Om(b:Nat)(side:Int)(w:ϟ):χ 250 #[ω b,vI side] w λe w'=>e= .returned (.pointer (some ⟨b,BN side,none⟩))/\w'=w:=by
 unfold BN;by_cases h:side=2
 ·subst h;go_enter func250,ntmps250;go_wp2;go_ret;exact⟨rfl,rfl⟩
 ·have c:(side==2)=false:=by simpa using h
  rw[AC h];go_enter func250,ntmps250;go_wp2;go_ret;exact⟨rfl,rfl⟩
def Rz(b:Nat)(side:Int)(w:ϟ):χ 252 #[ω b,vI side] w λe w'=>e= .returned (.pointer (some ⟨b,A6 side,none⟩))/\w'=w:=by
 unfold A6;by_cases h:side=2
 ·subst h;go_enter func252,ntmps252;go_wp2;go_ret;exact⟨rfl,rfl⟩
 ·have c:(side==2)=false:=by simpa using h
  rw[AC h];go_enter func252,ntmps252;go_wp2;go_ret;exact⟨rfl,rfl⟩
def Qr{s:Jn}{y:JX}(h:BU U b s y)(side:Int):Δ U b (BN side) (vI (BJ s side)):=by
 obtain⟨u0,u1,u2,u3,u4,u5,u6,u7,u8⟩:=h;unfold BN BJ;split
 ·exact u7
 ·exact u6
def J5(s:Jn)(v:Ev):Int:=if 0<ϲ v.row then 1 else if v.time<BJ s v.side then 8 else 0
theorem PL(s:Jn)(y:JX)(v:Ev)(E:Ϡ)(F:Nat)(w:ϟ):
 χ 211 #[joinV s y,evV v E F] w (ψ w (vI (J5 s v))):=by
 obtain⟨R,z⟩:=nM (J5 s v);have f:=hV0 z;rw[z];clear z;unfold J5 at f;have u:ϡ (∀t,CT 250 #[ω w,vI v.side] t λe w'=>e= .returned (.pointer (some ⟨w,BN v.side,none⟩))/\w'=t):=λt=>Om _ _ t;have r:ϡ (∀(U:ϟ) (b:Nat),BU U b s y->Δ U b (BN v.side) (vI (BJ s v.side))):=λU b h=>Qr h v.side;obtain⟨k,J⟩:=nM (BN v.side);obtain⟨M,I⟩:=nM (BJ s v.side);rw[J]at u r;rw[I]at r f;clear J I;rw[AU];unfold evV;obtain⟨L,j,tm,T⟩:=v;dsimp only at *;obtain⟨n,K⟩:=nM (ϲ T);rw[K]at f⊢;clear K;have c:ϡ (Ϣ w (ϊ (ϊ w (Ψ s y) 38) #[vI L,vI j,vI tm,vS E n F] 90)):=Ϯ.alloc ϥ _;have q:=r.o _ _ (Ay (C5 w s y 38) (bR.alloc nR (.cells #[vI L,vI j,vI tm,vS E n F] 90)));clear r;go_enter func211,ntmps211;by_cases G:0<n
 ·have O:(0:Int)<(n:Int):=ϣ;have m:ϡ ((1:Int)=R):=by show _=_;rw[<-f.o,AE G]
  go_wp2;go_ret;exact⟨Ad m.o,c.o⟩
 ·have O:¬(0:Int)<(n:Int):=ϣ;rw[AC G]at f;by_cases H:tm<M
  ·have m:ϡ ((8:Int)=R):=by show _=_;rw[<-f.o,AE H]
   go_wp2;generalize i:(World.alloc (World.alloc w _) _)=V at q c⊢;have A:Δ V (w+1) 1 (vI j):=by subst i;go_simp
   have D:Δ V (w+1) 2 (vI tm):=by subst i;go_simp
   clear i
   go_region_held3 (λw'=>Δ w' (w+1) 1 (vI j)/\Δ w' (w+1) 2 (vI tm)/\Δ w' w k (vI M)) (first|go_keep|exact⟨A,D,q⟩) (first|(go_at_call 250;refine(u.o _).mono ?_;rintro e w2 ⟨rfl,rfl⟩))
   all_goals
    go_wp2;go_ret;exact⟨Ad m.o,by first|exact c.o|exact c.o.drew⟩
  ·have m:ϡ ((0:Int)=R):=by show _=_;rw[<-f.o,AC H]
   go_wp2;generalize i:(World.alloc (World.alloc w _) _)=V at q c⊢;have A:Δ V (w+1) 1 (vI j):=by subst i;go_simp
   have D:Δ V (w+1) 2 (vI tm):=by subst i;go_simp
   clear i
   go_region_held3 (λw'=>Δ w' (w+1) 1 (vI j)/\Δ w' (w+1) 2 (vI tm)/\Δ w' w k (vI M)) (first|go_keep|exact⟨A,D,q⟩) (first|(go_at_call 250;refine(u.o _).mono ?_;rintro e w2 ⟨rfl,rfl⟩))
   all_goals
    go_wp2;go_ret;exact⟨Ad m.o,by first|exact c.o|exact c.o.drew⟩
def R6{s:Jn}{y:JX}(h:BU U b s y)(side:Int):Δ U b (A6 side) (vI (Ar s side).lim)/\Δ U b (A6 side+1) (vS (BZ y side).m.1.1 (BZ y side).m.1.2.1 (BZ y side).m.1.2.2)/\Δ U b (A6 side+2) (vS (BZ y side).ra (ϲ (BZ y side).rs) (BZ y side).rc):=by
 obtain⟨u0,u1,u2,u3,u4,u5,u6,u7,u8⟩:=h;unfold A6 Ar BZ;split
 ·exact⟨u3,u4,u5⟩
 ·exact⟨u0,u1,u2⟩
def Ht(p:pl.Pln)(s:Jn)(v:Ev):Int:=if pl.Bm p v.side v.row≠0 then pl.Bm p v.side v.row else if v.time<=BJ s v.side then 7 else if s.seq=1099511627776\/ϲ (bf.Ab (Ar s v.side))=4096 then 2 else 0
theorem R7(p:pl.Pln)(x:pl.PA)(s:Jn)(y:JX)(v:Ev)(ra:Ϡ)(rc:Nat)(w:ϟ)(hw:pl.wfPlan p)(hp:pl.planAt w p x)(h:joinAt w s y)(ad:wfJ s)(T:evAt w v ra):
 χ 212 #[pl.Ai p x,joinV s y,evV v ra rc] w (ψ w (vI (Ht p s v))):=by
 have D:=hIz (λ(c:ϟ) (O:Ϣ w c)=>pl.Iv p x v.side ra rc v.row c hw (pl.Ae hp O) (vl.Ac T.row O) T.wf T.len);have A:ϡ (∀c,CT 250 #[ω (w+1),vI v.side] c λe w'=>e= .returned (.pointer (some ⟨w+1,BN v.side,none⟩))/\w'=c):=λc=>Om _ _ c;have X:ϡ (∀c,CT 252 #[ω (w+1),vI v.side] c λe w'=>e= .returned (.pointer (some ⟨w+1,A6 v.side,none⟩))/\w'=c):=λc=>Rz _ _ c;have m:ϡ (∀c,Ϣ w c->CT 232 #[bf.Bh (Ar s v.side) (BZ y v.side)] c (ψ c (vI (ϲ (bf.Ab (Ar s v.side)):Nat)))):=λc O=>bf.NP _ _ c (bf.Ao (h.of v.side) O) (ad.of v.side).size;have K:ϡ (∀(U:ϟ) (b:Nat),BU U b s y->Δ U b (BN v.side) (vI (BJ s v.side))):=λU b h=>Qr h v.side;have u:ϡ (∀(U:ϟ) (b:Nat),BU U b s y->Δ U b (A6 v.side) (vI (Ar s v.side).lim)/\Δ U b (A6 v.side+1) (vS (BZ y v.side).m.1.1 (BZ y v.side).m.1.2.1 (BZ y v.side).m.1.2.2)/\Δ U b (A6 v.side+2) (vS (BZ y v.side).ra (ϲ (BZ y v.side).rs) (BZ y v.side).rc)):=λU b h=>R6 h v.side;obtain⟨R,Y⟩:=nM (Ht p s v);have i:=hV0 Y;rw[Y];clear Y hw hp h ad T;unfold Ht at i;obtain⟨k,hk⟩:=nM (BN v.side);obtain⟨M,hM⟩:=nM (BJ s v.side);obtain⟨kb,ac⟩:=nM (A6 v.side);obtain⟨E,hE⟩:=nM (pl.Bm p v.side v.row);obtain⟨q,hq⟩:=nM (ϲ (bf.Ab (Ar s v.side)));obtain⟨bb,aa⟩:=nM (Ar s v.side);obtain⟨bx,ab⟩:=nM (BZ y v.side);rw[hk]at A K;rw[hM]at K i;rw[ac]at X u;rw[hE]at D i;rw[hq]at m i;rw[aa,ab]at m u;clear hk hM ac hE hq aa ab;unfold pl.Ai at D⊢;unfold bf.Bh bf.hdV at m;rw[AU];unfold evV;obtain⟨kd,I,tm,ag⟩:=v;dsimp only at *;obtain⟨n,hn⟩:=nM (ϲ ag);rw[hn]at D⊢;clear hn;obtain⟨bl,bm,br⟩:=bb;obtain⟨xa,xc,⟨⟨x1,x2,x3⟩,xl⟩,xs⟩:=bx;dsimp only at *;obtain⟨xn,ae⟩:=nM (ϲ xs);rw[ae]at m u;clear ae;go_enter func212,ntmps212;go_wp2_with fail;generalize F:(World.alloc (World.alloc (World.alloc w _) _) _)=V;have Z:Ϣ w V:=by rw[<-F];exact(Ϯ.alloc ϥ _).alloc Ϩ _
 have z:ϡ (BU V (w+1) s y):=by
  subst F;have:=C5 (ϊ w (Φ p x) 32) s y 38;rw[D0]at this;exact Ay this Ϯ
 have r:Δ V (w+1+1) 1 (vI I):=by subst F;go_simp
 have t:Δ V (w+1+1) 2 (vI tm):=by subst F;go_simp
 clear F;refine(D.o _ Z).mono ?_;rintro e c ⟨rfl,G⟩;have f:Ϣ w c:=bT Z G;replace z:ϡ (BU c (w+1) s y):=Ay z.o G;replace r:=cLz G r;replace t:=cLz G t;clear G Z D;by_cases k1:E=0
 rotate_left
 ·have ai:(E !=0)=true:=by simpa using k1
  have j:ϡ (E=R):=by show _=_;rw[<-i.o,AE k1]
  go_wp2;go_ret;exact⟨Ad j.o,f⟩
 subst k1;rw[AC Ϥ]at i;have J:=K.o _ _ z.o;have HQ:=u.o _ _ z.o;have u8:=z.o.2.2.2.2.2.2.2.2;obtain⟨g0,g1,g2⟩:=HQ;clear K u;by_cases h1:tm<=M
 ·have j:ϡ ((7:Int)=R):=by show _=_;rw[<-i.o,AE h1]
  go_wp2
  go_region_held3 (λw'=>Δ w' (w+1+1) 1 (vI I)/\Δ w' (w+1+1) 2 (vI tm)/\Δ w' (w+1) k (vI M)) (first|go_keep|exact⟨r,t,J⟩) (first|(go_at_call 250;refine(A.o _).mono ?_;rintro e w2 ⟨rfl,rfl⟩))
  all_goals
   go_wp2;go_ret;exact⟨Ad j.o,by first|exact f|exact f.drew⟩
 ·rw[AC h1]at i;by_cases L:s.seq=1099511627776
  ·have af:(s.seq==1099511627776)=true:=by simpa using L
   have j:ϡ ((2:Int)=R):=by show _=_;rw[<-i.o,AE (.inl L)]
   go_wp2
   go_region_held3 (λw'=>Δ w' (w+1+1) 1 (vI I)/\Δ w' (w+1+1) 2 (vI tm)/\Δ w' (w+1) k (vI M)) (first|go_keep|exact⟨r,t,J⟩) (first|(go_at_call 250;refine(A.o _).mono ?_;rintro e w2 ⟨rfl,rfl⟩))
   all_goals
    go_wp2;go_ret;exact⟨Ad j.o,by first|exact f|exact f.drew⟩
  ·have af:(s.seq==1099511627776)=false:=by simpa using L
   by_cases h3:q=4096
   ·subst h3;have j:ϡ ((2:Int)=R):=by show _=_;rw[<-i.o,AE (.inr rfl)]
    go_wp2
    go_region_held3 (λw'=>Δ w' (w+1+1) 1 (vI I)/\Δ w' (w+1+1) 2 (vI tm)/\Δ w' (w+1) k (vI M)) (first|go_keep|exact⟨r,t,J⟩) (first|(go_at_call 250;refine(A.o _).mono ?_;rintro e w2 ⟨rfl,rfl⟩))
    all_goals
     go_wp2_with (first
      |(go_at_call 252;refine(X.o _).mono ?_;rintro e w3 ⟨rfl,rfl⟩)
      |(go_at_call 232;refine(m.o _ (by first|exact f|exact f.drew)).mono ?_;rintro e w4 ⟨rfl,H⟩))
     go_ret;exact⟨Ad j.o,by first|exact bT f H|exact f.drew.trans (H.mono f.size)⟩
   ·have ah:((q:Int)==4096)=false:=by rw[K5];omega
    have j:ϡ ((0:Int)=R):=by show _=_;rw[<-i.o,AC (λk=>k.elim L h3)]
    go_wp2
    go_region_held3 (λw'=>Δ w' (w+1+1) 1 (vI I)/\Δ w' (w+1+1) 2 (vI tm)/\Δ w' (w+1) k (vI M)) (first|go_keep|exact⟨r,t,J⟩) (first|(go_at_call 250;refine(A.o _).mono ?_;rintro e w2 ⟨rfl,rfl⟩))
    all_goals
     go_wp2_with (first
      |(go_at_call 252;refine(X.o _).mono ?_;rintro e w3 ⟨rfl,rfl⟩)
      |(go_at_call 232;refine(m.o _ (by first|exact f|exact f.drew)).mono ?_;rintro e w4 ⟨rfl,H⟩))
     go_ret;exact⟨Ad j.o,by first|exact bT f H|exact f.drew.trans (H.mono f.size)⟩
end jn
namespace bf
open vl
attribute [local go_sem] Oper.semAt_some
variable {w w':ϟ}
def Nj(w w':World):Prop:=∃q os,w'=grow (w.drewN q) os
def Nj.refl(w:ϟ):Nj w w:=⟨0,#[],by simp[World.drewN]⟩
def Nj.drew(h:Nj w w'):Nj w w'.drew:=by
 obtain⟨q,c,rfl⟩:=h;exact⟨q+1,c,rfl⟩
def Nj.alloc(h:Nj w w')(o:Obj):Nj w (w'.alloc o):=by
 obtain⟨q,c,rfl⟩:=h;exact⟨q,c.push o,by simp[grow,World.alloc]⟩
attribute [local go_sem ↓] Go.wp_at_zero Go.wp_at_succ
theorem R8(e f:EM)(w:ϟ):
 χ 272 #[e.val,f.val] w λr w'=>r= .returned (vI (Fw e.ent f.ent))/\Nj w w':=by
 have c:ϡ (AY [Lib.compareBytes e.key.data.toList f.key.data.toList,CN e.time f.time,CN e.seq f.seq]=Fw e.ent f.ent):=Ki e.ent f.ent;obtain⟨h,m,j,⟨t,y,A⟩,E⟩:=e;obtain⟨i,q,k,⟨u,z,D⟩,F⟩:=f;rw[<-c.o];clear c;unfold EM.val hdV;dsimp only;go_enter func272,ntmps272;go_wp2
 go_region_held3 (λw'=>Ϙ w' w (.string h) (vI m) (vI j) (ϗ w' (w+1) (.string i) (vI q) (vI k))) (go_keep)
  (first
   |(go_at_call 263;refine(Kt _ _ _).mono ?_;rintro e w' ⟨rfl,rfl⟩)
   |(go_at_call 283;refine(Ks _ _ _).mono ?_;rintro e w' ⟨rfl,rfl⟩)
   |(go_at_call 293;refine(or3 _ (Lib.compareBytes h.data.toList i.data.toList) (CN m q) (CN j k) _ ?_ ?_ ?_).mono ?_;(go_simp);(go_simp);(go_simp);rintro e w' ⟨rfl,rfl⟩))
 all_goals
  go_wp2;go_ret;refine⟨rfl,?_⟩
  repeat (first|exact Nj.refl _|apply Nj.drew|(refine Nj.alloc ?_ _))
def Agb(a b:EM):(decide (Fw a.ent b.ent<0))=decide (ltP a.ent b.ent):=decide_eq_decide.2 Ho
theorem Zc{α β:Type}(f:α->β):∀{m n:List β},m.Perm n->∀l:List α,n=l.map f->∃j:List α,j.Perm l/\m=j.map f:=by
 intro m n h
 induction h with
 |nil=>intro l c;exact⟨l,eR _,c⟩
 |cons x _ ih=>
  intro l c
  cases l with
  |nil=>cases c
  |cons a l=>
   rw[P3]at c;injection c with k i
   obtain⟨j,u,e⟩:=ih l i;exact⟨a::j,u.cons a,by rw[P3,<-k,e]⟩
 |swap x y _=>
  intro l c
  match l,c with
  |a::b::l,c=>
   rw[P3,P3]at c;injection c with k i
   injection i with i t
   exact⟨b::a::l,List.Perm.swap ..,by rw[P3,P3,<-k,<-i,<-t]⟩
 |trans _ _ ih1 ih2=>
  intro l c;obtain⟨z,D,q⟩:=ih2 l c;obtain⟨A,E,r⟩:=ih1 z q;exact⟨A,E.trans D,r⟩
end bf
namespace bf
open vl
variable {w : ϟ} {base cap g n : Nat} {es : List EM} {d : Array EM}
def Lf(e:EM):List Value:=[.string e.key,vI e.time,vI e.seq,hdV e.row,.bool e.met]
def Ab0(e:EM):ϲ (Lf e)=5:=rfl
def Ab1(e:EM):∀v∈Lf e,v.oneCell'=true:=by
 intro v c;unfold Lf hdV at c;simp at c;rcases c with rfl|rfl|rfl|rfl|rfl<;>rfl
def R9(l:List EM)(t:Nat)(h:t<ϲ l * 5):(Ap l)[t]? =some ((Lf (l.getD (t/5) ϰ))[t % 5]!):=by
 obtain⟨f,i,j,k,m⟩:=MY l (t/5) ϣ;have q:t % 5=0\/t % 5=1\/t % 5=2\/t % 5=3\/t % 5=4:=ϣ;rcases q with e|e|e|e|e
 ·have c:t=t/5 * 5:=ϣ;rw[e];rw[<-c]at f;exact f
 ·have c:t=t/5 * 5+1:=ϣ;rw[e];rw[<-c]at i;exact i
 ·have c:t=t/5 * 5+2:=ϣ;rw[e];rw[<-c]at j;exact j
 ·have c:t=t/5 * 5+3:=ϣ;rw[e];rw[<-c]at k;exact k
 ·have c:t=t/5 * 5+4:=ϣ;rw[e];rw[<-c]at m;exact m
def IX(l:List EM)(i:Nat)(h:i<ϲ l):l.toArray[i]! =l.getD i ϰ:=by
 rw[getElem!_pos l.toArray i (by simpa using h),gDe,gEe h];rfl
def flat_get(l:List EM)(t:Nat)(h:t<ϲ l * 5):(Ap l)[t]? =some ((flatK Lf 5 l.toArray)[t]!):=by
 rw[get_flatK _ _ _ _ (by simpa using h),IX l (t/5) ϣ];exact R9 l t h
def Zd(h:w.ownsRow base 166 5 (vS (ϋ g) (ϲ es) cap) (ϲ es) (Ap es)):HoldsK Lf 5 w g 0 es.toArray:=by
 intro j e;rw[size_flatK]at e;have i:j<ϲ es * 5:=by simpa using e
 constructor
 ·have:=RT h (g:=g) rfl j _ (flat_get es j i);rw[Di]at this;exact this
 ·rcases h.2 with⟨c,_⟩|⟨q,k,m,c,r,f,_⟩
  ·cases c
  ·cases c
   simp[World.frozen?,f]
def RA{os:Array Obj}{b:Nat}(c:b<w.heap.size)(f:b≠g):(sortWorldK Lf 5 w g 0 n d os).heap[b]? =w.heap[b]? :=by
 show((w.heap.modify g _)++os)[b]? =_;rw[Array.getElem?_append_left (by rw[fZ];exact c),fY,AC (λe=>f e.symm)]
def XJ{os:Array Obj}:w.heap.size<=(sortWorldK Lf 5 w g 0 n d os).heap.size:=by
 show _<=((w.heap.modify g _)++os).size;rw[fW,fZ];omega
def Ab2{os:Array Obj}(c:base<=g)(f:base<=w.heap.size):Below base w (sortWorldK Lf 5 w g 0 n d os):=
 ⟨rfl,rfl,rfl,XJ,λk e=>RA ϣ ϣ⟩
theorem Agc{d:List EM}{os:Array Obj}(h:w.ownsRow base 166 5 (vS (ϋ g) (ϲ es) cap) (ϲ es) (Ap es))(e:ϲ d=ϲ es):
 (sortWorldK Lf 5 w g 0 n d.toArray os).ownsRow base 166 5 (vS (ϋ g) (ϲ es) cap) (ϲ es) (Ap d):=by
 refine⟨by rw[Fj,e],?_⟩;rcases h.2 with⟨f,_⟩|⟨A,z,c,f,q,k,i,r,j,D⟩
 ·cases f
 ·cases f
  have u:g<w.heap.size:=(GS.1 k).1;refine .inr ⟨g,cap,putCells id 0 (flatK Lf 5 d.toArray) c,rfl,q,?_,i,r,by simpa[putCells]using j,?_⟩
  ·show((w.heap.modify g _)++os)[g]? =_;rw[Array.getElem?_append_left (by rw[fZ];exact u),fY,AE rfl,k];rfl
  ·apply ext_getElem?;intro t;have E:ϲ es * 5<=c.size:=by rw[j];exact cY _ i
   by_cases m:t<ϲ es * 5
   ·rw[getElem?_take_of_lt m,flat_get d t (by rw[e];exact m)];have y:t<c.size:=ϣ;simp only[putCells,Array.getElem?_toList,Array.getElem?_mapIdx,Array.getElem?_eq_getElem y,cT];rw[AE ⟨At _,by rw[size_flatK];simp;omega⟩];rfl
   ·rw[cR (by rw[DA];omega),cR (by rw[Fj,e];omega)]
theorem Ze{l:List Ent}{d:List EM}{os:Array Obj}(h:OE w base (vS (ϋ g) (ϲ es) cap) es l)(u:d.Perm es):
 ∃y,y.Perm l/\OE (sortWorldK Lf 5 w g 0 n d.toArray os) base (vS (ϋ g) (ϲ es) cap) d y:=by
 have t:=u.length_eq;have J:es=(es.zip l).map Prod.fst:=(map_fst_zip (by rw[h.len];exact HU _)).symm;have el:(es.zip l).map Prod.snd=l:=map_snd_zip (by rw[h.len];exact HU _);obtain⟨zs,z,q⟩:=Zc Prod.fst u (es.zip l) J;refine⟨zs.map Prod.snd,by have:=z.map Prod.snd;rwa[el]at this,⟨B0 h.low XJ,?_,?_,λi c=>?_⟩⟩
 ·rw[t];exact Agc h.own t
 ·rw[q,lMp,lMp]
 ·rw[lMp]at c;have O:zs[i]∈es.zip l:=z.mem_iff.1 (GE c);obtain⟨j,K,k⟩:=LT O;have m:j<ϲ l:=by rw[length_zip]at K;omega
  have L:j<ϲ es:=by rw[h.len];exact m
  rw[getElem_zip]at k;have H:d.getD i ϰ=es.getD j ϰ:=by
   rw[q,gDe,L7,gEe c,<-k,gDe,gEe L];rfl
  have I:(zs.map Prod.snd).getD i ϰ=l.getD j ϰ:=by
   rw[gDe,L7,gEe c,<-k,gDe,gEe m];rfl
  rw[H,I];obtain⟨A,D,E,F,G,f⟩:=h.rows j m;refine⟨A,D,E,F,G,A4 f (λb r=>RA (AL f r).2 (λe=>?_))⟩;exact JB h.own f Ϥ (show(Value.slice (ϋ g) (ϲ es) cap).ownBlock=some b by rw[e];rfl) r
end bf
namespace jn
open vl bf
variable {w w' : ϟ} {M nn : Nat} {l : List Int} {s : Int}
def Agd:Keyed Tryz.prog 3:=int_keyed underlying3
def Fa(w:World)(M nn:Nat)(l:List Int):Prop:=∃D:DataW Unit,w.ownsMap Tryz.prog 3 (plainElem (H:=Unit) Tryz.prog 3) M nn D/\∀s,pl.i64 s->D.atKey (.int .i64 s) (.lit (.int .i64 0))= .lit (.int .i64 (l.count s:Nat))
def Tm(w:ϟ):Fa (w.alloc (.map #[] 0)) w.heap.size 0 []:=⟨_,World.ownsMap_made _ _ _ _,λs c=>by simp;rfl⟩
def XK(h:Fa w M nn l):M<w.heap.size:=by
 obtain⟨D,c,_⟩:=h;exact c.lt
def Mm{c:Option Nat}(h:Fa w M nn l)(i:w.grownBy w' c)(j:some M≠c):Fa w' M nn l:=by
 obtain⟨D,e,f⟩:=h;exact⟨D,e.kept i j,f⟩
def Qs(h:Fa w M nn l)(k:w'.heap[M]? =w.heap[M]?):Fa w' M nn l:=by
 obtain⟨D,⟨es,c,j,F,i,e⟩,f⟩:=h;exact⟨D,⟨es,c,k.trans j,F,i,e⟩,f⟩
def C6(h:Fa w M nn l)(c:Ϣ w w'):Fa w' M nn l:=Qs h (c.block M (XK h))
def wfi(c:pl.i64 s):(Lit.int .i64 s).wf=true:=Ro c
def F4(h:Fa w M nn l)(f:pl.i64 s):(Instr.lookup 298 (.map (some M)) (.int .i64 s) false).run Tryz.prog w= .ok (.int .i64 (l.count s:Nat)) w:=by
 obtain⟨D,i,j⟩:=h;obtain⟨c,q,k,_⟩:=i.lookup_int Agd underlying298 underlying3 (Tryz.zeroValue3 w) (keyOf_int_mk underlying3 (wfi f));have m:=(j s f).symm.trans k;have e:∀a b:Int,(DataW.lit (Lit.int .i64 a):DataW Unit)= .lit (.int .i64 b)->a=b:=λa b h=>(Lit.int.inj (DataW.lit.inj h)).2;rw[q,e _ _ m]
theorem On(h:Fa w M nn l)(f:pl.i64 s)(m:nn<maxLen)(z:ϲ l<9223372036854775807):
 ∃w',(Instr.mapUpdate 298 (.map (some M)) (vI s) (vI ((l.count s:Nat)+1))).run Tryz.prog w= .ok () w'/\Fa w' M (nn+1) (l++[s])/\w.grownBy w' (some M):=by
 obtain⟨D,c,i⟩:=h;have y:=eS (a:=s) (l:=l);obtain⟨w',r,q,j⟩:=c.update Agd underlying298 m (keyOf_int_mk underlying3 (wfi f)) (dQ (H:=Unit) (a:=(l.count s:Nat)+1) underlying3 (Ro ⟨ϣ,ϣ⟩));refine⟨w',r,⟨_,q,λt u=>?_⟩,j⟩;by_cases e:t=s
 ·subst e;rw[atKey_put_same c.isMap (Agd.key (keyOf_int_mk underlying3 (wfi f)))];simp[cZ]
 ·rw[atKey_put_other (λk=>e (by injection k)),i t u];have:s≠t:=λk=>e k.symm;simp[cZ,count_singleton,this]
def Lg(h:Fa w M nn l):∃o:Obj,w.heap[M]? =some o/\o.isCells=false:=by
 obtain⟨D,⟨es,e,c,_⟩,_⟩:=h;exact⟨_,c,rfl⟩
def Oo(l:List Int)(s:Int):(l++[s]).count s=l.count s+1:=by simp[cZ]
attribute [local go_sem] Oper.semAt_some
theorem JY(p:pl.Pln)(x:pl.PA)(side:Int)(b:Buf)(y:BX)(w:ϟ)(hw:pl.wfPlan p)(hp:pl.planAt w p x)(h:bufAt w b y)(ao:∀z∈Ab b,wfE z):
 χ 171 #[pl.Ai p x,vI side,Bh b y] w (ψ w (.bool (I9 p side b))):=by
 have HB:=hV0 h;have aa:ϡ (ERs w (ems (y.m::y.rs)) (Ab b)):=EC h;have HK:ϡ (∀(r:List Cel) (n:Nat) (a:Ϡ) (c:Nat) (G:ϟ),n=ϲ r->Ϣ w G->vl.rowAt w a r->B8 r->ϲ r<=ύ->CT 214 #[pl.Ai p x,vI side,vS a n c] G (ψ G (.tuple #[.string (pl.A0 p side r),.bool (pl.hasB p side r),vI (pl.Bm p side r)]))):=λr n a c G hn hb h1 h2 h3=>by
  subst hn;exact pl.Q8 p x side a c r G hw (pl.Ae hp hb) (vl.Ac h1 hb) h2 h3
 obtain⟨L,hL⟩:=nM (Ab b);have am:ϡ (∀z∈L,wfE z):=by rw[<-hL];exact ao
 unfold I9;rw[hL]at aa⊢;clear hL h ao hw hp;obtain⟨R,hR⟩:=nM (L.all (FZ p side));have al:=hV0 hR;rw[hR];clear hR;obtain⟨ra,rc,⟨⟨m1,m2,m3⟩,ml⟩,rs⟩:=y;obtain⟨lim,a0,a1⟩:=b;unfold Bh hdV;unfold pl.Ai at HK⊢;dsimp only at aa⊢;obtain⟨n,hn⟩:∃n,ϲ rs=n:=⟨_,rfl⟩;have HN:=hV0 hn;rw[hn];clear hn;refine(DM (n:=0)).1 ?_;refine bH func171 rfl trivial ?_ rfl;simp only[ntmps171,St,DP,NS,Nat.reduceAdd,Nat.reduceSub,aU,aV,aW,aX,JV,KY]
 gi_wp2_with (refine⟨trivial,rfl,?_⟩;gi_at_call 237;refine(DM.2 (Jw _ _ _ rfl rfl rfl _)).mono ?_;rintro e w' ⟨rfl,rfl⟩)
 generalize H:(((((w.alloc (.cells (Φ p x) 32)).alloc (.cells #[vI side] 3)).alloc (.cells (τ lim m1 m2 m3 ra n rc) 36)).alloc (.cells #[ϑ] 4)).alloc (.cells (τ lim m1 m2 m3 ra n rc) 36))=V at *;have V0:boxP V w p x:=by
  subst H;unfold boxP;refine⟨?_,?_,?_,?_,?_,?_,?_,?_,?_,?_,?_,?_,?_⟩<;>go_simp
 have V2:Δ V (w+1) 0 (vI side):=by subst H;go_simp
 have V3:Δ V (w+1+1+1) 0 (.bool false):=by subst H;go_simp
 have V4:Ξ V (w+1+1+1) 0:=by subst H;go_simp
 have V5:Δ V (w+1+1+1+1) 0 (vI lim):=by subst H;go_simp
 have V6:Δ V (w+1+1+1+1) 1 (vS m1 m2 m3):=by subst H;go_simp
 have V7:Δ V (w+1+1+1+1) 2 (vS ra n rc):=by subst H;go_simp
 have V8:Ϣ w V:=by
  subst H
  repeat (first|exact bR|(refine DH ?_ Ϫ _))
 have V9:V.heap.size=w.heap.size+1+1+1+1+1:=by subst H;simp
 clear H;have ai:=Ia HB.o V8 (w.heap.size+1+1+1+1) GK V5 V6 (by rw[HN.o];exact V7) Aj (λ_ _=>Aj) (λ_ _ _ _=>trivial) (λ_ _ _ _=>trivial);dsimp only at ai;obtain⟨E,hE⟩:=nM (ems ((((m1,m2,m3):Hdr),ml)::rs));rw[hE]at ai aa;clear hE;refine DF (gf:=276) (lb:=#[.pointer (some ⟨w+1+1+1+1,0,none⟩)]) rfl (IB func276 Ϧ rfl) ai bR (λx hx=>by obtain⟨p,_,rfl⟩:=DS.1 hx;rfl) (λh k=>Aw.trans h k) (λW l o o' _ h ho=>Aw.put W l o o' h ho)
  (λi X=>(∀j,j<i->FZ p side (L.getD j ϰ)=true)/\Aw GK V X/\Ξ X (w+1+1+1) 0/\Ϣ w X) (λc X=>c= .ret/\false=R/\Δ X (w+1+1+1) 0 (.bool false)/\Ϣ w X)
  (λi X X' aq F t A=>⟨F.1,F.2.1.grown t (λr e=>(A r e).2),(aY (F.2.1.cell Aj V3) t (λr e=>(A r e).2)).trans F.2.2.1,Dy F.2.2.2 nR ϣ t A⟩)
  (λc X X' aq F t A=>⟨F.1,F.2.1,Do F.2.2.1 t (λr e=>(A r e).2),Dy F.2.2.2 nR ϣ t A⟩)
  ⟨λj hj=>absurd hj (CA j),Aw.refl _ _,V4,V8⟩
  (λi a' X=> ∃B,a'={tmps:=#[.agg #[vI p.kind,vI p.mode,vI p.low,vI p.high,vI p.size,vI p.limit,vS x.l (ϲ p.left) x.lc,vS x.r (ϲ p.right) x.rc,vS x.lk (ϲ p.lkeys) x.lkc,vS x.rk (ϲ p.rkeys) x.rkc,.bool p.grouped,vS x.g (ϲ p.group) x.gc,vS x.a (ϲ p.aggs) x.ac],vI side,.agg #[vI lim,vS m1 m2 m3,vS ra n rc],.pointer (some ⟨w,0,none⟩),.pointer (some ⟨w+1,0,none⟩),.pointer (some ⟨w+1+1,0,none⟩),.pointer (some ⟨w+1+1+1,0,none⟩),.pointer (some ⟨B,0,none⟩),undef,undef,undef,.agg #[vI lim,vS m1 m2 m3,vS ra n rc],.func (.func 276) #[] #[.pointer (some ⟨w+1+1+1+1,0,none⟩)],(E.getD i ϰ).val,undef,undef,undef,undef,undef,undef,undef,undef,undef,undef,undef,undef,undef,undef,undef,undef,undef,undef,undef,undef,undef],defers:=[]}/\ϖ X B (.string (E.getD i ϰ).key) (vI (E.getD i ϰ).time) (vI (E.getD i ϰ).seq) (hdV (E.getD i ϰ).row) (.bool (E.getD i ϰ).met))
  (λi a' u X X' aq F t A=>by
   obtain⟨B,h1,h2,h3,h4,h5,h6⟩:=F;exact⟨B,h1,Do h2 t (λr e=>(A r e).2),Do h3 t (λr e=>(A r e).2),Do h4 t (λr e=>(A r e).2),Do h5 t (λr e=>(A r e).2),Do h6 t (λr e=>(A r e).2)⟩) ?assign ?body ?done ?stop
 case assign=>
  intro l' k z X K hx hi T;obtain⟨hk,ap⟩:=JT.1 hx;rw[lMp]at hk;rw[aP]at ap;subst ap;have hd:E.getD k ϰ=E[k]:=by rw[gDe,gEe hk];rfl
  have I:=T;rw[hd]at I;clear T hd hx;obtain⟨⟨Z,et,es,⟨r1,r2,r3⟩,em⟩,hz⟩:∃z,E[k]=z:=⟨_,rfl⟩;rw[hz]at I⊢;unfold EM.val hdV at I⊢;dsimp only at I⊢;obtain⟨j1,m,j3,q⟩:=hi
  gi_wp2
  have lX:w.heap.size+1+1+1<X.heap.size:=bLt _ _ (m.cell Aj V3);exact I _ _ ((bQ _ _).from _) (Aw.alloc _ _) ⟨j1,m.trans (Aw.alloc _ _),ϧ,q.alloc q.size _⟩ ⟨X.heap.size,rfl,ϧ,ϧ,ϧ,ϧ,ϧ⟩
 case body=>
  intro l' i z a' X hx ay az ax ag;obtain⟨j1,m,j3,q⟩:=ax;obtain⟨B,ag,b0,b1,b2,b3,b4⟩:=ag;subst ag;obtain⟨hi,_⟩:=JT.1 hx;rw[lMp]at hi;have aw:=aa.o.1;have ad:=aa.o.2 i ϣ;have ae:ϡ (L.getD i ϰ∈L):=by show _∈_;rw[gDe,gEe ϣ];simp
  have J:ϡ (∀G,Ϣ w G->CT 214 #[pl.Ai p x,vI side,hdV (E.getD i ϰ).row] G (ψ G (.tuple #[.string (pl.A0 p side (L.getD i ϰ).row),.bool (pl.hasB p side (L.getD i ϰ).row),vI (pl.Bm p side (L.getD i ϰ).row)]))):=λG hb=>HK.o (L.getD i ϰ).row _ _ _ G ad.len hb ad.row (am.o _ ae.o).row (am.o _ ae.o).len;have ac:ϡ ((E.getD i ϰ).key=(L.getD i ϰ).key):=ad.key;obtain⟨kb,aj⟩:=nM (pl.A0 p side (L.getD i ϰ).row);obtain⟨an,ah⟩:=nM (pl.hasB p side (L.getD i ϰ).row);obtain⟨re,ak⟩:=nM (pl.Bm p side (L.getD i ϰ).row);have ab:ϡ (FZ p side (L.getD i ϰ)=(decide (re=0)&&an&&decide (kb=(L.getD i ϰ).key))):=by
   show _=_;unfold FZ;rw[aj,ah,ak]
  rw[aj,ah,ak]at J;clear aj ah ak;obtain⟨⟨Z,et,es,⟨r1,r2,r3⟩,em⟩,hz⟩:∃z,E.getD i ϰ=z:=⟨_,rfl⟩;rw[hz]at J b0 b1 b2 b3 b4 ac⊢;unfold hdV at J b3;dsimp only at J b0 b1 b2 b3 b4 ac;rw[<-ac.o]at ab;have O:=m.cell Aj V3;have c2:=m.cell Aj V2;have c0:boxP X w p x:=by
   obtain⟨v0,v1,v2,v3,v4,v5,v6,v7,v8,v9,ar,au,av⟩:=V0;exact⟨m.cell Aj v0,m.cell Aj v1,m.cell Aj v2,m.cell Aj v3,m.cell Aj v4,m.cell Aj v5,m.cell Aj v6,m.cell Aj v7,m.cell Aj v8,m.cell Aj v9,m.cell Aj ar,m.cell Aj au,m.cell Aj av⟩
  obtain⟨v0,v1,v2,v3,v4,v5,v6,v7,v8,v9,ar,au,av⟩:=c0;have lX:w.heap.size+1+1+1<X.heap.size:=bLt _ _ O;have af:ϡ (FZ p side (L.getD i ϰ)=false->false=R):=λhb=>by
   rw[<-al.o]
   symm
   rw[eE];exact⟨_,ae.o,by rw[hb];decide⟩
  clear hz ad aw hx ac;by_cases h1:re=0
  ·subst h1
   cases an with
   |true=>
    by_cases t1:kb.toList=Z.toList
    ·have hY:ϡ (FZ p side (L.getD i ϰ)=true):=by
      show _=_;rw[ab.o];have e1:kb=Z:=by have:=bytes_beq kb Z;rw[t1]at this;simpa using this.symm
      simp[e1]
     gi_wp2_with (refine⟨trivial,rfl,?_⟩;gi_at_call 214;refine(Pl l' (DM.2 (J.o _ q))).mono ?_;rintro e w2 ⟨rfl,f⟩;have k0:=cLz f b0)
     exact⟨BW f,bf.C8 f nR,λj hj=>by
      rcases Fm.1 hj with h|h
      ·exact j1 j h
      ·rw[h];exact hY.o,m.trans (bf.C8 f nR),by rw[f.frozen (p:=⟨w+1+1+1,0,none⟩) lX];exact j3,bT q f⟩
    ·have Y:ϡ (false=R):=af.o (by
      rw[ab.o];have e1:kb≠Z:=λe=>t1 (by rw[e]);simp[e1])
     have t2:(kb.toList==Z.toList)=false:=by simpa using t1
     have t3:(kb.toList !=Z.toList)=true:=by simpa using t1
     gi_wp2_with (refine⟨trivial,rfl,?_⟩;gi_at_call 214;refine(Pl l' (DM.2 (J.o _ q))).mono ?_;rintro e w2 ⟨rfl,f⟩;have k0:=cLz f b0;have k3:=cLz f O;have kf:Ξ w2 (w+1+1+1) 0:=(by rw[f.frozen (p:=⟨w+1+1+1,0,none⟩) lX];exact j3))
     exact⟨(BW f).trans ((Rg _ _ _).from _),rfl,Y.o,JR _ _ _ k3,(bT q f).setCell ϩ _⟩
   |false=>
    have Y:ϡ (false=R):=af.o (by rw[ab.o];simp)
    gi_wp2_with (refine⟨trivial,rfl,?_⟩;gi_at_call 214;refine(Pl l' (DM.2 (J.o _ q))).mono ?_;rintro e w2 ⟨rfl,f⟩;have k0:=cLz f b0;have k3:=cLz f O;have kf:Ξ w2 (w+1+1+1) 0:=(by rw[f.frozen (p:=⟨w+1+1+1,0,none⟩) lX];exact j3))
    exact⟨(BW f).trans ((Rg _ _ _).from _),rfl,Y.o,JR _ _ _ k3,(bT q f).setCell ϩ _⟩
  ·have Y:ϡ (false=R):=af.o (by rw[ab.o];simp[h1]);have h2:(re !=0)=true:=by simpa using h1
   gi_wp2_with (refine⟨trivial,rfl,?_⟩;gi_at_call 214;refine(Pl l' (DM.2 (J.o _ q))).mono ?_;rintro e w2 ⟨rfl,f⟩;have k0:=cLz f b0;have k3:=cLz f O;have kf:Ξ w2 (w+1+1+1) 0:=(by rw[f.frozen (p:=⟨w+1+1+1,0,none⟩) lX];exact j3))
   exact⟨(BW f).trans ((Rg _ _ _).from _),rfl,Y.o,JR _ _ _ k3,(bT q f).setCell ϩ _⟩
 case done=>
  rintro D X hD ⟨j1,m,j3,q⟩ T;have O:=m.cell Aj V3;have Y:ϡ (true=R):=by
   show _=_;rw[<-al.o]
   symm
   rw[lMp]at j1;refine aT.2 (λz hz=>?_);obtain⟨j,hj,rfl⟩:=LT hz;have:=j1 j (by rw[aa.o.1];exact hj);rw[gDe,gEe hj]at this;exact this
  gi_wp2
  have I:(X.setCell ⟨w+1+1+1,0,none⟩ (.bool true)).heap[D]? =some (.deferred (some [])):=(CB _ _ _ _ ϩ).trans T;refine⟨ϥ,.inl ⟨_,_,rfl,RM I,?_⟩⟩;have y3:=CQ (JR _ _ (.bool true) O) I rfl (.deferred none);exact⟨.bool true,(by simp[results,results171,go_sem,y3]),Aa Y.o,CI (q.setCell ϩ _) ϣ I _⟩
 case stop=>
  rintro D c X hD ⟨rfl,hE,O,q⟩ T
  gi_wp2
  refine⟨ϥ,.inl ⟨_,_,rfl,RM T,?_⟩⟩;have y3:=CQ O T rfl (.deferred none);exact⟨.bool false,(by simp[results,results171,go_sem,y3]),Aa hE,CI q ϣ T _⟩
end jn
