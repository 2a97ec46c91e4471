import Derived.Test.YtfkihidbnfkbaaaGreatDoorPv7
import Derived.Test.YtfkihidbnfkbaaaGreatDoorPv12
import Derived.Shelf.GgSortFunc.InsertionK
set_option linter.all false
set_option maxHeartbeats 8000000
set_option maxRecDepth 100000
open Go.ChangeShapes Go.WideShapes Go.ChangeAt Go.RowKit Go.Sort Go.Shelf Go.Maps Go.WideMaps List
open Inhabited renaming default->ϰ
namespace Go.Proofs.YtfkihidbnfkbaaaGreatDoor
open Go.Proofs.Tryz
namespace bf
open vl
attribute [local go_sem] Oper.semAt_some
variable {l : List Ent} {W w w2 : Ϡ} {B C N base base' : Nat} {v : Value} {es : List EM} {hh : Hdr} {lim : Int} {x : BX} {b : Buf}
def EF(P:Ent->Bool)(l:List (List Ent)):List (List Ent):=(l.map (·.filter P)).filter λr=>decide (0<r.length)
def Eg(P:Ent->Bool)(b:Buf):Buf:=⟨b.lim,b.mem.filter P,EF P b.runs⟩
theorem Vk{P:Ent->Bool}{l:List (List Ent)}{k:Nat}(h:k<l.length):EF P (l.take (k+1))=EF P (l.take k)++(if 0<((l.getD k ϰ).filter P).length then [(l.getD k ϰ).filter P]else []):=by
 unfold EF;rw[take_succ_eq_append_getElem h,map_append,filter_append];have e:l.getD k ϰ=l[k]:=by rw[gDe,gEe h];rfl
 rw[e]
 congr 1
 simp only[map_cons,map_nil,filter_cons,filter_nil,decide_eq_true_eq]
theorem AN{α:Type}{l:List α}{d:α}{j:Nat}(h:j<l.length):l.getD j d∈l:=by
 rw[gDe,gEe h];exact getElem_mem h
theorem Ae6:(Tryz.prog.info? 33).map (λi=>(i.zero,i.size,i.bytes))=some (some (vS none 0 0),1,24):=ϧ
structure nbAt(W:World)(B:Nat):Prop where
 n0:Δ W B 0 (vI 0)
 n1:Δ W B 1 (vS none 0 0)
 n2:Δ W B 2 (vS none 0 0)
 o0:Ξ W B 0
 o1:Ξ W B 1
 o2:Ξ W B 2
 ty:Ah W B 36
theorem La(W:Ϡ):nbAt (ϊ W #[Ϗ,ώ,ώ] 36) W.heap.size:=⟨Ϩ,Ϩ,Ϩ,Ϩ,Ϩ,Ϩ,⟨_,_,World.alloc_heap_new W _⟩⟩
theorem MM(h:nbAt W B):nbAt W.drew B:=⟨h.n0,h.n1,h.n2,h.o0,h.o1,h.o2,h.ty⟩
theorem C6{W':Ϡ}(c:ϣ W W')(h:nbAt W B):nbAt W' B:=by
 have e:=AH h.ty;exact⟨cLz c h.n0,cLz c h.n1,cLz c h.n2,(c.frozen (p:=⟨B,0,none⟩) e).trans h.o0,(c.frozen (p:=⟨B,1,none⟩) e).trans h.o1,(c.frozen (p:=⟨B,2,none⟩) e).trans h.o2,Ak h.ty c⟩
theorem NY(h:OE w base v es l)(e:Ah w N 36)(k:Nat)(u:Value):OE (ό w N k u) base v es l:=
 h.other (by simp[World.setCell]) (λg c=>heap_setCell_other _ _ _ _ (by
  rcases c with c|c
  ·exact tyAt_apart c e ϥ
  ·exact tyAt_apart c e ϥ))
theorem Eo(h:OE w base (hdV hh) es l):OB w base ⟨none,0,(hh,es),[]⟩ ⟨lim,l,[]⟩:=
 ⟨h.low,h,World.ownsRow_nil _ _ _ _,rfl,λi c=>absurd c (Nat.not_lt_zero i),pairwise_singleton _ _⟩
theorem Afm(nb:nbAt w2 C)(h:OE w2 base' (hdV hh) es l)(i:base<=base')(f:base<=C):
 KSt (ϊ w2 #[vI lim,hdV hh,ώ] 36) C w2.heap.size base ⟨none,0,(hh,es),[]⟩ ⟨lim,l,[]⟩:=by
 have e:ϣ w2 (ϊ w2 #[vI lim,hdV hh,ώ] 36):=ϯ;have c:=C6 e nb;have j:=AH nb.ty;refine⟨Eo ((h.mono i).below e),?_,?_,?_,?_,⟨_,_,World.alloc_heap_new _ _⟩,c.n0,c.n1,c.n2,c.o0,c.o1,c.o2,c.ty,j,f⟩
 ·unfold hdV;go_simp
 ·unfold hdV;go_simp
 ·unfold hdV;go_simp
 ·unfold hdV;go_simp
theorem Afn(nb:nbAt w2 C)(nn:nbAt w2 N)(h:OE w2 base' (hdV hh) es l)(t:base<=base')(q:base<=C)(r:C<N):
 KSt (ό (ό (ό w2 N 0 (vI lim)) N 1 (hdV hh)) N 2 (vS none 0 0)) C N base ⟨none,0,(hh,es),[]⟩ ⟨lim,l,[]⟩:=by
 obtain⟨D,E,F,G,H,I,e⟩:=nn;obtain⟨u,y,z,j,k,m,A⟩:=nb;have c:(((w2.setCell ⟨N,0,none⟩ (vI lim)).setCell ⟨N,1,none⟩ (hdV hh)).setCell ⟨N,2,none⟩ (vS none 0 0)).heap[C]? =w2.heap[C]? :=by
  rw[heap_setCell_other _ _ _ _ Ϫ,heap_setCell_other _ _ _ _ Ϫ,heap_setCell_other _ _ _ _ Ϫ]
 have f:=Ao e ⟨N,0,none⟩ (vI lim);have i:=Ao f ⟨N,1,none⟩ (hdV hh);refine⟨Eo (NY (NY (NY (h.mono t) e _ _) f _ _) i _ _),?_,?_,?_,?_,Ao i _ _,?_,?_,?_,?_,?_,?_,Aq A c,r,q⟩
 ·go_simp
 ·go_simp
 ·go_simp
 ·go_simp
 ·exact(cOb (a:=⟨C,0,none⟩) c).trans u
 ·exact(cOb (a:=⟨C,1,none⟩) c).trans y
 ·exact(cOb (a:=⟨C,2,none⟩) c).trans z
 ·exact(Bc (p:=⟨C,0,none⟩) c).trans j
 ·exact(Bc (p:=⟨C,1,none⟩) c).trans k
 ·exact(Bc (p:=⟨C,2,none⟩) c).trans m
theorem AdM{j i:Ϡ}{c:Nat}{o:Obj}(h:KSt W C c base x b)(m:ϣ W j)(q:(j.alloc o).grownBy i (Value.slice x.ra x.rs.length x.rc).ownBlock):
 Δ i c 2 (vS x.ra x.rs.length x.rc)/\Ξ i c 2:=by
 have f:=h.below m;have r:=AH f.ty;have k:i.heap[c]? =j.heap[c]? :=by
  rw[q.block c ϩ (λe=>tyAt_apart f.ty (A9 f.ob.hds e.symm) ϥ rfl)];exact Below.heap_alloc _ _ c r
 exact⟨(cOb (a:=⟨c,2,none⟩) k).trans f.c2,(Bc (p:=⟨c,2,none⟩) k).trans f.f2⟩
theorem LR(h:OB w base x b)(c:Ah w N 36)(k:Nat)(u:Value):OB (ό w N k u) base x b:=
 ⟨by simp[World.setCell];exact h.low,NY h.mem c k u,A1 h.hds (λg e=>heap_setCell_other _ _ _ _ (tyAt_apart (A9 h.hds e) c ϥ)),h.rlen,λi f=>NY (h.runs i f) c k u,h.two⟩
theorem MN(h:OB w base x b)(c:Ah w N 36)(u0 u1 u2:Value):OB (ό (ό (ό w N 0 u0) N 1 u1) N 2 u2) base x b:=
 LR (LR (LR h c _ _) (Ao c _ _) _ _) (Ao (Ao c _ _) _ _) _ _
theorem cell_one_new(w:Ϡ)(a:Value)(h:a.oneCell'=true)(t:TypeId):∀j u,[a][j]? =some u->(w.alloc (.cells #[a] t)).cell? ((⟨w,0,none⟩:Addr).add j)=some u:=by
 intro j u c;rw[Dk]
 match j,c with
 |0,c=>simp at c;subst c;simp[go_sem]
 |(n+1),c=>simp at c
theorem NZ{e:TypeId}{s:Nat}{n:Nat}{i:List Value}(h:w.ownsRow base e s v (n+1) i):∃g c,v=vS (ϋ g) (n+1) c:=by
 rcases h.2 with⟨_,f⟩|⟨g,cap,j,rfl,_⟩
 ·exact absurd f Ϥ
 ·exact⟨_,_,rfl⟩
theorem YB(P:Ent->Bool)(l:List (List Ent)):(EF P l).length<=l.length:=by
 unfold EF;have:=length_filter_le (λr:List Ent=>decide (0<r.length)) (l.map (·.filter P));rwa[lMp]at this
theorem Lb(G:FuncId)(eg:∀aw w,(callFunc G aw).run Tryz.prog w= .ok (.enter G aw) w)(K:Array Value)(P:Ent->Bool)(b:Buf)(x:BX)(w:Ϡ)(h:bufAt w b x)(hl:∀l∈partsB b,l.length<=100000)(hr:b.runs.length<=100000)(a9:∀y∈Ab b,y.row.length<=1000000)
 (H:∀e y c,ER c e y->y∈Ab b->ϣ w c->Calls Tryz.prog G (#[e.val]++K) c (ψ c (.bool (P y)))):
 χ 253 #[B5 b x,.func (.func G) #[] K] w λe w'=>(∃X,e= .returned (B5 (Eg P b) X)/\OB w' w X (Eg P b))/\ϣ w w':=by
 obtain⟨i0,az,bb,bc,bd⟩:=info_parts Ae6;have HI:Ϣ (Tryz.prog.info? 33=some i0/\i0.zero=some (vS none 0 0)/\i0.size=1/\i0.bytes=24):=⟨az,bb,bc,bd⟩;clear az bb bc bd;have ak:(partsB b).length=(x.m::x.rs).length:=by simp[partsB,h.rlen]
 have KM:Ϣ (∀i c,i<(x.m::x.rs).length->ϣ w c->CT 281 #[hdV ((x.m::x.rs).getD i ϰ).1,.func (.func G) #[] K] c λe w'=>(∃(hh:Hdr) (D:List EM),e= .returned (hdV hh)/\OE w' c (hdV hh) D (((partsB b).getD i ϰ).filter P))/\ϣ c w'):=λi c hi R=>by
  have a4:(x.m::x.rs).getD i ϰ∈x.m::x.rs:=by rw[gDe,gEe hi];exact getElem_mem hi
  have a6:(partsB b).getD i ϰ∈partsB b:=by
   rw[gDe,gEe (by rw[ak];exact hi)];exact getElem_mem (by rw[ak];exact hi)
  have hE:ERs w ((x.m::x.rs).getD i ϰ).2 ((partsB b).getD i ϰ):=by
   cases i with
   |zero=>exact h.mem
   |succ i=>
    have bm:i<b.runs.length:=by rw[length_cons,h.rlen]at hi;omega
    simpa[partsB]using h.runs i bm
  have ao:=h.len _ a4;have a0:∀y∈(partsB b).getD i ϰ,y∈Ab b:=λy hy=>mem_flatten.2 ⟨_,a6,hy⟩;obtain⟨⟨⟨z1,z2,z3⟩,zl⟩,hz⟩:∃z,(x.m::x.rs).getD i ϰ=z:=⟨_,rfl⟩;have am:=h.ems _ a4;rw[hz]at hE ao am⊢;unfold hdV;dsimp only at hE ao am⊢;have e2:z2=((partsB b).getD i ϰ).length:=by rw[ao.1,hE.1]
  subst e2;refine(We G eg K P z1 z3 zl ((partsB b).getD i ϰ) c (hl _ a6) (Cj am R) (hE.below R) (λy hy=>a9 y (a0 y hy)) (λj w2 hj I=>H _ _ w2 (((hE.below R).below I).2 j hj) (a0 _ (AN hj)) (bT R I))).mono ?_;rintro e w' ⟨⟨v,D,rfl,J⟩,bk⟩;obtain⟨ad,cp,rfl⟩:=J.form;exact⟨⟨(ad,D.length,cp),D,rfl,J⟩,bk⟩
 have HB:=hV0 h;have ar:=h.rlen;clear h H hl a9;obtain⟨r,t,⟨⟨f,m,q⟩,ml⟩,O⟩:=x;obtain⟨lim,au,E⟩:=b;unfold B5;dsimp only at KM HB ar hr⊢;obtain⟨n,hn⟩:∃n,O.length=n:=⟨_,rfl⟩;have HN:Ϣ (O.length=n/\E.length=n):=⟨hn,by rw[<-ar,hn]⟩;have bq:n<=100000:=Ϥ;rw[hn];clear hn ar hr ak;have K0:Ϣ (∀c,ϣ w c->CT 281 #[vS f m q,.func (.func G) #[] K] c λe w'=>(∃(hh:Hdr) (D:List EM),e= .returned (hdV hh)/\OE w' c (hdV hh) D (au.filter P))/\ϣ c w'):=λc R=>KM.o 0 c Ϧ R;have e1:hdV (f,m,q)=vS f m q:=rfl;rw[e1];have V0:Δ (ϊ (ϊ w (τ lim f m q r n t) 36) #[Ϗ,ώ,ώ] 36) w 0 (vI lim):=Ϩ;have V1:Δ (ϊ (ϊ w (τ lim f m q r n t) 36) #[Ϗ,ώ,ώ] 36) w 1 (vS f m q):=Ϩ;have V2:Δ (ϊ (ϊ w (τ lim f m q r n t) 36) #[Ϗ,ώ,ώ] 36) w 2 (vS r n t):=Ϩ;have R0:Δ (ϊ (ϊ w (τ lim f m q r n t) 36) #[Ϗ,ώ,ώ] 36) (w+1) 0 (vI 0):=Ϩ;have R1:Δ (ϊ (ϊ w (τ lim f m q r n t) 36) #[Ϗ,ώ,ώ] 36) (w+1) 1 (vS none 0 0):=Ϩ;have R2:Δ (ϊ (ϊ w (τ lim f m q r n t) 36) #[Ϗ,ώ,ώ] 36) (w+1) 2 (vS none 0 0):=Ϩ;have G0:Ξ (ϊ (ϊ w (τ lim f m q r n t) 36) #[Ϗ,ώ,ώ] 36) (w+1) 0:=Ϩ;have G1:Ξ (ϊ (ϊ w (τ lim f m q r n t) 36) #[Ϗ,ώ,ώ] 36) (w+1) 1:=Ϩ;have G2:Ξ (ϊ (ϊ w (τ lim f m q r n t) 36) #[Ϗ,ώ,ώ] 36) (w+1) 2:=Ϩ;have VT:Ah (ϊ (ϊ w (τ lim f m q r n t) 36) #[Ϗ,ώ,ώ] 36) (w.heap.size+1) 36:=⟨_,_,by
  have h:=World.alloc_heap_new (ϊ w (τ lim f m q r n t) 36) (.cells #[Ϗ,ώ,ώ] 36);rw[World.size_alloc]at h;exact h⟩
 have F:ϣ w (ϊ (ϊ w (τ lim f m q r n t) 36) #[Ϗ,ώ,ώ] 36):=by
  repeat (first|exact bR|(refine Below.alloc ?_ ϫ _))
 have V9:((w.alloc (.cells (τ lim f m q r n t) 36)).alloc (.cells #[Ϗ,ώ,ώ] 36)).heap.size=w.heap.size+1+1:=Ϧ;have al:nbAt (ϊ (ϊ w (τ lim f m q r n t) 36) #[Ϗ,ώ,ώ] 36) (w.heap.size+1):=⟨R0,R1,R2,G0,G1,G2,VT⟩;clear R0 R1 R2 G0 G1 G2 VT;go_enter func253,ntmps253;go_wp2;generalize ((w.alloc (.cells (τ lim f m q r n t) 36)).alloc (.cells #[Ϗ,ώ,ώ] 36))=V at *;refine wp_mono (Q:=Exit.then (λa' W'=> ∃(Z:Nat) (hh:Hdr) (D:List EM),a'={tmps:=#[.agg #[vI lim,vS f m q,vS r n t],.func (.func G) #[] K,.pointer (some ⟨w,0,none⟩),undef,.pointer (some ⟨w+1,0,none⟩),.pointer (some ⟨Z,0,none⟩),undef,undef,undef,.pointer (some ⟨w,0,none⟩),vI lim,.pointer (some ⟨w,1,none⟩),vS f m q,.func (.func G) #[] K,hdV hh,.agg #[vI lim,hdV hh,vS none 0 0],undef,undef,undef,undef,undef,undef,undef,undef,undef,undef,undef,undef,undef,undef,undef,undef,undef,undef,undef,undef,undef],defers:=[]}/\KSt W' (w.heap.size+1) Z w.heap.size ⟨none,0,(hh,D),[]⟩ ⟨lim,au.filter P,[]⟩/\Δ W' w 2 (vS r n t)/\ϣ w W') (λ_ _ _=>False)) ?_ ?_
 ·go_region_law (go_simp;go_at_call 281;refine(K0.o _ (by first|exact F.drew|exact(F.alloc F.size _).drew|exact F|exact F.alloc F.size _|exact F.drew.alloc F.size _)).mono ?_;rintro e w2 ⟨⟨⟨h1,h2,h3⟩,D,rfl,J⟩,I⟩;unfold hdV;dsimp only;have k0:Δ w2 w 0 (vI lim):=cLz I Ϩ;have k2:Δ w2 w 2 (vS r n t):=cLz I Ϩ;have lw:w.heap.size<w2.heap.size:=bLt _ _ k0;first|(obtain⟨n0,n1,n2,o0,o1,o2,n3⟩:=C6 I (MM (La V));rw[V9]at n0 n1 n2 o0 o1 o2 n3)|(obtain⟨n0,n1,n2,o0,o1,o2,n3⟩:=C6 I (La V.drew);rw[show V.drew.heap.size=w.heap.size+1+1 from V9]at n0 n1 n2 o0 o1 o2 n3)|skip)
  all_goals first
   | (have av:nbAt w2 (w.heap.size+1):=C6 I (MM al)
      have ae:ϣ w w2:=F.drew.trans (I.mono (by have:=F.size;exact this));exact⟨w2.heap.size,(h1,h2,h3),D,rfl,Afm av J (by have:=F.size;exact this) (Nat.le_succ _),Ϩ,ae.alloc ae.size _⟩)
   | (have av:nbAt w2 (w.heap.size+1):=C6 I (MM (C6 ϯ al))
      have ax:ϣ w (V.alloc (.cells #[Ϗ,ώ,ώ] 36)).drew:=(F.alloc F.size _).drew;have ae:ϣ w w2:=bT ax I;exact⟨w.heap.size+1+1,(h1,h2,h3),D,rfl,Afn av ⟨n0,n1,n2,o0,o1,o2,n3⟩ J ax.size (Nat.le_succ _) (Nat.lt_succ_self _),Ϩ,((ae.setCell Ϫ _).setCell Ϫ _).setCell Ϫ _⟩)
 ·intro e a' W' hQ
  cases e with
  |normal=>
   obtain⟨Z,hh,D,rfl,A,bp,bj⟩:=hQ;have KR:Ϣ (∀k c,k<n->ϣ w c->CT 281 #[hdV ((O.map (·.1)).getD k (none,0,0)),.func (.func G) #[] K] c λe w'=>(∃(hh:Hdr) (D:List EM),e= .returned (hdV hh)/\OE w' c (hdV hh) D ((E.getD k ϰ).filter P))/\ϣ c w'):=λk c hk R=>by
    have an:k<O.length:=by rw[HN.o.1];exact hk
    have h:=KM.o (k+1) c (by simpa using an) R;have e1:(O.map (·.1)).getD k (none,0,0)=(O.getD k ϰ).1:=by rw[gDe,getElem?_map,gEe an,gDe,gEe an];rfl
    rw[e1];exact h
   have HR:Ϣ (FH w r (O.map (·.1))):=HB.o.hds;have HS:=hV0 A;obtain⟨h1,h2,h3⟩:=hh;unfold hdV;dsimp only;clear KM K0 V0 V1 V2 F V9 al A;go_wp2
   go_loopw [19] (λi wr=> ∃(k:Nat) (X:BX),k<=n/\i=vI k/\KSt wr (w.heap.size+1) Z w.heap.size X ⟨lim,au.filter P,EF P (E.take k)⟩/\ϣ w wr) (λi _=>n - (intOf i).toNat)
   case atStart=>exact⟨0,_,Nat.zero_le _,rfl,HS.o,bj⟩
   case round=>
    obtain⟨k,X,hk,rfl,A,aa⟩:=hrel;have a7:=A.ob.rlen;dsimp only at a7;have a8:X.rs.length<=100000:=by
     have h1:=YB P (E.take k);rw[length_take]at h1;omega
    have c0:=A.c0;have c1:=A.c1;have c2:=A.c2;have r0:=A.r0;have r1:=A.r1;have r2:=A.r2;have g0:=A.g0;have g1:=A.g1;have g2:=A.g2;have br:=A.ne;obtain⟨ah,ai,⟨⟨a1,a2,a3⟩,bo⟩,aj⟩:=X;have ac:=hV0 A;unfold hdV at c1;dsimp only at c0 c1 c2 a8;obtain⟨rn,af⟩:=nM aj.length;have Y:=hV0 af;rw[af]at c2 a8;have bh:Ϣ (wr.ownsRow w 33 1 (vS ah rn ai) rn (aj.map λp=>hdV p.1)):=by
     have h:=A.ob.hds;dsimp only at h;rw[af]at h;exact h
    clear A a7 af;have ba:=aa.size;have lC:w.heap.size+1<wr.heap.size:=bLt _ _ r0;have lN:Z<wr.heap.size:=bLt _ _ c0;by_cases ap:k<n
    ·obtain⟨b,o,e,x1⟩:=HR.o k (by rw[lMp,HN.o.1];exact ap);subst e;have q1:=cLz aa x1;have KQ:Ϣ (CT 281 #[hdV ((O.map (·.1)).getD k (none,0,0)),.func (.func G) #[] K] wr λe w'=>(∃(hh:Hdr) (D:List EM),e= .returned (hdV hh)/\OE w' wr (hdV hh) D ((E.getD k ϰ).filter P))/\ϣ wr w'):=KR.o k wr ap aa;have HF:Ϣ (EF P (E.take (k+1))=EF P (E.take k)++(if 0<((E.getD k ϰ).filter P).length then [(E.getD k ϰ).filter P]else [])):=Vk (by rw[HN.o.2];exact ap);obtain⟨⟨z1,z2,z3⟩,hz⟩:∃z,(O.map (·.1)).getD k (none,0,0)=z:=⟨_,rfl⟩;rw[hz]at q1 KQ;unfold hdV at q1;rw[show hdV (z1,z2,z3)=vS z1 z2 z3 from rfl]at KQ;dsimp only at q1;clear hz x1;have i1:=nn0 k;have i2:(k:Int)<(n:Int):=Ϥ;obtain⟨L,hL⟩:=nM ((E.getD k ϰ).filter P);rw[hL]at KQ HF;clear hL;go_wp2_with fail;refine KQ.o.mono ?_;rintro e c ⟨⟨⟨y1,y2,y3⟩,bi,rfl,J⟩,T⟩;unfold hdV;dsimp only;have bg:=hV0 J;have ag:y2=L.length:=by
      obtain⟨ad,cp,hf⟩:=J.form;unfold hdV at hf;injection hf with _ e2 _
      exact Eq.trans e2 J.len
     clear J;by_cases h0:0<y2
     ·have HE:Ϣ (EF P (E.take (k+1))=EF P (E.take k)++[L]):=by show _=_;rw[HF.o,if_pos (by rw[<-ag];exact h0)]
      clear ag;have d2:=cLz T c2;have bv:Z<c.heap.size:=Nat.lt_of_lt_of_le lN T.size;have be:Ϣ (c.ownsRow w 33 1 (vS ah rn ai) rn (aj.map λp=>hdV p.1)):=own_below bh.o T;have bu:w.heap.size<=c.heap.size:=Nat.le_trans ba T.size;go_wp2_with (at_builtin;refine wpList_append_own _ rfl (.tmp 30) (.tmp 32) 34 rfl w.heap.size 33 i0 (vS none 0 0) 1 24 underlying34 HI.o.1 HI.o.2.1 HI.o.2.2.1 HI.o.2.2.2 rfl ϥ _ _ _ rfl (World.ownsRow.alloc be.o _) ⟨c,0,none⟩ 1 1 [vS y1 y2 y3] rfl rfl (cell_one_new _ _ rfl _) (by intro u hu;simp at hu;rcases hu with rfl;rfl) Ϯ Ϥ ϩ ?_;intro v3 w3 a5 ay bs;have aq:=AdM ac.o T (by dsimp only;rw[Y.o];exact ay);dsimp only at aq;rw[Y.o]at aq;obtain⟨p2,pf⟩:=aq;obtain⟨g3,c3,bn⟩:=NZ a5;subst bn);have ab:=AbY (g:=g3) (cap2:=c3) (p:=((y1,y2,y3),bi)) (l:=L) ac.o T bg.o (by dsimp only;rw[Y.o];exact a5) (by dsimp only;rw[Y.o];exact ay);unfold BX.more Buf.more at ab;dsimp only at ab;rw[Y.o]at ab;go_roundw;exact⟨k+1,_,Ϥ,by go_num,by rw[HE.o];exact ab.1,aa.trans ab.2⟩;simp[intOf];omega
     ·have HE:Ϣ (EF P (E.take (k+1))=EF P (E.take k)):=by show _=_;rw[HF.o,if_neg (by rw[<-ag];exact h0),append_nil]
      clear ag;go_wp2;go_roundw;exact⟨k+1,_,Ϥ,by go_num,by rw[HE.o];exact ac.o.below T,aa.trans (T.mono ba)⟩;simp[intOf];omega
    ·have HT:Ϣ (E.take k=E):=take_of_length_le (by rw[HN.o.2];omega);go_wp2;refine bodyPost_ret (v:=.agg (τ lim a1 a2 a3 ah rn ai)) (by simp[results,results253,go_sem,r0,r1,r2,c0,c1,c2]) rfl ⟨⟨⟨ah,ai,((a1,a2,a3),bo),aj⟩,?_,?_⟩,?_⟩
     ·unfold Eg hdV;dsimp only;rw[Y.o]
     ·have hh:=ac.o.ob;rw[HT.o]at hh;exact MN hh ac.o.rt _ _ _
     ·exact((aa.setCell Ϫ _).setCell Ϫ _).setCell Ϫ _
  |_=>exact hQ.elim
theorem CX(h:OB w base x b)(c:base'<=base):OB w base' x b:=
 ⟨Nat.le_trans c h.low,h.mem.mono c,D7 h.hds c,h.rlen,λi e=>(h.runs i e).mono c,h.two⟩
theorem AdN(h:DK b=0):AA b.lim 1 64=true/\countB b=true/\FM b=true:=by
 unfold DK at h;by_cases c:AA b.lim 1 64=false
 ·rw[if_pos c]at h;cases h
 ·rw[if_neg c]at h;by_cases e:countB b=false
  ·rw[if_pos e]at h;cases h
  ·rw[if_neg e]at h;by_cases f:FM b=false
   ·rw[if_pos f]at h;cases h
   ·exact⟨by simpa using c,by simpa using e,by simpa using f⟩
theorem QZ(h:l∈partsB b):l.length<=(Ab b).length:=by
 unfold Ab;rw[length_flatten];generalize partsB b=p at h
 induction p with
 |nil=>cases h
 |cons x p ih=>
  rw[map_cons,sum_cons];rcases mem_cons.1 h with rfl|h
  ·omega
  ·have:=ih h;omega
theorem AdO(l:List (List Ent))(h:∀r∈l,0<r.length):l.length<=l.flatten.length:=by
 induction l with
 |nil=>simp
 |cons x l ih=>
  rw[flatten_cons,lAp,length_cons];have:=h x (mem_cons_self ..);have:=ih (λr c=>h r (mem_cons_of_mem _ c));omega
structure okB(b:Buf):Prop where
 lim:1<=b.lim/\b.lim<=64
 mem:(b.mem.length:Int)<=b.lim
 all:(Ab b).length<=4096
 fine:∀l∈partsB b,∀y∈l,EH y
 rise:∀l∈partsB b,∀i,i+1<l.length->ltP (l.getD i ϰ) (l.getD (i+1) ϰ)
 full:∀r∈b.runs,0<r.length
 once:((Ab b).map AK).Nodup
theorem Fx(h:DK b=0):okB b:=by
 obtain⟨z,m,f⟩:=AdN h;unfold countB at m;unfold FM at f;simp only[Bool.and_eq_true,decide_eq_true_eq]at m f;have q:=AF.1 f.1;have u:∀l∈partsB b,∀i,i<l.length->Gl l i=true:=λl k i c=>by
  obtain⟨j,t,rfl⟩:=getElem_of_mem k;have:=q j t;have e:(partsB b).getD j ϰ=(partsB b)[j]:=by rw[gDe,gEe t];rfl
  rw[e]at this;exact AF.1 this i c
 refine⟨(Bh _ _ _).1 z,m.1,m.2,λl k y hy=>?_,λl k i c=>?_,λr q=>?_,?_⟩
 ·obtain⟨i,c,rfl⟩:=getElem_of_mem hy;have:=u l k i c;unfold Gl at this;simp only[Bool.and_eq_true]at this;have h:=Md.1 this.1;rw[gDe,gEe c]at h;exact h
 ·have:=u l k (i+1) c;unfold Gl at this;simp only[Bool.and_eq_true,Bool.or_eq_true,decide_eq_true_eq]at this;rcases this.2 with h|h
  ·omega
  ·exact h
 ·obtain⟨i,c,rfl⟩:=getElem_of_mem q;have:=AF.1 f.2.1 i c;have e:b.runs.getD i ϰ=b.runs[i]:=by rw[gDe,gEe c];rfl
  rw[e]at this;simpa using this
 ·have:=f.2.2;unfold Cw at this;exact of_decide_eq_true this
theorem okB.small(h:okB b):(∀l∈partsB b,l.length<=100000)/\b.runs.length<=100000/\∀y∈Ab b,y.row.length<=1000000:=by
 have j:=h.all;refine⟨λl f=>by have:=QZ f;omega,?_,λy hy=>?_⟩
 ·have:=AdO b.runs h.full;have e:(Ab b).length=b.mem.length+b.runs.flatten.length:=by unfold Ab partsB;simp
  omega
 ·obtain⟨l,f,hy⟩:=mem_flatten.1 hy;have c:=(h.fine l f y hy).2.1;unfold Au at c;by_cases i:8<y.row.length
  ·rw[if_pos i]at c;cases c
  ·omega
theorem JN(e:EM)(w:Ϡ):χ 254 #[e.val] w (ψ w (.bool true)):=by
 obtain⟨i,m,k,⟨c,f,h⟩,j⟩:=e;unfold EM.val hdV;dsimp only;go_enter func254,ntmps254;go_wp2;go_ret;refine⟨rfl,?_⟩
 repeat (first|exact bR|(refine Below.alloc ?_ ϫ _))
theorem YC(e:EM)(c:Int)(h:Nat)(w:Ϡ)(k:Δ w h 0 (vI c)):
 χ 347 #[e.val,ω h] w (ψ w (.bool (decide (c<e.time)))):=by
 obtain⟨t,i,z,⟨m,q,r⟩,y⟩:=e;unfold EM.val hdV;dsimp only;have u:h<w.heap.size:=bLt _ _ k;by_cases j:c<i
 ·have f:Ϣ (decide (c<i)=true):=decide_eq_true j;go_enter func347,ntmps347;go_wp2;go_ret;exact⟨Aa (by rw[f.o]),ϯ⟩
 ·have f:Ϣ (decide (c<i)=false):=decide_eq_false j;go_enter func347,ntmps347;go_wp2;go_ret;exact⟨Aa (by rw[f.o]),ϯ⟩
def EV(to:Int)(y:Ent):Bool:=decide (to<y.time)
theorem AdP(b:Buf)(x:BX)(c:Int)(w:Ϡ)(h:bufAt w b x)(hw:∀y∈Ab b,wfE y/\wfP (AK y))(hs:(Ab b).length<=4611686018427387904)(O:DK b=0):
 χ 343 #[B5 b x,vI c] w λe w'=>(∃t,e= .returned (.tuple #[B5 (Eg (EV c) b) t,Ϗ])/\OB w' w t (Eg (EV c) b))/\ϣ w w':=by
 have I:Ϣ (∀f,ϣ w f->CT 100 #[B5 b x] f (ψ f (vI 0))):=λf K=>by
  have:=Bi b x f (Ar h K) hw hs;rwa[O]at this
 have E:=(Fx O).small;have u:Ϣ (∀f,ϣ w f->Δ f (w+1) 0 (vI c)->CT 253 #[B5 b x,.func (.func 347) #[] #[ω (w+1)]] f λe w'=>(∃t,e= .returned (B5 (Eg (EV c) b) t)/\OB w' f t (Eg (EV c) b))/\ϣ f w'):=λf K hc=>
  Lb 347 (enters_of func347 ϧ rfl) #[ω (w+1)] (EV c) b x f (Ar h K) E.1 E.2.1 E.2.2 (λe y w2 ae _ i=>by
   have:=YC e c (w.heap.size+1) w2 (cLz i hc);rw[ae.time]at this;exact this)
 clear h hw hs O E;obtain⟨R,Y⟩:=nM (Eg (EV c) b);rw[Y]at u⊢;clear Y;obtain⟨q,r,⟨⟨j,k,m⟩,ml⟩,T⟩:=x;obtain⟨lim,ag,ai⟩:=b;rw[show B5 ⟨lim,ag,ai⟩ ⟨q,r,((j,k,m),ml),T⟩= .agg #[vI lim,vS j k m,vS q T.length r]from rfl]at I u⊢;obtain⟨n,Z⟩:∃n,T.length=n:=⟨_,rfl⟩;rw[Z]at I u⊢;clear Z;have V:ϣ w (ϊ (ϊ (ϊ w (τ lim j k m q n r) 36) #[vI c] 3) #[Ϗ,ώ,ώ] 36):=by
  repeat (first|exact bR|(refine Below.alloc ?_ ϫ _))
 have J:=La (ϊ (ϊ w (τ lim j k m q n r) 36) #[vI c] 3);rw[World.size_alloc,World.size_alloc]at J;have ab:Ϣ (nbAt (ϊ (ϊ (ϊ w (τ lim j k m q n r) 36) #[vI c] 3) #[Ϗ,ώ,ώ] 36) (w.heap.size+1+1)):=J;clear J;go_enter func343,ntmps343;go_wp2_with (first
  |(go_at_call 100;refine(I.o _ V).mono ?_;rintro e w2 ⟨rfl,i⟩;have L:ϣ w w2:=bT V i;have ah:=C6 i ab.o;have k0:Δ w2 w 0 (vI lim):=cLz i Ϩ;have k1:Δ w2 w 1 (vS j k m):=cLz i Ϩ;have k2:Δ w2 w 2 (vS q n r):=cLz i Ϩ;have k3:Δ w2 (w+1) 0 (vI c):=cLz i Ϩ)
  |(go_at_call 253;refine(u.o _ L k3).mono ?_;rintro e w3 ⟨⟨⟨F,G,⟨⟨z,A,D⟩,aa⟩,H⟩,rfl,af⟩,X⟩;rw[show B5 R ⟨F,G,((z,A,D),aa),H⟩= .agg #[vI R.lim,vS z A D,vS F H.length G]from rfl];have ac:Ϣ (nbAt w3 (w.heap.size+1+1)):=C6 X ah;obtain⟨n0,n1,n2,o0,o1,o2,n3⟩:=ac.o))
 have ad:ϣ w w3:=bT L X;refine bodyPost_ret (v:=.tuple #[.agg #[vI R.lim,vS z A D,vS F H.length G],Ϗ]) (by simp[results,results343,go_sem,n0,n1,n2]) rfl ⟨⟨⟨F,G,((z,A,D),aa),H⟩,rfl,?_⟩,((ad.setCell Ϫ _).setCell Ϫ _).setCell Ϫ _⟩;exact MN (CX af L.size) n3 _ _ _
end bf
namespace jn
open vl
variable {U U' W W' w w' : Ϡ} {B b n o : Nat} {p : pl.Pln} {x : pl.PA}
structure Jn where
 L:bf.Buf
 R:bf.Buf
 lm:Int
 rm:Int
 seq:Int
structure JX where
 l:bf.BX
 r:bf.BX
def joinV(s:Jn)(x:JX):Value:=.agg #[vI s.L.lim,bf.hdV x.l.m.1,vS x.l.ra x.l.rs.length x.l.rc,vI s.R.lim,bf.hdV x.r.m.1,vS x.r.ra x.r.rs.length x.r.rc,vI s.lm,vI s.rm,vI s.seq]
structure joinAt(w:World)(s:Jn)(x:JX):Prop where
 l:bf.bufAt w s.L x.l
 r:bf.bufAt w s.R x.r
theorem joinAt.below{s:Jn}{x:JX}(h:joinAt w s x)(c:ϣ w w'):joinAt w' s x:=⟨bf.Ar h.l c,bf.Ar h.r c⟩
structure wfB(b:bf.Buf):Prop where
 ents:∀y∈bf.Ab b,bf.wfE y/\bf.wfP (bf.AK y)
 size:(bf.Ab b).length<=4611686018427387904
structure wfJ(s:Jn):Prop where
 l:wfB s.L
 r:wfB s.R
 seq:pl.i64 s.seq
def Av(s:Jn)(side:Int):bf.Buf:=if side=2 then s.R else s.L
def Cf(x:JX)(side:Int):bf.BX:=if side=2 then x.r else x.l
def BN(s:Jn)(side:Int):Int:=if side=2 then s.rm else s.lm
theorem wfJ.of{s:Jn}(h:wfJ s)(side:Int):wfB (Av s side):=by
 unfold Av;split
 ·exact h.r
 ·exact h.l
theorem joinAt.of{s:Jn}{x:JX}(h:joinAt w s x)(side:Int):bf.bufAt w (Av s side) (Cf x side):=by
 unfold Av Cf;split
 ·exact h.r
 ·exact h.l
structure Ev where
 kind:Int
 side:Int
 time:Int
 row:List Cel
def evV(v:Ev)(ra:Option Addr)(rc:Nat):Value:=.agg #[vI v.kind,vI v.side,vI v.time,vS ra v.row.length rc]
structure evAt(w:World)(v:Ev)(ra:Option Addr):Prop where
 row:vl.rowAt w ra v.row
 wf:Bq v.row
 len:v.row.length<=ύ
theorem evAt.below{v:Ev}{c:ϡ}(h:evAt w v c)(e:ϣ w w'):evAt w' v c:=⟨vl.Ac h.row e,h.wf,h.len⟩
def noMark:Int:= -1099511627777
def Du(m:Int):Bool:=decide (m=noMark)||tm.Bt m
def Et(s:Jn):Bool:=Du s.lm&&Du s.rm&&bf.AA s.seq 0 1099511627776
def Fy(n:Int)(l:List bf.Ent):Prop:=(∀y∈l,y.seq<n)/\(l.map (·.seq)).Nodup
instance(n:Int)(l:List bf.Ent):Decidable (Fy n l):=by unfold Fy;infer_instance
def J4(s:Jn):Bool:=decide (Fy s.seq (bf.Ab s.L++bf.Ab s.R))
def FT(p:pl.Pln)(side:Int)(y:bf.Ent):Bool:=decide (pl.Bn p side y.row=0)&&pl.hasB p side y.row&&decide (pl.A6 p side y.row=y.key)
def Io(p:pl.Pln)(side:Int)(b:bf.Buf):Bool:=(bf.Ab b).all (FT p side)
def Cx(p:pl.Pln)(s:Jn):Bool:=decide (s.L.lim=p.limit)&&decide (s.R.lim=p.limit)&&J4 s&&Io p 1 s.L&&Io p 2 s.R
noncomputable def Ba(p:pl.Pln)(s:Jn):Int:=
 if pl.Ag p≠0 then pl.Ag p else if bf.DK s.L≠0 then bf.DK s.L else if bf.DK s.R≠0 then bf.DK s.R else if Et s=false then 3 else if Cx p s=false then 1 else 0
def AP(p:pl.Pln)(s:Jn)(v:Ev):Int:=
 if¬(v.kind=1\/v.kind=2)\/pl.B8 v.side=false then 4 else if tm.Bt v.time=false then 3
 else if v.kind=2 then(if 0<v.row.length then 1 else if v.time<BN s v.side then 8 else 0)
 else if pl.Bn p v.side v.row≠0 then pl.Bn p v.side v.row else if v.time<=BN s v.side then 7 else if s.seq=1099511627776\/(bf.Ab (Av s v.side)).length=4096 then 2 else 0
def boxP(U:World)(b:Nat)(p:pl.Pln)(x:pl.PA):Prop:=Ϙ U b (vI p.kind) (vI p.mode) (vI p.low) (vI p.high) (vI p.size) (vI p.limit) (vS x.l p.left.length x.lc) (vS x.r p.right.length x.rc) (vS x.lk p.lkeys.length x.lkc) (vS x.rk p.rkeys.length x.rkc) (.bool p.grouped) (vS x.g p.group.length x.gc) (vS x.a p.aggs.length x.ac)
theorem BQ(w:Ϡ)(p:pl.Pln)(x:pl.PA)(t:TypeId):boxP (ϊ w (Φ p x) t) w.heap.size p x:=by
 unfold boxP;refine⟨?_,?_,?_,?_,?_,?_,?_,?_,?_,?_,?_,?_,?_⟩<;>go_simp
theorem Af(h:boxP U b p x)(c:ϣ U U'):boxP U' b p x:=by
 obtain⟨e,f,m,q,r,t,u,y,z,A,i,j,k⟩:=h;exact⟨cLz c e,cLz c f,cLz c m,cLz c q,cLz c r,cLz c t,cLz c u,cLz c y,cLz c z,cLz c A,cLz c i,cLz c j,cLz c k⟩
theorem MO(h:boxP U b p x):b<U.heap.size:=bLt _ _ h.1
def BZ(U:World)(b:Nat)(s:Jn)(y:JX):Prop:=ϗ U b (vI s.L.lim) (vS y.l.m.1.1 y.l.m.1.2.1 y.l.m.1.2.2) (vS y.l.ra y.l.rs.length y.l.rc) (vI s.R.lim) (vS y.r.m.1.1 y.r.m.1.2.1 y.r.m.1.2.2) (vS y.r.ra y.r.rs.length y.r.rc) (vI s.lm) (vI s.rm) (vI s.seq)
theorem C7(w:Ϡ)(s:Jn)(y:JX)(t:TypeId):BZ (ϊ w #[vI s.L.lim,vS y.l.m.1.1 y.l.m.1.2.1 y.l.m.1.2.2,vS y.l.ra y.l.rs.length y.l.rc,vI s.R.lim,vS y.r.m.1.1 y.r.m.1.2.1 y.r.m.1.2.2,vS y.r.ra y.r.rs.length y.r.rc,vI s.lm,vI s.rm,vI s.seq] t) w.heap.size s y:=by
 unfold BZ;refine⟨?_,?_,?_,?_,?_,?_,?_,?_,?_⟩<;>go_simp
theorem A4{s:Jn}{y:JX}(h:BZ U b s y)(c:ϣ U U'):BZ U' b s y:=by
 obtain⟨e,f,i,j,k,m,q,r,t⟩:=h;exact⟨cLz c e,cLz c f,cLz c i,cLz c j,cLz c k,cLz c m,cLz c q,cLz c r,cLz c t⟩
def noJ(W:World)(B:Nat):Prop:=W.there B 0 9
theorem Ra(w:Ϡ):noJ (ϊ w #[Ϗ,ώ,ώ,Ϗ,ώ,ώ,Ϗ,Ϗ,Ϗ] 38) w.heap.size:=by
 intro j c
 match j,c with
 |0,_=>exact⟨Ϩ,Ϩ⟩
 |1,_=>exact⟨Ϩ,Ϩ⟩
 |2,_=>exact⟨Ϩ,Ϩ⟩
 |3,_=>exact⟨Ϩ,Ϩ⟩
 |4,_=>exact⟨Ϩ,Ϩ⟩
 |5,_=>exact⟨Ϩ,Ϩ⟩
 |6,_=>exact⟨Ϩ,Ϩ⟩
 |7,_=>exact⟨Ϩ,Ϩ⟩
 |8,_=>exact⟨Ϩ,Ϩ⟩
theorem Tx(h:W.there B o n)(c:0<n):B<W.heap.size:=by
 obtain⟨u,e⟩:=Option.isSome_iff_exists.1 (h 0 c).1;exact bLt _ _ e
theorem Ci(h:W.there B o n)(c:ϣ W W'):W'.there B o n:=λj e=>by
 obtain⟨u,f⟩:=Option.isSome_iff_exists.1 (h j e).1;exact⟨by rw[cLz c f];rfl,(c.frozen (p:=⟨B,o+j,none⟩) (bLt _ _ f)).trans (h j e).2⟩
theorem DF(h:noJ W B)(c:ϣ W W'):noJ W' B:=Ci h c
theorem Abw(h:noJ W B):B<W.heap.size:=Tx h ϥ
theorem below_setCells{k B:Nat}{w:Ϡ}(c:k<=B):∀(l:List Value) (o:Nat) (W:Ϡ),Below k w W->Below k w (W.setCells B o l)
 |[],_,_,h=>h
 |v::l,o,W,h=>below_setCells c l (o+1) _ (h.setCell c v)
theorem Lc:(Tryz.prog.info? 38).map (·.size)=some 9:=ϧ
theorem Ie(h:noJ W B){l:List Value}(c:l.length=9):(W.setCells B 0 l).rangeAt B 0 l:=World.rangeAt_setCells_same W B 0 l (by rw[c];exact h)
def jx0:JX:=⟨⟨none,0,((none,0,0),[]),[]⟩,⟨none,0,((none,0,0),[]),[]⟩⟩
def j0:Jn:=⟨⟨0,[],[]⟩,⟨0,[],[]⟩,0,0,0⟩
theorem AY(s:Jn)(y:JX):joinV s y= .agg #[vI s.L.lim,vS y.l.m.1.1 y.l.m.1.2.1 y.l.m.1.2.2,vS y.l.ra y.l.rs.length y.l.rc,vI s.R.lim,vS y.r.m.1.1 y.r.m.1.2.1 y.r.m.1.2.2,vS y.r.ra y.r.rs.length y.r.rc,vI s.lm,vI s.rm,vI s.seq]:=rfl
end jn
def Θ(v:jn.Ev)(a:Option Addr)(c:Nat):Mmz (#[.int .i64 v.kind,.int .i64 v.side,.int .i64 v.time,.slice a v.row.length c]:Array Value):=⟨⟩
def Ψ(s:jn.Jn)(y:jn.JX):Mmz (#[.int .i64 s.L.lim,.slice y.l.m.1.1 y.l.m.1.2.1 y.l.m.1.2.2,.slice y.l.ra y.l.rs.length y.l.rc,.int .i64 s.R.lim,.slice y.r.m.1.1 y.r.m.1.2.1 y.r.m.1.2.2,.slice y.r.ra y.r.rs.length y.r.rc,.int .i64 s.lm,.int .i64 s.rm,.int .i64 s.seq]:Array Value):=⟨⟩
def Γ(s:jn.Jn)(y:jn.JX):Mmz ([.int .i64 s.L.lim,.slice y.l.m.1.1 y.l.m.1.2.1 y.l.m.1.2.2,.slice y.l.ra y.l.rs.length y.l.rc,.int .i64 s.R.lim,.slice y.r.m.1.1 y.r.m.1.2.1 y.r.m.1.2.2,.slice y.r.ra y.r.rs.length y.r.rc,.int .i64 s.lm,.int .i64 s.rm,.int .i64 s.seq]:List Value):=⟨⟩
def ν(s:jn.Jn)(x y:bf.BX)(t:List Value):Mmz (.int .i64 s.L.lim:: .slice x.m.1.1 x.m.1.2.1 x.m.1.2.2:: .slice x.ra x.rs.length x.rc:: .int .i64 s.R.lim:: .slice y.m.1.1 y.m.1.2.1 y.m.1.2.2:: .slice y.ra y.rs.length y.rc:: .int .i64 s.lm:: .int .i64 s.rm:: .int .i64 s.seq::t:List Value):=⟨⟩
def ζ(s:jn.Jn)(x y:bf.BX)(t:List Value):Mmz (List.toArray (.int .i64 s.L.lim:: .slice x.m.1.1 x.m.1.2.1 x.m.1.2.2:: .slice x.ra x.rs.length x.rc:: .int .i64 s.R.lim:: .slice y.m.1.1 y.m.1.2.1 y.m.1.2.2:: .slice y.ra y.rs.length y.rc:: .int .i64 s.lm:: .int .i64 s.rm:: .int .i64 s.seq::t):Array Value):=⟨⟩
def η(p:pl.Pln)(x:pl.PA)(t:List Value):Mmz (.int .i64 p.kind:: .int .i64 p.mode:: .int .i64 p.low:: .int .i64 p.high:: .int .i64 p.size:: .int .i64 p.limit:: .slice x.l p.left.length x.lc:: .slice x.r p.right.length x.rc:: .slice x.lk p.lkeys.length x.lkc:: .slice x.rk p.rkeys.length x.rkc:: .bool p.grouped:: .slice x.g p.group.length x.gc:: .slice x.a p.aggs.length x.ac::t:List Value):=⟨⟩
def θ(p:pl.Pln)(x:pl.PA)(t:List Value):Mmz (List.toArray (.int .i64 p.kind:: .int .i64 p.mode:: .int .i64 p.low:: .int .i64 p.high:: .int .i64 p.size:: .int .i64 p.limit:: .slice x.l p.left.length x.lc:: .slice x.r p.right.length x.rc:: .slice x.lk p.lkeys.length x.lkc:: .slice x.rk p.rkeys.length x.rkc:: .bool p.grouped:: .slice x.g p.group.length x.gc:: .slice x.a p.aggs.length x.ac::t):Array Value):=⟨⟩
namespace jn
variable {P : Program} {md : Region.Mode} {ops : Array Oper} {Q : Exit -> Act -> World -> Prop} {S : World -> Prop} {fuel : Nat} {listed : Array Bool} {a a' : Act} {w : Ϡ} {oi : Oper} {v : Value}
theorem Oa(l:List Value)(c:List Deferred)(i:Nat)(v:Value):(Act.mk l.toArray c).put (some i) v=Act.mk (l.set i v).toArray c:=by simp[Act.put]
theorem takeB(i:Nat)(d:Nat)(f:S w)(h:wpAnyH P md ops Q S fuel (listed.setIfInBounds i true) a' w)
 (m:ops[i]? =some oi:=by exact rfl) (q:(Region.noSelect ops&&(Region.free md ops listed i&&(Region.ready md ops listed).contains i))=true:=by kernel_rfl) (k:oi.dst=some d:=by exact rfl) (r:Region.wanted oi (yielded ops a.tmps)=true:=by exact rfl) (hy:∀w,S w->(execOp a.eval oi).run P w= .ok (.value v) w:=by(intro w' j;(try simp only[boxP,BZ]at j);first|(go_simp;done)|(go_simp;with_reducible rfl))) (ha:a.put (some d) v=a':=by(apply (Oa _ _ _ _).trans;dsimp only[sZ,sSz];try exact rfl))
 (e:∀c a w,Q (.panic c) (a.put oi.dst v) w->Q (.panic c) a w:=by exact λ_ _ _ h=>h):wpAnyH P md ops Q S (fuel+1) listed a w:=gr.PK i (some d) f h m q k r hy ha e
theorem De{j:Act}{e:Oper}{u:Value}(i:Nat)(d:Nat)(k:S w)(h:wpAnyH P md ops Q S fuel ((listed.setIfInBounds i true).setIfInBounds (i+1) true) j w)
 (z:ops[i]? =some oi:=by exact rfl) (D:(Region.noSelect ops&&(Region.free md ops listed i&&(Region.ready md ops listed).contains i))=true:=by kernel_rfl) (t:oi.dst=some d:=by exact rfl) (F:Region.wanted oi (yielded ops a.tmps)=true:=by exact rfl) (hy:∀w,S w->(execOp a.eval oi).run P w= .ok (.value v) w:=by(intro w' f;(try simp only[boxP,BZ]at f);first|(go_simp;done)|(go_simp;with_reducible rfl))) (ha:a.put (some d) v=a':=by(apply (Oa _ _ _ _).trans;dsimp only[sZ,sSz];try exact rfl))
 (A:ops[i+1]? =some e:=by exact rfl) (E:(Region.noSelect ops&&(Region.free md ops (listed.setIfInBounds i true) (i+1)&&(Region.ready md ops (listed.setIfInBounds i true)).contains (i+1)))=true:=by kernel_rfl) (y:e.dst=some (d+1):=by exact rfl) (G:Region.wanted e (yielded ops a'.tmps)=true:=by exact rfl) (H:∀w,S w->(execOp a'.eval e).run P w= .ok (.value u) w:=by(intro w' f;(try simp only[boxP,BZ]at f);first|(go_simp;done)|(go_simp;with_reducible rfl))) (r:a'.put (some (d+1)) u=j:=by(apply (Oa _ _ _ _).trans;dsimp only[sZ,sSz];try exact rfl))
 (m:∀c a w,Q (.panic c) (a.put oi.dst v) w->Q (.panic c) a w:=by exact λ_ _ _ h=>h) (q:∀c a w,Q (.panic c) (a.put e.dst u) w->Q (.panic c) a w:=by exact λ_ _ _ h=>h):wpAnyH P md ops Q S (fuel+1+1) listed a w:=takeB i d k (takeB (i+1) (d+1) k h A E y G H r q) z D t F hy ha m
end jn
namespace jn
open vl
attribute [local go_sem] Oper.semAt_some
variable {U : Ϡ} {b : Nat}
def BV(side:Int):Nat:=if side=2 then 7 else 6
def A8(side:Int):Nat:=if side=2 then 3 else 0
theorem Ob(b:Nat)(side:Int)(w:Ϡ):χ 250 #[ω b,vI side] w λe w'=>e= .returned (.pointer (some ⟨b,BV side,none⟩))/\w'=w:=by
 unfold BV;by_cases h:side=2
 ·subst h;go_enter func250,ntmps250;go_wp2;go_ret;exact⟨rfl,rfl⟩
 ·have c:(side==2)=false:=by simpa using h
  rw[if_neg h];go_enter func250,ntmps250;go_wp2;go_ret;exact⟨rfl,rfl⟩
theorem Rb(b:Nat)(side:Int)(w:Ϡ):χ 252 #[ω b,vI side] w λe w'=>e= .returned (.pointer (some ⟨b,A8 side,none⟩))/\w'=w:=by
 unfold A8;by_cases h:side=2
 ·subst h;go_enter func252,ntmps252;go_wp2;go_ret;exact⟨rfl,rfl⟩
 ·have c:(side==2)=false:=by simpa using h
  rw[if_neg h];go_enter func252,ntmps252;go_wp2;go_ret;exact⟨rfl,rfl⟩
theorem Qd{s:Jn}{y:JX}(h:BZ U b s y)(side:Int):Δ U b (BV side) (vI (BN s side)):=by
 obtain⟨u0,u1,u2,u3,u4,u5,u6,u7,u8⟩:=h;unfold BV BN;split
 ·exact u7
 ·exact u6
def Jm(s:Jn)(v:Ev):Int:=if 0<v.row.length then 1 else if v.time<BN s v.side then 8 else 0
theorem Pq(s:Jn)(y:JX)(v:Ev)(E:ϡ)(F:Nat)(w:Ϡ):
 χ 211 #[joinV s y,evV v E F] w (ψ w (vI (Jm s v))):=by
 obtain⟨R,z⟩:=nM (Jm s v);have f:=hV0 z;rw[z];clear z;unfold Jm at f;have u:Ϣ (∀t,CT 250 #[ω w,vI v.side] t λe w'=>e= .returned (.pointer (some ⟨w,BV v.side,none⟩))/\w'=t):=λt=>Ob _ _ t;have r:Ϣ (∀(U:Ϡ) (b:Nat),BZ U b s y->Δ U b (BV v.side) (vI (BN s v.side))):=λU b h=>Qd h v.side;obtain⟨k,J⟩:=nM (BV v.side);obtain⟨M,I⟩:=nM (BN s v.side);rw[J]at u r;rw[I]at r f;clear J I;rw[AY];unfold evV;obtain⟨L,j,tm,T⟩:=v;dsimp only at *;obtain⟨n,K⟩:=nM T.length;rw[K]at f⊢;clear K;have c:Ϣ (ϣ w (ϊ (ϊ w (Ψ s y) 38) #[vI L,vI j,vI tm,vS E n F] 90)):=ϯ.alloc Ϧ _;have q:=r.o _ _ (A4 (C7 w s y 38) (bR.alloc nR (.cells #[vI L,vI j,vI tm,vS E n F] 90)));clear r;go_enter func211,ntmps211;by_cases G:0<n
 ·have O:(0:Int)<(n:Int):=Ϥ;have m:Ϣ ((1:Int)=R):=by show _=_;rw[<-f.o,if_pos G]
  go_wp2;go_ret;exact⟨Ad m.o,c.o⟩
 ·have O:¬(0:Int)<(n:Int):=Ϥ;rw[if_neg G]at f;by_cases H:tm<M
  ·have m:Ϣ ((8:Int)=R):=by show _=_;rw[<-f.o,if_pos H]
   go_wp2;generalize i:(World.alloc (World.alloc w _) _)=V at q c⊢;have A:Δ V (w+1) 1 (vI j):=by subst i;go_simp
   have D:Δ V (w+1) 2 (vI tm):=by subst i;go_simp
   clear i
   go_region_held3 (λw'=>Δ w' (w+1) 1 (vI j)/\Δ w' (w+1) 2 (vI tm)/\Δ w' w k (vI M)) (first|go_keep|exact⟨A,D,q⟩) (first|(go_at_call 250;refine(u.o _).mono ?_;rintro e w2 ⟨rfl,rfl⟩))
   all_goals
    go_wp2;go_ret;exact⟨Ad m.o,by first|exact c.o|exact c.o.drew⟩
  ·have m:Ϣ ((0:Int)=R):=by show _=_;rw[<-f.o,if_neg H]
   go_wp2;generalize i:(World.alloc (World.alloc w _) _)=V at q c⊢;have A:Δ V (w+1) 1 (vI j):=by subst i;go_simp
   have D:Δ V (w+1) 2 (vI tm):=by subst i;go_simp
   clear i
   go_region_held3 (λw'=>Δ w' (w+1) 1 (vI j)/\Δ w' (w+1) 2 (vI tm)/\Δ w' w k (vI M)) (first|go_keep|exact⟨A,D,q⟩) (first|(go_at_call 250;refine(u.o _).mono ?_;rintro e w2 ⟨rfl,rfl⟩))
   all_goals
    go_wp2;go_ret;exact⟨Ad m.o,by first|exact c.o|exact c.o.drew⟩
theorem Rc{s:Jn}{y:JX}(h:BZ U b s y)(side:Int):Δ U b (A8 side) (vI (Av s side).lim)/\Δ U b (A8 side+1) (vS (Cf y side).m.1.1 (Cf y side).m.1.2.1 (Cf y side).m.1.2.2)/\Δ U b (A8 side+2) (vS (Cf y side).ra (Cf y side).rs.length (Cf y side).rc):=by
 obtain⟨u0,u1,u2,u3,u4,u5,u6,u7,u8⟩:=h;unfold A8 Av Cf;split
 ·exact⟨u3,u4,u5⟩
 ·exact⟨u0,u1,u2⟩
def Hh(p:pl.Pln)(s:Jn)(v:Ev):Int:=if pl.Bn p v.side v.row≠0 then pl.Bn p v.side v.row else if v.time<=BN s v.side then 7 else if s.seq=1099511627776\/(bf.Ab (Av s v.side)).length=4096 then 2 else 0
theorem Re(p:pl.Pln)(x:pl.PA)(s:Jn)(y:JX)(v:Ev)(ra:ϡ)(rc:Nat)(w:Ϡ)(hw:pl.wfPlan p)(hp:pl.planAt w p x)(h:joinAt w s y)(ad:wfJ s)(T:evAt w v ra):
 χ 212 #[pl.Aj p x,joinV s y,evV v ra rc] w (ψ w (vI (Hh p s v))):=by
 have D:=hIz (λ(c:Ϡ) (O:ϣ w c)=>pl.Hx p x v.side ra rc v.row c hw (pl.Ae hp O) (vl.Ac T.row O) T.wf T.len);have A:Ϣ (∀c,CT 250 #[ω (w+1),vI v.side] c λe w'=>e= .returned (.pointer (some ⟨w+1,BV v.side,none⟩))/\w'=c):=λc=>Ob _ _ c;have X:Ϣ (∀c,CT 252 #[ω (w+1),vI v.side] c λe w'=>e= .returned (.pointer (some ⟨w+1,A8 v.side,none⟩))/\w'=c):=λc=>Rb _ _ c;have m:Ϣ (∀c,ϣ w c->CT 232 #[bf.B5 (Av s v.side) (Cf y v.side)] c (ψ c (vI ((bf.Ab (Av s v.side)).length:Nat)))):=λc O=>bf.O3 _ _ c (bf.Ar (h.of v.side) O) (ad.of v.side).size;have K:Ϣ (∀(U:Ϡ) (b:Nat),BZ U b s y->Δ U b (BV v.side) (vI (BN s v.side))):=λU b h=>Qd h v.side;have u:Ϣ (∀(U:Ϡ) (b:Nat),BZ U b s y->Δ U b (A8 v.side) (vI (Av s v.side).lim)/\Δ U b (A8 v.side+1) (vS (Cf y v.side).m.1.1 (Cf y v.side).m.1.2.1 (Cf y v.side).m.1.2.2)/\Δ U b (A8 v.side+2) (vS (Cf y v.side).ra (Cf y v.side).rs.length (Cf y v.side).rc)):=λU b h=>Rc h v.side;obtain⟨R,Y⟩:=nM (Hh p s v);have i:=hV0 Y;rw[Y];clear Y hw hp h ad T;unfold Hh at i;obtain⟨k,hk⟩:=nM (BV v.side);obtain⟨M,hM⟩:=nM (BN s v.side);obtain⟨kb,ac⟩:=nM (A8 v.side);obtain⟨E,hE⟩:=nM (pl.Bn p v.side v.row);obtain⟨q,hq⟩:=nM ((bf.Ab (Av s v.side)).length);obtain⟨bb,aa⟩:=nM (Av s v.side);obtain⟨bx,ab⟩:=nM (Cf y v.side);rw[hk]at A K;rw[hM]at K i;rw[ac]at X u;rw[hE]at D i;rw[hq]at m i;rw[aa,ab]at m u;clear hk hM ac hE hq aa ab;unfold pl.Aj at D⊢;unfold bf.B5 bf.hdV at m;rw[AY];unfold evV;obtain⟨kd,I,tm,ag⟩:=v;dsimp only at *;obtain⟨n,hn⟩:=nM ag.length;rw[hn]at D⊢;clear hn;obtain⟨bl,bm,br⟩:=bb;obtain⟨xa,xc,⟨⟨x1,x2,x3⟩,xl⟩,xs⟩:=bx;dsimp only at *;obtain⟨xn,ae⟩:=nM xs.length;rw[ae]at m u;clear ae;go_enter func212,ntmps212;go_wp2_with fail;generalize F:(World.alloc (World.alloc (World.alloc w _) _) _)=V;have Z:ϣ w V:=by rw[<-F];exact(ϯ.alloc Ϧ _).alloc ϩ _
 have z:Ϣ (BZ V (w+1) s y):=by
  subst F;have:=C7 (ϊ w (Φ p x) 32) s y 38;rw[World.size_alloc]at this;exact A4 this ϯ
 have r:Δ V (w+1+1) 1 (vI I):=by subst F;go_simp
 have t:Δ V (w+1+1) 2 (vI tm):=by subst F;go_simp
 clear F;refine(D.o _ Z).mono ?_;rintro e c ⟨rfl,G⟩;have f:ϣ w c:=bT Z G;replace z:Ϣ (BZ c (w+1) s y):=A4 z.o G;replace r:=cLz G r;replace t:=cLz G t;clear G Z D;by_cases k1:E=0
 rotate_left
 ·have ai:(E !=0)=true:=by simpa using k1
  have j:Ϣ (E=R):=by show _=_;rw[<-i.o,if_pos k1]
  go_wp2;go_ret;exact⟨Ad j.o,f⟩
 subst k1;rw[if_neg ϥ]at i;have J:=K.o _ _ z.o;have HQ:=u.o _ _ z.o;have u8:=z.o.2.2.2.2.2.2.2.2;obtain⟨g0,g1,g2⟩:=HQ;clear K u;by_cases h1:tm<=M
 ·have j:Ϣ ((7:Int)=R):=by show _=_;rw[<-i.o,if_pos h1]
  go_wp2
  go_region_held3 (λw'=>Δ w' (w+1+1) 1 (vI I)/\Δ w' (w+1+1) 2 (vI tm)/\Δ w' (w+1) k (vI M)) (first|go_keep|exact⟨r,t,J⟩) (first|(go_at_call 250;refine(A.o _).mono ?_;rintro e w2 ⟨rfl,rfl⟩))
  all_goals
   go_wp2;go_ret;exact⟨Ad j.o,by first|exact f|exact f.drew⟩
 ·rw[if_neg h1]at i;by_cases L:s.seq=1099511627776
  ·have af:(s.seq==1099511627776)=true:=by simpa using L
   have j:Ϣ ((2:Int)=R):=by show _=_;rw[<-i.o,if_pos (.inl L)]
   go_wp2
   go_region_held3 (λw'=>Δ w' (w+1+1) 1 (vI I)/\Δ w' (w+1+1) 2 (vI tm)/\Δ w' (w+1) k (vI M)) (first|go_keep|exact⟨r,t,J⟩) (first|(go_at_call 250;refine(A.o _).mono ?_;rintro e w2 ⟨rfl,rfl⟩))
   all_goals
    go_wp2;go_ret;exact⟨Ad j.o,by first|exact f|exact f.drew⟩
  ·have af:(s.seq==1099511627776)=false:=by simpa using L
   by_cases h3:q=4096
   ·subst h3;have j:Ϣ ((2:Int)=R):=by show _=_;rw[<-i.o,if_pos (.inr rfl)]
    go_wp2
    go_region_held3 (λw'=>Δ w' (w+1+1) 1 (vI I)/\Δ w' (w+1+1) 2 (vI tm)/\Δ w' (w+1) k (vI M)) (first|go_keep|exact⟨r,t,J⟩) (first|(go_at_call 250;refine(A.o _).mono ?_;rintro e w2 ⟨rfl,rfl⟩))
    all_goals
     go_wp2_with (first
      |(go_at_call 252;refine(X.o _).mono ?_;rintro e w3 ⟨rfl,rfl⟩)
      |(go_at_call 232;refine(m.o _ (by first|exact f|exact f.drew)).mono ?_;rintro e w4 ⟨rfl,H⟩))
     go_ret;exact⟨Ad j.o,by first|exact bT f H|exact f.drew.trans (H.mono f.size)⟩
   ·have ah:((q:Int)==4096)=false:=by rw[beq_eq_false_iff_ne];omega
    have j:Ϣ ((0:Int)=R):=by show _=_;rw[<-i.o,if_neg (λk=>k.elim L h3)]
    go_wp2
    go_region_held3 (λw'=>Δ w' (w+1+1) 1 (vI I)/\Δ w' (w+1+1) 2 (vI tm)/\Δ w' (w+1) k (vI M)) (first|go_keep|exact⟨r,t,J⟩) (first|(go_at_call 250;refine(A.o _).mono ?_;rintro e w2 ⟨rfl,rfl⟩))
    all_goals
     go_wp2_with (first
      |(go_at_call 252;refine(X.o _).mono ?_;rintro e w3 ⟨rfl,rfl⟩)
      |(go_at_call 232;refine(m.o _ (by first|exact f|exact f.drew)).mono ?_;rintro e w4 ⟨rfl,H⟩))
     go_ret;exact⟨Ad j.o,by first|exact bT f H|exact f.drew.trans (H.mono f.size)⟩
end jn
namespace bf
open vl
attribute [local go_sem] Oper.semAt_some
end bf
namespace bf
open vl
variable {w w' : Ϡ}
def M6(w w':World):Prop:=∃q os,w'=grow (w.drewN q) os
theorem M6.refl(w:Ϡ):M6 w w:=⟨0,#[],by simp[World.drewN]⟩
theorem M6.drew(h:M6 w w'):M6 w w'.drew:=by
 obtain⟨q,c,rfl⟩:=h;exact⟨q+1,c,rfl⟩
theorem M6.alloc(h:M6 w w')(o:Obj):M6 w (w'.alloc o):=by
 obtain⟨q,c,rfl⟩:=h;exact⟨q,c.push o,by simp[grow,World.alloc]⟩
attribute [local go_sem ↓] Go.wp_at_zero Go.wp_at_succ
theorem Rf(e f:EM)(w:Ϡ):
 χ 272 #[e.val,f.val] w λr w'=>r= .returned (vI (Fg e.ent f.ent))/\M6 w w':=by
 have c:Ϣ (Bb [Lib.compareBytes e.key.data.toList f.key.data.toList,CU e.time f.time,CU e.seq f.seq]=Fg e.ent f.ent):=JS e.ent f.ent;obtain⟨h,m,j,⟨t,y,A⟩,E⟩:=e;obtain⟨i,q,k,⟨u,z,D⟩,F⟩:=f;rw[<-c.o];clear c;unfold EM.val hdV;dsimp only;go_enter func272,ntmps272;go_wp2
 go_region_held3 (λw'=>ϟ w' w (.string h) (vI m) (vI j) (Ϟ w' (w+1) (.string i) (vI q) (vI k))) (go_keep)
  (first
   |(go_at_call 263;refine(JM _ _ _).mono ?_;rintro e w' ⟨rfl,rfl⟩)
   |(go_at_call 283;refine(JL _ _ _).mono ?_;rintro e w' ⟨rfl,rfl⟩)
   |(go_at_call 293;refine(or3 _ (Lib.compareBytes h.data.toList i.data.toList) (CU m q) (CU j k) _ ?_ ?_ ?_).mono ?_;(go_simp);(go_simp);(go_simp);rintro e w' ⟨rfl,rfl⟩))
 all_goals
  go_wp2;go_ret;refine⟨rfl,?_⟩
  repeat (first|exact M6.refl _|apply M6.drew|(refine M6.alloc ?_ _))
theorem Afo(a b:EM):(decide (Fg a.ent b.ent<0))=decide (ltP a.ent b.ent):=decide_eq_decide.2 Hj
theorem YD{α β:Type}(f:α->β):∀{m n:List β},m.Perm n->∀l:List α,n=l.map f->∃j:List α,j.Perm l/\m=j.map f:=by
 intro m n h
 induction h with
 |nil=>intro l c;exact⟨l,List.Perm.refl _,c⟩
 |cons x _ ih=>
  intro l c
  cases l with
  |nil=>cases c
  |cons a l=>
   rw[map_cons]at c;injection c with k i
   obtain⟨j,u,e⟩:=ih l i;exact⟨a::j,u.cons a,by rw[map_cons,<-k,e]⟩
 |swap x y _=>
  intro l c
  match l,c with
  |a::b::l,c=>
   rw[map_cons,map_cons]at c;injection c with k i
   injection i with i t
   exact⟨b::a::l,List.Perm.swap ..,by rw[map_cons,map_cons,<-k,<-i,<-t]⟩
 |trans _ _ ih1 ih2=>
  intro l c;obtain⟨z,D,q⟩:=ih2 l c;obtain⟨A,E,r⟩:=ih1 z q;exact⟨A,E.trans D,r⟩
end bf
namespace bf
open vl
variable {w : Ϡ} {base cap g n : Nat} {es : List EM} {d : Array EM}
def Ld(e:EM):List Value:=[.string e.key,vI e.time,vI e.seq,hdV e.row,.bool e.met]
theorem Abx(e:EM):(Ld e).length=5:=rfl
theorem Aby(e:EM):∀v∈Ld e,v.oneCell'=true:=by
 intro v c;unfold Ld hdV at c;simp at c;rcases c with rfl|rfl|rfl|rfl|rfl<;>rfl
theorem Rh(l:List EM)(t:Nat)(h:t<l.length * 5):(Aw l)[t]? =some ((Ld (l.getD (t/5) ϰ))[t % 5]!):=by
 obtain⟨f,i,j,k,m⟩:=Mz l (t/5) Ϥ;have q:t % 5=0\/t % 5=1\/t % 5=2\/t % 5=3\/t % 5=4:=Ϥ;rcases q with e|e|e|e|e
 ·have c:t=t/5 * 5:=Ϥ;rw[e];rw[<-c]at f;exact f
 ·have c:t=t/5 * 5+1:=Ϥ;rw[e];rw[<-c]at i;exact i
 ·have c:t=t/5 * 5+2:=Ϥ;rw[e];rw[<-c]at j;exact j
 ·have c:t=t/5 * 5+3:=Ϥ;rw[e];rw[<-c]at k;exact k
 ·have c:t=t/5 * 5+4:=Ϥ;rw[e];rw[<-c]at m;exact m
theorem IE(l:List EM)(i:Nat)(h:i<l.length):l.toArray[i]! =l.getD i ϰ:=by
 rw[getElem!_pos l.toArray i (by simpa using h),gDe,gEe h];rfl
theorem flat_get(l:List EM)(t:Nat)(h:t<l.length * 5):(Aw l)[t]? =some ((flatK Ld 5 l.toArray)[t]!):=by
 rw[get_flatK _ _ _ _ (by simpa using h),IE l (t/5) Ϥ];exact Rh l t h
theorem YE(h:w.ownsRow base 166 5 (vS (ϋ g) es.length cap) es.length (Aw es)):HoldsK Ld 5 w g 0 es.toArray:=by
 intro j e;rw[size_flatK]at e;have i:j<es.length * 5:=by simpa using e
 constructor
 ·have:=World.ownsRow.cells h (g:=g) rfl j _ (flat_get es j i);rw[Dk]at this;exact this
 ·rcases h.2 with⟨c,_⟩|⟨q,k,m,c,r,f,_⟩
  ·cases c
  ·cases c
   simp[World.frozen?,f]
theorem Ri{os:Array Obj}{b:Nat}(c:b<w.heap.size)(f:b≠g):(sortWorldK Ld 5 w g 0 n d os).heap[b]? =w.heap[b]? :=by
 show((w.heap.modify g _)++os)[b]? =_;rw[Array.getElem?_append_left (by rw[Array.size_modify];exact c),Array.getElem?_modify,if_neg (λe=>f e.symm)]
theorem Xd{os:Array Obj}:w.heap.size<=(sortWorldK Ld 5 w g 0 n d os).heap.size:=by
 show _<=((w.heap.modify g _)++os).size;rw[Array.size_append,Array.size_modify];omega
theorem Abz{os:Array Obj}(c:base<=g)(f:base<=w.heap.size):Below base w (sortWorldK Ld 5 w g 0 n d os):=
 ⟨rfl,rfl,rfl,Xd,λk e=>Ri Ϥ Ϥ⟩
theorem Afp{d:List EM}{os:Array Obj}(h:w.ownsRow base 166 5 (vS (ϋ g) es.length cap) es.length (Aw es))(e:d.length=es.length):
 (sortWorldK Ld 5 w g 0 n d.toArray os).ownsRow base 166 5 (vS (ϋ g) es.length cap) es.length (Aw d):=by
 refine⟨by rw[EY,e],?_⟩;rcases h.2 with⟨f,_⟩|⟨A,z,c,f,q,k,i,r,j,D⟩
 ·cases f
 ·cases f
  have u:g<w.heap.size:=(Array.getElem?_eq_some_iff.1 k).1;refine .inr ⟨g,cap,putCells id 0 (flatK Ld 5 d.toArray) c,rfl,q,?_,i,r,by simpa[putCells]using j,?_⟩
  ·show((w.heap.modify g _)++os)[g]? =_;rw[Array.getElem?_append_left (by rw[Array.size_modify];exact u),Array.getElem?_modify,if_pos rfl,k];rfl
  ·apply ext_getElem?;intro t;have E:es.length * 5<=c.size:=by rw[j];exact Nat.mul_le_mul_right _ i
   by_cases m:t<es.length * 5
   ·rw[getElem?_take_of_lt m,flat_get d t (by rw[e];exact m)];have y:t<c.size:=Ϥ;simp only[putCells,Array.getElem?_toList,Array.getElem?_mapIdx,Array.getElem?_eq_getElem y,Option.map_some];rw[if_pos ⟨Nat.zero_le _,by rw[size_flatK];simp;omega⟩];rfl
   ·rw[getElem?_eq_none (by rw[length_take];omega),getElem?_eq_none (by rw[EY,e];omega)]
theorem YF{l:List Ent}{d:List EM}{os:Array Obj}(h:OE w base (vS (ϋ g) es.length cap) es l)(u:d.Perm es):
 ∃y,y.Perm l/\OE (sortWorldK Ld 5 w g 0 n d.toArray os) base (vS (ϋ g) es.length cap) d y:=by
 have t:=u.length_eq;have J:es=(es.zip l).map Prod.fst:=(map_fst_zip (by rw[h.len];exact Nat.le_refl _)).symm;have el:(es.zip l).map Prod.snd=l:=map_snd_zip (by rw[h.len];exact Nat.le_refl _);obtain⟨zs,z,q⟩:=YD Prod.fst u (es.zip l) J;refine⟨zs.map Prod.snd,by have:=z.map Prod.snd;rwa[el]at this,⟨Nat.le_trans h.low Xd,?_,?_,λi c=>?_⟩⟩
 ·rw[t];exact Afp h.own t
 ·rw[q,lMp,lMp]
 ·rw[lMp]at c;have O:zs[i]∈es.zip l:=z.mem_iff.1 (getElem_mem c);obtain⟨j,K,k⟩:=getElem_of_mem O;have m:j<l.length:=by rw[length_zip]at K;omega
  have L:j<es.length:=by rw[h.len];exact m
  rw[getElem_zip]at k;have H:d.getD i ϰ=es.getD j ϰ:=by
   rw[q,gDe,getElem?_map,gEe c,<-k,gDe,gEe L];rfl
  have I:(zs.map Prod.snd).getD i ϰ=l.getD j ϰ:=by
   rw[gDe,getElem?_map,gEe c,<-k,gDe,gEe m];rfl
  rw[H,I];obtain⟨A,D,E,F,G,f⟩:=h.rows j m;refine⟨A,D,E,F,G,A1 f (λb r=>Ri (AL f r).2 (λe=>?_))⟩;exact Jr h.own f ϥ (show(Value.slice (ϋ g) es.length cap).ownBlock=some b by rw[e];rfl) r
end bf
namespace jn
open vl bf
variable {w w' : Ϡ} {M nn : Nat} {l : List Int} {s : Int}
theorem Afq:Keyed Tryz.prog 3:=int_keyed underlying3
def EJ(w:World)(M nn:Nat)(l:List Int):Prop:=∃D:DataW Unit,w.ownsMap Tryz.prog 3 (plainElem (H:=Unit) Tryz.prog 3) M nn D/\∀s,pl.i64 s->D.atKey (.int .i64 s) (.lit (.int .i64 0))= .lit (.int .i64 (l.count s:Nat))
theorem Ty(w:Ϡ):EJ (w.alloc (.map #[] 0)) w.heap.size 0 []:=⟨_,World.ownsMap_made _ _ _ _,λs c=>by simp;rfl⟩
theorem Xe(h:EJ w M nn l):M<w.heap.size:=by
 obtain⟨D,c,_⟩:=h;exact c.lt
theorem LU{c:Option Nat}(h:EJ w M nn l)(i:w.grownBy w' c)(j:some M≠c):EJ w' M nn l:=by
 obtain⟨D,e,f⟩:=h;exact⟨D,e.kept i j,f⟩
theorem Qe(h:EJ w M nn l)(k:w'.heap[M]? =w.heap[M]?):EJ w' M nn l:=by
 obtain⟨D,⟨es,c,j,F,i,e⟩,f⟩:=h;exact⟨D,⟨es,c,k.trans j,F,i,e⟩,f⟩
theorem C8(h:EJ w M nn l)(c:ϣ w w'):EJ w' M nn l:=Qe h (c.block M (Xe h))
theorem wfi(c:pl.i64 s):(Lit.int .i64 s).wf=true:=R8 c
theorem Fz(h:EJ w M nn l)(f:pl.i64 s):(Instr.lookup 298 (.map (some M)) (.int .i64 s) false).run Tryz.prog w= .ok (.int .i64 (l.count s:Nat)) w:=by
 obtain⟨D,i,j⟩:=h;obtain⟨c,q,k,_⟩:=i.lookup_int Afq underlying298 underlying3 (Tryz.zeroValue3 w) (keyOf_int_mk underlying3 (wfi f));have m:=(j s f).symm.trans k;have e:∀a b:Int,(DataW.lit (Lit.int .i64 a):DataW Unit)= .lit (.int .i64 b)->a=b:=λa b h=>(Lit.int.inj (DataW.lit.inj h)).2;rw[q,e _ _ m]
theorem Oc(h:EJ w M nn l)(f:pl.i64 s)(m:nn<maxLen)(z:l.length<9223372036854775807):
 ∃w',(Instr.mapUpdate 298 (.map (some M)) (vI s) (vI ((l.count s:Nat)+1))).run Tryz.prog w= .ok () w'/\EJ w' M (nn+1) (l++[s])/\w.grownBy w' (some M):=by
 obtain⟨D,c,i⟩:=h;have y:=count_le_length (a:=s) (l:=l);obtain⟨w',r,q,j⟩:=c.update Afq underlying298 m (keyOf_int_mk underlying3 (wfi f)) (plainElem_int (H:=Unit) (a:=(l.count s:Nat)+1) underlying3 (R8 ⟨Ϥ,Ϥ⟩));refine⟨w',r,⟨_,q,λt u=>?_⟩,j⟩;by_cases e:t=s
 ·subst e;rw[atKey_put_same c.isMap (Afq.key (keyOf_int_mk underlying3 (wfi f)))];simp[count_append]
 ·rw[atKey_put_other (λk=>e (by injection k)),i t u];have:s≠t:=λk=>e k.symm;simp[count_append,count_singleton,this]
theorem Le(h:EJ w M nn l):∃o:Obj,w.heap[M]? =some o/\o.isCells=false:=by
 obtain⟨D,⟨es,e,c,_⟩,_⟩:=h;exact⟨_,c,rfl⟩
theorem Od(l:List Int)(s:Int):(l++[s]).count s=l.count s+1:=by simp[count_append]
end jn
namespace jn
open vl bf
attribute [local go_sem] Oper.semAt_some
theorem J5(p:pl.Pln)(x:pl.PA)(side:Int)(b:Buf)(y:BX)(w:Ϡ)(hw:pl.wfPlan p)(hp:pl.planAt w p x)(h:bufAt w b y)(ao:∀z∈Ab b,wfE z):
 χ 171 #[pl.Aj p x,vI side,B5 b y] w (ψ w (.bool (Io p side b))):=by
 have HB:=hV0 h;have aa:Ϣ (ERs w (ems (y.m::y.rs)) (Ab b)):=E7 h;have HK:Ϣ (∀(r:List Cel) (n:Nat) (a:ϡ) (c:Nat) (G:Ϡ),n=r.length->ϣ w G->vl.rowAt w a r->Bq r->r.length<=ύ->CT 214 #[pl.Aj p x,vI side,vS a n c] G (ψ G (.tuple #[.string (pl.A6 p side r),.bool (pl.hasB p side r),vI (pl.Bn p side r)]))):=λr n a c G hn hb h1 h2 h3=>by
  subst hn;exact pl.PY p x side a c r G hw (pl.Ae hp hb) (vl.Ac h1 hb) h2 h3
 obtain⟨L,hL⟩:=nM (Ab b);have am:Ϣ (∀z∈L,wfE z):=by rw[<-hL];exact ao
 unfold Io;rw[hL]at aa⊢;clear hL h ao hw hp;obtain⟨R,hR⟩:=nM (L.all (FT p side));have al:=hV0 hR;rw[hR];clear hR;obtain⟨ra,rc,⟨⟨m1,m2,m3⟩,ml⟩,rs⟩:=y;obtain⟨lim,a0,a1⟩:=b;unfold B5 hdV;unfold pl.Aj at HK⊢;dsimp only at aa⊢;obtain⟨n,hn⟩:∃n,rs.length=n:=⟨_,rfl⟩;have HN:=hV0 hn;rw[hn];clear hn;refine(callsIn_wide (n:=0)).1 ?_;refine callsIn_of_wp_marks func171 rfl trivial ?_ rfl;simp only[ntmps171,size_toArray,length_cons,length_nil,Nat.reduceAdd,Nat.reduceSub,Array.replicate_succ,Array.replicate_zero,push_toArray,append_toArray,nil_append,cons_append]
 gi_wp2_with (refine⟨trivial,rfl,?_⟩;gi_at_call 237;refine(callsIn_wide.2 (Jp _ _ _ rfl rfl rfl _)).mono ?_;rintro e w' ⟨rfl,rfl⟩)
 generalize H:(((((w.alloc (.cells (Φ p x) 32)).alloc (.cells #[vI side] 3)).alloc (.cells (τ lim m1 m2 m3 ra n rc) 36)).alloc (.cells #[ϑ] 4)).alloc (.cells (τ lim m1 m2 m3 ra n rc) 36))=V at *;have V0:boxP V w p x:=by
  subst H;unfold boxP;refine⟨?_,?_,?_,?_,?_,?_,?_,?_,?_,?_,?_,?_,?_⟩<;>go_simp
 have V2:Δ V (w+1) 0 (vI side):=by subst H;go_simp
 have V3:Δ V (w+1+1+1) 0 (.bool false):=by subst H;go_simp
 have V4:Ξ V (w+1+1+1) 0:=by subst H;go_simp
 have V5:Δ V (w+1+1+1+1) 0 (vI lim):=by subst H;go_simp
 have V6:Δ V (w+1+1+1+1) 1 (vS m1 m2 m3):=by subst H;go_simp
 have V7:Δ V (w+1+1+1+1) 2 (vS ra n rc):=by subst H;go_simp
 have V8:ϣ w V:=by
  subst H
  repeat (first|exact bR|(refine Below.alloc ?_ ϫ _))
 have V9:V.heap.size=w.heap.size+1+1+1+1+1:=by subst H;simp
 clear H;have ai:=Hm HB.o V8 (w.heap.size+1+1+1+1) Gu V5 V6 (by rw[HN.o];exact V7) Ai (λ_ _=>Ai) (λ_ _ _ _=>trivial) (λ_ _ _ _=>trivial);dsimp only at ai;obtain⟨E,hE⟩:=nM (ems ((((m1,m2,m3):Hdr),ml)::rs));rw[hE]at ai aa;clear hE;refine DD (gf:=276) (lb:=#[.pointer (some ⟨w+1+1+1+1,0,none⟩)]) rfl (enters_of func276 ϧ rfl) ai bR (λx hx=>by obtain⟨p,_,rfl⟩:=mem_map.1 hx;rfl) (λh k=>A0.trans h k) (λW l o o' _ h ho=>A0.put W l o o' h ho)
  (λi X=>(∀j,j<i->FT p side (L.getD j ϰ)=true)/\A0 Gu V X/\Ξ X (w+1+1+1) 0/\ϣ w X) (λc X=>c= .ret/\false=R/\Δ X (w+1+1+1) 0 (.bool false)/\ϣ w X)
  (λi X X' aq F t A=>⟨F.1,F.2.1.grown t (λr e=>(A r e).2),(frozen_kept (F.2.1.cell Ai V3) t (λr e=>(A r e).2)).trans F.2.2.1,D4 F.2.2.2 nR Ϥ t A⟩)
  (λc X X' aq F t A=>⟨F.1,F.2.1,cell_kept F.2.2.1 t (λr e=>(A r e).2),D4 F.2.2.2 nR Ϥ t A⟩)
  ⟨λj hj=>absurd hj (Nat.not_lt_zero j),A0.refl _ _,V4,V8⟩
  (λi a' X=> ∃B,a'={tmps:=#[.agg #[vI p.kind,vI p.mode,vI p.low,vI p.high,vI p.size,vI p.limit,vS x.l p.left.length x.lc,vS x.r p.right.length x.rc,vS x.lk p.lkeys.length x.lkc,vS x.rk p.rkeys.length x.rkc,.bool p.grouped,vS x.g p.group.length x.gc,vS x.a p.aggs.length x.ac],vI side,.agg #[vI lim,vS m1 m2 m3,vS ra n rc],.pointer (some ⟨w,0,none⟩),.pointer (some ⟨w+1,0,none⟩),.pointer (some ⟨w+1+1,0,none⟩),.pointer (some ⟨w+1+1+1,0,none⟩),.pointer (some ⟨B,0,none⟩),undef,undef,undef,.agg #[vI lim,vS m1 m2 m3,vS ra n rc],.func (.func 276) #[] #[.pointer (some ⟨w+1+1+1+1,0,none⟩)],(E.getD i ϰ).val,undef,undef,undef,undef,undef,undef,undef,undef,undef,undef,undef,undef,undef,undef,undef,undef,undef,undef,undef,undef,undef],defers:=[]}/\ϖ X B (.string (E.getD i ϰ).key) (vI (E.getD i ϰ).time) (vI (E.getD i ϰ).seq) (hdV (E.getD i ϰ).row) (.bool (E.getD i ϰ).met))
  (λi a' u X X' aq F t A=>by
   obtain⟨B,h1,h2,h3,h4,h5,h6⟩:=F;exact⟨B,h1,cell_kept h2 t (λr e=>(A r e).2),cell_kept h3 t (λr e=>(A r e).2),cell_kept h4 t (λr e=>(A r e).2),cell_kept h5 t (λr e=>(A r e).2),cell_kept h6 t (λr e=>(A r e).2)⟩) ?assign ?body ?done ?stop
 case assign=>
  intro l' k z X K hx hi T;obtain⟨hk,ap⟩:=List.getElem?_eq_some_iff.1 hx;rw[lMp]at hk;rw[getElem_map]at ap;subst ap;have hd:E.getD k ϰ=E[k]:=by rw[gDe,gEe hk];rfl
  have I:=T;rw[hd]at I;clear T hd hx;obtain⟨⟨Z,et,es,⟨r1,r2,r3⟩,em⟩,hz⟩:∃z,E[k]=z:=⟨_,rfl⟩;rw[hz]at I⊢;unfold EM.val hdV at I⊢;dsimp only at I⊢;obtain⟨j1,m,j3,q⟩:=hi
  gi_wp2
  have lX:w.heap.size+1+1+1<X.heap.size:=bLt _ _ (m.cell Ai V3);exact I _ _ ((KeepsOthers.alloc _ _).from _) (A0.alloc _ _) ⟨j1,m.trans (A0.alloc _ _),Ϩ,q.alloc q.size _⟩ ⟨X.heap.size,rfl,Ϩ,Ϩ,Ϩ,Ϩ,Ϩ⟩
 case body=>
  intro l' i z a' X hx ay az ax ag;obtain⟨j1,m,j3,q⟩:=ax;obtain⟨B,ag,b0,b1,b2,b3,b4⟩:=ag;subst ag;obtain⟨hi,_⟩:=List.getElem?_eq_some_iff.1 hx;rw[lMp]at hi;have aw:=aa.o.1;have ad:=aa.o.2 i Ϥ;have ae:Ϣ (L.getD i ϰ∈L):=by show _∈_;rw[gDe,gEe Ϥ];simp
  have J:Ϣ (∀G,ϣ w G->CT 214 #[pl.Aj p x,vI side,hdV (E.getD i ϰ).row] G (ψ G (.tuple #[.string (pl.A6 p side (L.getD i ϰ).row),.bool (pl.hasB p side (L.getD i ϰ).row),vI (pl.Bn p side (L.getD i ϰ).row)]))):=λG hb=>HK.o (L.getD i ϰ).row _ _ _ G ad.len hb ad.row (am.o _ ae.o).row (am.o _ ae.o).len;have ac:Ϣ ((E.getD i ϰ).key=(L.getD i ϰ).key):=ad.key;obtain⟨kb,aj⟩:=nM (pl.A6 p side (L.getD i ϰ).row);obtain⟨an,ah⟩:=nM (pl.hasB p side (L.getD i ϰ).row);obtain⟨re,ak⟩:=nM (pl.Bn p side (L.getD i ϰ).row);have ab:Ϣ (FT p side (L.getD i ϰ)=(decide (re=0)&&an&&decide (kb=(L.getD i ϰ).key))):=by
   show _=_;unfold FT;rw[aj,ah,ak]
  rw[aj,ah,ak]at J;clear aj ah ak;obtain⟨⟨Z,et,es,⟨r1,r2,r3⟩,em⟩,hz⟩:∃z,E.getD i ϰ=z:=⟨_,rfl⟩;rw[hz]at J b0 b1 b2 b3 b4 ac⊢;unfold hdV at J b3;dsimp only at J b0 b1 b2 b3 b4 ac;rw[<-ac.o]at ab;have O:=m.cell Ai V3;have c2:=m.cell Ai V2;have c0:boxP X w p x:=by
   obtain⟨v0,v1,v2,v3,v4,v5,v6,v7,v8,v9,ar,au,av⟩:=V0;exact⟨m.cell Ai v0,m.cell Ai v1,m.cell Ai v2,m.cell Ai v3,m.cell Ai v4,m.cell Ai v5,m.cell Ai v6,m.cell Ai v7,m.cell Ai v8,m.cell Ai v9,m.cell Ai ar,m.cell Ai au,m.cell Ai av⟩
  obtain⟨v0,v1,v2,v3,v4,v5,v6,v7,v8,v9,ar,au,av⟩:=c0;have lX:w.heap.size+1+1+1<X.heap.size:=bLt _ _ O;have af:Ϣ (FT p side (L.getD i ϰ)=false->false=R):=λhb=>by
   rw[<-al.o]
   symm
   rw[all_eq_false];exact⟨_,ae.o,by rw[hb];decide⟩
  clear hz ad aw hx ac;by_cases h1:re=0
  ·subst h1
   cases an with
   |true=>
    by_cases t1:kb.toList=Z.toList
    ·have hY:Ϣ (FT p side (L.getD i ϰ)=true):=by
      show _=_;rw[ab.o];have e1:kb=Z:=by have:=bytes_beq kb Z;rw[t1]at this;simpa using this.symm
      simp[e1]
     gi_wp2_with (refine⟨trivial,rfl,?_⟩;gi_at_call 214;refine(CallsIn.inRound l' (callsIn_wide.2 (J.o _ q))).mono ?_;rintro e w2 ⟨rfl,f⟩;have k0:=cLz f b0)
     exact⟨Ca f,bf.C2 f nR,λj hj=>by
      rcases Nat.lt_succ_iff_lt_or_eq.1 hj with h|h
      ·exact j1 j h
      ·rw[h];exact hY.o,m.trans (bf.C2 f nR),by rw[f.frozen (p:=⟨w+1+1+1,0,none⟩) lX];exact j3,bT q f⟩
    ·have Y:Ϣ (false=R):=af.o (by
      rw[ab.o];have e1:kb≠Z:=λe=>t1 (by rw[e]);simp[e1])
     have t2:(kb.toList==Z.toList)=false:=by simpa using t1
     have t3:(kb.toList !=Z.toList)=true:=by simpa using t1
     gi_wp2_with (refine⟨trivial,rfl,?_⟩;gi_at_call 214;refine(CallsIn.inRound l' (callsIn_wide.2 (J.o _ q))).mono ?_;rintro e w2 ⟨rfl,f⟩;have k0:=cLz f b0;have k3:=cLz f O;have kf:Ξ w2 (w+1+1+1) 0:=(by rw[f.frozen (p:=⟨w+1+1+1,0,none⟩) lX];exact j3))
     exact⟨(Ca f).trans ((KeepsOthers.setCell _ _ _).from _),rfl,Y.o,World.cell?_setCell_same _ _ _ k3,(bT q f).setCell Ϫ _⟩
   |false=>
    have Y:Ϣ (false=R):=af.o (by rw[ab.o];simp)
    gi_wp2_with (refine⟨trivial,rfl,?_⟩;gi_at_call 214;refine(CallsIn.inRound l' (callsIn_wide.2 (J.o _ q))).mono ?_;rintro e w2 ⟨rfl,f⟩;have k0:=cLz f b0;have k3:=cLz f O;have kf:Ξ w2 (w+1+1+1) 0:=(by rw[f.frozen (p:=⟨w+1+1+1,0,none⟩) lX];exact j3))
    exact⟨(Ca f).trans ((KeepsOthers.setCell _ _ _).from _),rfl,Y.o,World.cell?_setCell_same _ _ _ k3,(bT q f).setCell Ϫ _⟩
  ·have Y:Ϣ (false=R):=af.o (by rw[ab.o];simp[h1]);have h2:(re !=0)=true:=by simpa using h1
   gi_wp2_with (refine⟨trivial,rfl,?_⟩;gi_at_call 214;refine(CallsIn.inRound l' (callsIn_wide.2 (J.o _ q))).mono ?_;rintro e w2 ⟨rfl,f⟩;have k0:=cLz f b0;have k3:=cLz f O;have kf:Ξ w2 (w+1+1+1) 0:=(by rw[f.frozen (p:=⟨w+1+1+1,0,none⟩) lX];exact j3))
   exact⟨(Ca f).trans ((KeepsOthers.setCell _ _ _).from _),rfl,Y.o,World.cell?_setCell_same _ _ _ k3,(bT q f).setCell Ϫ _⟩
 case done=>
  rintro D X hD ⟨j1,m,j3,q⟩ T;have O:=m.cell Ai V3;have Y:Ϣ (true=R):=by
   show _=_;rw[<-al.o]
   symm
   rw[lMp]at j1;refine all_eq_true.2 (λz hz=>?_);obtain⟨j,hj,rfl⟩:=getElem_of_mem hz;have:=j1 j (by rw[aa.o.1];exact hj);rw[gDe,gEe hj]at this;exact this
  gi_wp2
  have I:(X.setCell ⟨w+1+1+1,0,none⟩ (.bool true)).heap[D]? =some (.deferred (some [])):=(heap_setCell_other _ _ _ _ Ϫ).trans T;refine⟨Ϧ,.inl ⟨_,_,rfl,run_takeDeferred I,?_⟩⟩;have y3:=CZ (World.cell?_setCell_same _ _ (.bool true) O) I rfl (.deferred none);exact⟨.bool true,(by simp[results,results171,go_sem,y3]),Aa Y.o,CY (q.setCell Ϫ _) Ϥ I _⟩
 case stop=>
  rintro D c X hD ⟨rfl,hE,O,q⟩ T
  gi_wp2
  refine⟨Ϧ,.inl ⟨_,_,rfl,run_takeDeferred T,?_⟩⟩;have y3:=CZ O T rfl (.deferred none);exact⟨.bool false,(by simp[results,results171,go_sem,y3]),Aa hE,CY q Ϥ T _⟩
end jn
end Go.Proofs.YtfkihidbnfkbaaaGreatDoor
