import Derived.Test.YtdohnkkbkfhphaaGreatPc10
set_option linter.all false
set_option maxHeartbeats 8000000
namespace Go.Proofs.YtdohnkkbkfhphaaGreat
open Go.Proofs.Tryz
namespace bf
open Go.ChangeShapes Go.WideShapes Go.ChangeAt Go.RowKit
open vl
attribute [local go_sem] Oper.semAt_some
variable {l : List Ent} {W w w2 : World} {B C N base base' : Nat} {v : Value} {es : List EM} {hh : Hdr} {lim : Int} {x : BX} {b : Buf}
def Dp(P:Ent->Bool)(l:List (List Ent)):List (List Ent):=(l.map (·.filter P)).filter fun r=>decide (0<r.length)
def C1(P:Ent->Bool)(b:Buf):Buf:=⟨b.lim,b.mem.filter P,Dp P b.runs⟩
theorem PW{P:Ent->Bool}{l:List (List Ent)}{k:Nat}(h:k<l.length):Dp P (l.take (k+1))=Dp P (l.take k)++(if 0<((l.getD k default).filter P).length then [(l.getD k default).filter P]else []):=by
 unfold Dp
 rw[List.take_succ_eq_append_getElem h,List.map_append,List.filter_append]
 have e:l.getD k default=l[k]:=by rw[gDe,gEe h];rfl
 rw[e]
 congr 1
 simp only[List.map_cons,List.map_nil,List.filter_cons,List.filter_nil,decide_eq_true_eq]
theorem A1{α:Type}{l:List α}{d:α}{j:Nat}(h:j<l.length):l.getD j d∈l:=by
 rw[gDe,gEe h];exact List.getElem_mem h
theorem Yb:(Tryz.prog.info? 26).map (fun i=>(i.zero,i.size,i.bytes))=some (some (.slice none 0 0),1,24):=by kernel_rfl
structure nbAt(W:World)(B:Nat):Prop where
 n0:W.cell? ⟨B,0,none⟩=some (.int .i64 0)
 n1:W.cell? ⟨B,1,none⟩=some (.slice none 0 0)
 n2:W.cell? ⟨B,2,none⟩=some (.slice none 0 0)
 o0:W.frozen? ⟨B,0,none⟩=false
 o1:W.frozen? ⟨B,1,none⟩=false
 o2:W.frozen? ⟨B,2,none⟩=false
 ty:Ar W B 29
theorem Ht(W:World):nbAt (W.alloc (.cells #[.int .i64 0,.slice none 0 0,.slice none 0 0] 29)) W.heap.size:=⟨by go_simp,by go_simp,by go_simp,by go_simp,by go_simp,by go_simp,⟨_,_,World.alloc_heap_new W _⟩⟩
theorem J9(h:nbAt W B):nbAt W.drew B:=⟨h.n0,h.n1,h.n2,h.o0,h.o1,h.o2,h.ty⟩
theorem BN{W':World}(hb:Bwz W W')(h:nbAt W B):nbAt W' B:=by
 have l1:=AY h.ty
 exact⟨cLz hb h.n0,cLz hb h.n1,cLz hb h.n2,(hb.frozen (p:=⟨B,0,none⟩) l1).trans h.o0,(hb.frozen (p:=⟨B,1,none⟩) l1).trans h.o1,(hb.frozen (p:=⟨B,2,none⟩) l1).trans h.o2,Ah h.ty hb⟩
theorem Ke(h:OE w base v es l)(hN:Ar w N 29)(k:Nat)(u:Value):OE (w.setCell ⟨N,k,none⟩ u) base v es l:=
 h.other (by simp[World.setCell]) (fun g hg=>heap_setCell_other _ _ _ _ (by
  rcases hg with hg|hg
  ·exact tyAt_apart hg hN (by decide)
  ·exact tyAt_apart hg hN (by decide)))
theorem Ch(h:OE w base (hdV hh) es l):OB w base ⟨none,0,(hh,es),[]⟩ ⟨lim,l,[]⟩:=
 ⟨h.low,h,World.ownsRow_nil _ _ _ _,rfl,fun i hi=>absurd hi (Nat.not_lt_zero i),List.pairwise_singleton _ _⟩
theorem Yy(nb:nbAt w2 C)(h:OE w2 base' (hdV hh) es l)(hb:base<=base')(hC:base<=C):
 KSt (w2.alloc (.cells #[.int .i64 lim,hdV hh,.slice none 0 0] 29)) C w2.heap.size base ⟨none,0,(hh,es),[]⟩ ⟨lim,l,[]⟩:=by
 have hbA:Bwz w2 (w2.alloc (.cells #[.int .i64 lim,hdV hh,.slice none 0 0] 29)):=bR.alloc nR _
 have nb2:=BN hbA nb
 have hlt:=AY nb.ty
 refine⟨Ch ((h.mono hb).below hbA),?_,?_,?_,?_,⟨_,_,World.alloc_heap_new _ _⟩,nb2.n0,nb2.n1,nb2.n2,nb2.o0,nb2.o1,nb2.o2,nb2.ty,hlt,hC⟩
 ·unfold hdV;go_simp
 ·unfold hdV;go_simp
 ·unfold hdV;go_simp
 ·unfold hdV;go_simp
theorem Yz(nb:nbAt w2 C)(nn:nbAt w2 N)(h:OE w2 base' (hdV hh) es l)(hb:base<=base')(hC:base<=C)(hN:C<N):
 KSt (((w2.setCell ⟨N,0,none⟩ (.int .i64 lim)).setCell ⟨N,1,none⟩ (hdV hh)).setCell ⟨N,2,none⟩ (.slice none 0 0)) C N base ⟨none,0,(hh,es),[]⟩ ⟨lim,l,[]⟩:=by
 obtain⟨n0,n1,n2,o0,o1,o2,ty⟩:=nn
 obtain⟨r0,r1,r2,g0,g1,g2,rt⟩:=nb
 have eC:(((w2.setCell ⟨N,0,none⟩ (.int .i64 lim)).setCell ⟨N,1,none⟩ (hdV hh)).setCell ⟨N,2,none⟩ (.slice none 0 0)).heap[C]? =w2.heap[C]? :=by
  rw[heap_setCell_other _ _ _ _ (by dsimp only;omega),heap_setCell_other _ _ _ _ (by dsimp only;omega),heap_setCell_other _ _ _ _ (by dsimp only;omega)]
 have y0:=AM ty ⟨N,0,none⟩ (.int .i64 lim)
 have y1:=AM y0 ⟨N,1,none⟩ (hdV hh)
 refine⟨Ch (Ke (Ke (Ke (h.mono hb) ty _ _) y0 _ _) y1 _ _),?_,?_,?_,?_,AM y1 _ _,?_,?_,?_,?_,?_,?_,AH rt eC,hN,hC⟩
 ·go_simp
 ·go_simp
 ·go_simp
 ·go_simp
 ·exact(cOb (a:=⟨C,0,none⟩) eC).trans r0
 ·exact(cOb (a:=⟨C,1,none⟩) eC).trans r1
 ·exact(cOb (a:=⟨C,2,none⟩) eC).trans r2
 ·exact(AC (p:=⟨C,0,none⟩) eC).trans g0
 ·exact(AC (p:=⟨C,1,none⟩) eC).trans g1
 ·exact(AC (p:=⟨C,2,none⟩) eC).trans g2
theorem WJ{W1 W2:World}{NB:Nat}{o:Obj}(h:KSt W C NB base x b)(hb1:Bwz W W1)(hg2:(W1.alloc o).grownBy W2 (Value.slice x.ra x.rs.length x.rc).ownBlock):
 W2.cell? ⟨NB,2,none⟩=some (.slice x.ra x.rs.length x.rc)/\W2.frozen? ⟨NB,2,none⟩=false:=by
 have h1:=h.below hb1
 have hlt:=AY h1.ty
 have eN:W2.heap[NB]? =W1.heap[NB]? :=by
  rw[hg2.block NB (by simp;omega) (fun e=>tyAt_apart h1.ty (A8 h1.ob.hds e.symm) (by decide) rfl)]
  exact Below.heap_alloc _ _ NB hlt
 exact⟨(cOb (a:=⟨NB,2,none⟩) eN).trans h1.c2,(AC (p:=⟨NB,2,none⟩) eN).trans h1.f2⟩
theorem IF(h:OB w base x b)(hN:Ar w N 29)(k:Nat)(u:Value):OB (w.setCell ⟨N,k,none⟩ u) base x b:=
 ⟨by simp[World.setCell];exact h.low,Ke h.mem hN k u,A0 h.hds (fun g hg=>heap_setCell_other _ _ _ _ (tyAt_apart (A8 h.hds hg) hN (by decide))),h.rlen,fun i hi=>Ke (h.runs i hi) hN k u,h.two⟩
theorem JA(h:OB w base x b)(hN:Ar w N 29)(u0 u1 u2:Value):OB (((w.setCell ⟨N,0,none⟩ u0).setCell ⟨N,1,none⟩ u1).setCell ⟨N,2,none⟩ u2) base x b:=
 IF (IF (IF h hN _ _) (AM hN _ _) _ _) (AM (AM hN _ _) _ _) _ _
theorem cell_one_new(w:World)(a:Value)(h:a.oneCell'=true)(t:TypeId):∀j u,[a][j]? =some u->(w.alloc (.cells #[a] t)).cell? ((⟨w.heap.size,0,none⟩:Addr).add j)=some u:=by
 intro j u hu
 rw[Cl]
 match j,hu with
 |0,hu=>simp at hu;subst hu;simp[go_sem]
 |(n+1),hu=>simp at hu
theorem Kf{e:TypeId}{s:Nat}{n:Nat}{xs:List Value}(h:w.ownsRow base e s v (n+1) xs):∃g c,v= .slice (some ⟨g,0,none⟩) (n+1) c:=by
 rcases h.2 with⟨_,h0⟩|⟨g,cap,cur,rfl,_⟩
 ·exact absurd h0 (by omega)
 ·exact⟨_,_,rfl⟩
theorem S4(P:Ent->Bool)(l:List (List Ent)):(Dp P l).length<=l.length:=by
 unfold Dp
 have:=List.length_filter_le (fun r:List Ent=>decide (0<r.length)) (l.map (·.filter P))
 rwa[lMp]at this
theorem FI(fn:FuncId)(eg:∀args w,(callFunc fn args).run Tryz.prog w= .ok (.enter fn args) w)(caps:Array Value)(P:Ent->Bool)(b:Buf)(x:BX)(w:World)(h:bufAt w b x)(hl:∀l∈partsB b,l.length<=100000)(hr:b.runs.length<=100000)(hrow:∀y∈Ab b,y.row.length<=1000000)
 (H:∀e y w1,ER w1 e y->y∈Ab b->Bwz w w1->Calls Tryz.prog fn (#[e.val]++caps) w1 fun r w'=>r= .returned (.bool (P y))/\Bwz w1 w'):
 Calls Tryz.prog 145 #[AN b x,.func (.func fn) #[] caps] w fun e w'=>(∃x',e= .returned (AN (C1 P b) x')/\OB w' w.heap.size x' (C1 P b))/\Bwz w w':=by
 obtain⟨i0,hi0,hz0,hz1,hz2⟩:=info_parts Yb
 have HI:Hid (Tryz.prog.info? 26=some i0/\i0.zero=some (.slice none 0 0)/\i0.size=1/\i0.bytes=24):=⟨hi0,hz0,hz1,hz2⟩
 clear hi0 hz0 hz1 hz2
 have HPL:(partsB b).length=(x.m::x.rs).length:=by simp[partsB,h.rlen]
 have KM:Hid (∀i w1,i<(x.m::x.rs).length->Bwz w w1->CTz 189 #[hdV ((x.m::x.rs).getD i default).1,.func (.func fn) #[] caps] w1 fun e w'=>(∃(hh:Hdr) (es':List EM),e= .returned (hdV hh)/\OE w' w1.heap.size (hdV hh) es' (((partsB b).getD i default).filter P))/\Bwz w1 w'):=fun i w1 hi hb=>by
  have hmem:(x.m::x.rs).getD i default∈x.m::x.rs:=by rw[gDe,gEe hi];exact List.getElem_mem hi
  have hpm:(partsB b).getD i default∈partsB b:=by
   rw[gDe,gEe (by rw[HPL];exact hi)]
   exact List.getElem_mem (by rw[HPL];exact hi)
  have hE:ERs w ((x.m::x.rs).getD i default).2 ((partsB b).getD i default):=by
   cases i with
   |zero=>exact h.mem
   |succ i=>
    have hi':i<b.runs.length:=by rw[List.length_cons,h.rlen]at hi;omega
    simpa[partsB]using h.runs i hi'
  have hln:=h.len _ hmem
  have hin:∀y∈(partsB b).getD i default,y∈Ab b:=fun y hy=>List.mem_flatten.2 ⟨_,hpm,hy⟩
  obtain⟨⟨⟨z1,z2,z3⟩,zl⟩,hz⟩:∃z,(x.m::x.rs).getD i default=z:=⟨_,rfl⟩
  have hem:=h.ems _ hmem
  rw[hz]at hE hln hem⊢
  unfold hdV
  dsimp only at hE hln hem⊢
  have e2:z2=((partsB b).getD i default).length:=by rw[hln.1,hE.1]
  subst e2
  refine(Rl fn eg caps P z1 z3 zl ((partsB b).getD i default) w1 (hl _ hpm) (Bk hem hb) (hE.below hb) (fun y hy=>hrow y (hin y hy)) (fun j w2 hj hb2=>H _ _ w2 (((hE.below hb).below hb2).2 j hj) (hin _ (A1 hj)) (hb.trans (hb2.mono hb.size)))).mono ?_
  rintro e w' ⟨⟨v,es',rfl,hoe⟩,hbb⟩
  obtain⟨ad,cp,rfl⟩:=hoe.form
  exact⟨⟨(ad,es'.length,cp),es',rfl,hoe⟩,hbb⟩
 have HB:Hid (bufAt w b x):=h
 have hnr:=h.rlen
 clear h H hl hrow
 obtain⟨ra,rc,⟨⟨m1,m2,m3⟩,ml⟩,rs⟩:=x
 obtain⟨lim,mem,runs⟩:=b
 unfold AN
 dsimp only at KM HB hnr hr⊢
 obtain⟨n,hn⟩:∃n,rs.length=n:=⟨_,rfl⟩
 have HN:Hid (rs.length=n/\runs.length=n):=⟨hn,by rw[<-hnr,hn]⟩
 have hn9:n<=100000:=by omega
 rw[hn]
 clear hn hnr hr HPL
 have K0:Hid (∀w1,Bwz w w1->CTz 189 #[.slice m1 m2 m3,.func (.func fn) #[] caps] w1 fun e w'=>(∃(hh:Hdr) (es':List EM),e= .returned (hdV hh)/\OE w' w1.heap.size (hdV hh) es' (mem.filter P))/\Bwz w1 w'):=fun w1 hb=>KM.out 0 w1 (by simp) hb
 have e1:hdV (m1,m2,m3)= .slice m1 m2 m3:=rfl
 rw[e1]
 have V0:((w.alloc (.cells #[.int .i64 lim,.slice m1 m2 m3,.slice ra n rc] 29)).alloc (.cells #[.int .i64 0,.slice none 0 0,.slice none 0 0] 29)).cell? ⟨w.heap.size,0,none⟩=some (.int .i64 lim):=by go_simp
 have V1:((w.alloc (.cells #[.int .i64 lim,.slice m1 m2 m3,.slice ra n rc] 29)).alloc (.cells #[.int .i64 0,.slice none 0 0,.slice none 0 0] 29)).cell? ⟨w.heap.size,1,none⟩=some (.slice m1 m2 m3):=by go_simp
 have V2:((w.alloc (.cells #[.int .i64 lim,.slice m1 m2 m3,.slice ra n rc] 29)).alloc (.cells #[.int .i64 0,.slice none 0 0,.slice none 0 0] 29)).cell? ⟨w.heap.size,2,none⟩=some (.slice ra n rc):=by go_simp
 have R0:((w.alloc (.cells #[.int .i64 lim,.slice m1 m2 m3,.slice ra n rc] 29)).alloc (.cells #[.int .i64 0,.slice none 0 0,.slice none 0 0] 29)).cell? ⟨w.heap.size+1,0,none⟩=some (.int .i64 0):=by go_simp
 have R1:((w.alloc (.cells #[.int .i64 lim,.slice m1 m2 m3,.slice ra n rc] 29)).alloc (.cells #[.int .i64 0,.slice none 0 0,.slice none 0 0] 29)).cell? ⟨w.heap.size+1,1,none⟩=some (.slice none 0 0):=by go_simp
 have R2:((w.alloc (.cells #[.int .i64 lim,.slice m1 m2 m3,.slice ra n rc] 29)).alloc (.cells #[.int .i64 0,.slice none 0 0,.slice none 0 0] 29)).cell? ⟨w.heap.size+1,2,none⟩=some (.slice none 0 0):=by go_simp
 have G0:((w.alloc (.cells #[.int .i64 lim,.slice m1 m2 m3,.slice ra n rc] 29)).alloc (.cells #[.int .i64 0,.slice none 0 0,.slice none 0 0] 29)).frozen? ⟨w.heap.size+1,0,none⟩=false:=by go_simp
 have G1:((w.alloc (.cells #[.int .i64 lim,.slice m1 m2 m3,.slice ra n rc] 29)).alloc (.cells #[.int .i64 0,.slice none 0 0,.slice none 0 0] 29)).frozen? ⟨w.heap.size+1,1,none⟩=false:=by go_simp
 have G2:((w.alloc (.cells #[.int .i64 lim,.slice m1 m2 m3,.slice ra n rc] 29)).alloc (.cells #[.int .i64 0,.slice none 0 0,.slice none 0 0] 29)).frozen? ⟨w.heap.size+1,2,none⟩=false:=by go_simp
 have VT:Ar ((w.alloc (.cells #[.int .i64 lim,.slice m1 m2 m3,.slice ra n rc] 29)).alloc (.cells #[.int .i64 0,.slice none 0 0,.slice none 0 0] 29)) (w.heap.size+1) 29:=⟨_,_,by
  have h:=World.alloc_heap_new (w.alloc (.cells #[.int .i64 lim,.slice m1 m2 m3,.slice ra n rc] 29)) (.cells #[.int .i64 0,.slice none 0 0,.slice none 0 0] 29)
  rw[World.size_alloc]at h
  exact h⟩
 have V8:Bwz w ((w.alloc (.cells #[.int .i64 lim,.slice m1 m2 m3,.slice ra n rc] 29)).alloc (.cells #[.int .i64 0,.slice none 0 0,.slice none 0 0] 29)):=by
  repeat (first|exact bR|(refine Below.alloc ?_ (by simp<;>omega) _))
 have V9:((w.alloc (.cells #[.int .i64 lim,.slice m1 m2 m3,.slice ra n rc] 29)).alloc (.cells #[.int .i64 0,.slice none 0 0,.slice none 0 0] 29)).heap.size=w.heap.size+1+1:=by simp
 have NBV:nbAt ((w.alloc (.cells #[.int .i64 lim,.slice m1 m2 m3,.slice ra n rc] 29)).alloc (.cells #[.int .i64 0,.slice none 0 0,.slice none 0 0] 29)) (w.heap.size+1):=⟨R0,R1,R2,G0,G1,G2,VT⟩
 clear R0 R1 R2 G0 G1 G2 VT
 go_enter func145,ntmps145
 go_wp2
 generalize ((w.alloc (.cells #[.int .i64 lim,.slice m1 m2 m3,.slice ra n rc] 29)).alloc (.cells #[.int .i64 0,.slice none 0 0,.slice none 0 0] 29))=V at *
 refine wp_mono (Q:=Exit.then (fun a' W'=> ∃(NB:Nat) (hh:Hdr) (es':List EM),a'={tmps:=#[.agg #[.int .i64 lim,.slice m1 m2 m3,.slice ra n rc],.func (.func fn) #[] caps,.pointer (some ⟨w.heap.size,0,none⟩),undef,.pointer (some ⟨w.heap.size+1,0,none⟩),.pointer (some ⟨NB,0,none⟩),undef,undef,undef,.pointer (some ⟨w.heap.size,0,none⟩),.int .i64 lim,.pointer (some ⟨w.heap.size,1,none⟩),.slice m1 m2 m3,.func (.func fn) #[] caps,hdV hh,.agg #[.int .i64 lim,hdV hh,.slice none 0 0],undef,undef,undef,undef,undef,undef,undef,undef,undef,undef,undef,undef,undef,undef,undef,undef,undef,undef,undef,undef,undef],defers:=[]}/\KSt W' (w.heap.size+1) NB w.heap.size ⟨none,0,(hh,es'),[]⟩ ⟨lim,mem.filter P,[]⟩/\W'.cell? ⟨w.heap.size,2,none⟩=some (.slice ra n rc)/\Bwz w W') (fun _ _ _=>False)) ?_ ?_
 ·go_region_law (go_simp;go_at_call 189;refine(K0.out _ (by first|exact V8.drew|exact(V8.alloc V8.size _).drew|exact V8|exact V8.alloc V8.size _|exact V8.drew.alloc V8.size _)).mono ?_;rintro e w2 ⟨⟨⟨h1,h2,h3⟩,es',rfl,hoe⟩,hb2⟩;unfold hdV;dsimp only;have k0:w2.cell? ⟨w.heap.size,0,none⟩=some (.int .i64 lim):=cLz hb2 (by go_simp);have k2:w2.cell? ⟨w.heap.size,2,none⟩=some (.slice ra n rc):=cLz hb2 (by go_simp);have lw:w.heap.size<w2.heap.size:=bLt _ _ k0;first|(obtain⟨n0,n1,n2,o0,o1,o2,n3⟩:=BN hb2 (J9 (Ht V));rw[V9]at n0 n1 n2 o0 o1 o2 n3)|(obtain⟨n0,n1,n2,o0,o1,o2,n3⟩:=BN hb2 (Ht V.drew);rw[show V.drew.heap.size=w.heap.size+1+1 from V9]at n0 n1 n2 o0 o1 o2 n3)|skip)
  all_goals first
   | (have nbC:nbAt w2 (w.heap.size+1):=BN hb2 (J9 NBV)
      have hbw:Bwz w w2:=V8.drew.trans (hb2.mono (by have:=V8.size;exact this))
      exact⟨w2.heap.size,(h1,h2,h3),es',rfl,Yy nbC hoe (by have:=V8.size;exact this) (Nat.le_succ _),by go_simp,hbw.alloc hbw.size _⟩)
   | (have nbC:nbAt w2 (w.heap.size+1):=BN hb2 (J9 (BN (bR.alloc nR _) NBV))
      have hbv:Bwz w (V.alloc (.cells #[.int .i64 0,.slice none 0 0,.slice none 0 0] 29)).drew:=(V8.alloc V8.size _).drew
      have hbw:Bwz w w2:=hbv.trans (hb2.mono hbv.size)
      exact⟨w.heap.size+1+1,(h1,h2,h3),es',rfl,Yz nbC ⟨n0,n1,n2,o0,o1,o2,n3⟩ hoe hbv.size (Nat.le_succ _) (Nat.lt_succ_self _),by go_simp,((hbw.setCell (by dsimp only;omega) _).setCell (by dsimp only;omega) _).setCell (by dsimp only;omega) _⟩)
 ·intro e a' W' hQ
  cases e with
  |normal=>
   obtain⟨NB,hh,es',rfl,hst,hc2,hbW⟩:=hQ
   have KR:Hid (∀k w1,k<n->Bwz w w1->CTz 189 #[hdV ((rs.map (·.1)).getD k (none,0,0)),.func (.func fn) #[] caps] w1 fun e w'=>(∃(hh:Hdr) (es':List EM),e= .returned (hdV hh)/\OE w' w1.heap.size (hdV hh) es' ((runs.getD k default).filter P))/\Bwz w1 w'):=fun k w1 hk hb=>by
    have hkr:k<rs.length:=by rw[HN.out.1];exact hk
    have h:=KM.out (k+1) w1 (by simpa using hkr) hb
    have e1:(rs.map (·.1)).getD k (none,0,0)=(rs.getD k default).1:=by rw[gDe,List.getElem?_map,gEe hkr,gDe,gEe hkr];rfl
    rw[e1]
    exact h
   have HR:Hid (EU w ra (rs.map (·.1))):=HB.out.hds
   have HS:Hid (KSt W' (w.heap.size+1) NB w.heap.size ⟨none,0,(hh,es'),[]⟩ ⟨lim,mem.filter P,[]⟩):=hst
   obtain⟨h1,h2,h3⟩:=hh
   unfold hdV
   dsimp only
   clear KM K0 V0 V1 V2 V8 V9 NBV hst
   go_wp2
   go_loopw [19] (fun i wr=> ∃(k:Nat) (x':BX),k<=n/\i= .int .i64 k/\KSt wr (w.heap.size+1) NB w.heap.size x' ⟨lim,mem.filter P,Dp P (runs.take k)⟩/\Bwz w wr) (fun i _=>n - (intOf i).toNat)
   case atStart=>exact⟨0,_,Nat.zero_le _,rfl,HS.out,hbW⟩
   case round=>
    obtain⟨k,x',hk,rfl,hst,hnx⟩:=hrel
    have hrl:=hst.ob.rlen
    dsimp only at hrl
    have hrn:x'.rs.length<=100000:=by
     have h1:=S4 P (runs.take k)
     rw[List.length_take]at h1
     omega
    have c0:=hst.c0
    have c1:=hst.c1
    have c2:=hst.c2
    have r0:=hst.r0
    have r1:=hst.r1
    have r2:=hst.r2
    have g0:=hst.g0
    have g1:=hst.g1
    have g2:=hst.g2
    have hne:=hst.ne
    obtain⟨ra',rc',⟨⟨a1,a2,a3⟩,ml'⟩,rs'⟩:=x'
    have HST:Hid (KSt wr (w.heap.size+1) NB w.heap.size ⟨ra',rc',((a1,a2,a3),ml'),rs'⟩ ⟨lim,mem.filter P,Dp P (runs.take k)⟩):=hst
    unfold hdV at c1
    dsimp only at c0 c1 c2 hrn
    obtain⟨rn,hrn0⟩:=nM rs'.length
    have HRN:Hid (rs'.length=rn):=hrn0
    rw[hrn0]at c2 hrn
    have HON:Hid (wr.ownsRow w.heap.size 26 1 (.slice ra' rn rc') rn (rs'.map fun p=>hdV p.1)):=by
     have h:=hst.ob.hds
     dsimp only at h
     rw[hrn0]at h;exact h
    clear hst hrl hrn0
    have hsz:=hnx.size
    have lC:w.heap.size+1<wr.heap.size:=bLt _ _ r0
    have lN:NB<wr.heap.size:=bLt _ _ c0
    by_cases hlt:k<n
    ·obtain⟨b,o,e,x1⟩:=HR.out k (by rw[lMp,HN.out.1];exact hlt)
     subst e
     have q1:=cLz hnx x1
     have KQ:Hid (CTz 189 #[hdV ((rs.map (·.1)).getD k (none,0,0)),.func (.func fn) #[] caps] wr fun e w'=>(∃(hh:Hdr) (es':List EM),e= .returned (hdV hh)/\OE w' wr.heap.size (hdV hh) es' ((runs.getD k default).filter P))/\Bwz wr w'):=KR.out k wr hlt hnx
     have HF:Hid (Dp P (runs.take (k+1))=Dp P (runs.take k)++(if 0<((runs.getD k default).filter P).length then [(runs.getD k default).filter P]else [])):=PW (by rw[HN.out.2];exact hlt)
     obtain⟨⟨z1,z2,z3⟩,hz⟩:∃z,(rs.map (·.1)).getD k (none,0,0)=z:=⟨_,rfl⟩
     rw[hz]at q1 KQ
     unfold hdV at q1
     rw[show hdV (z1,z2,z3)= .slice z1 z2 z3 from rfl]at KQ
     dsimp only at q1
     clear hz x1
     have i1:(0:Int)<=(k:Int):=by omega
     have i2:(k:Int)<(n:Int):=by omega
     obtain⟨L,hL⟩:=nM ((runs.getD k default).filter P)
     rw[hL]at KQ HF
     clear hL
     go_wp2_with fail
     refine KQ.out.mono ?_
     rintro e w1 ⟨⟨⟨y1,y2,y3⟩,es2,rfl,hoe⟩,hb1⟩
     unfold hdV
     dsimp only
     have HOE:Hid (OE w1 wr.heap.size (hdV (y1,y2,y3)) es2 L):=hoe
     have hy2:y2=L.length:=by
      obtain⟨ad,cp,hf⟩:=hoe.form
      unfold hdV at hf
      injection hf with _ e2 _
      exact Eq.trans e2 hoe.len
     clear hoe
     by_cases h0:0<y2
     ·have HE:Hid (Dp P (runs.take (k+1))=Dp P (runs.take k)++[L]):=by show _=_;rw[HF.out,if_pos (by rw[<-hy2];exact h0)]
      clear hy2
      have d2:=cLz hb1 c2
      have ln1:NB<w1.heap.size:=Nat.lt_of_lt_of_le lN hb1.size
      have HO1:Hid (w1.ownsRow w.heap.size 26 1 (.slice ra' rn rc') rn (rs'.map fun p=>hdV p.1)):=own_below HON.out hb1
      have hs1:w.heap.size<=w1.heap.size:=Nat.le_trans hsz hb1.size
      go_wp2_with (at_builtin;refine wpList_append_own _ rfl (.tmp 30) (.tmp 32) 27 rfl w.heap.size 26 i0 (.slice none 0 0) 1 24 underlying27 HI.out.1 HI.out.2.1 HI.out.2.2.1 HI.out.2.2.2 rfl (by decide) _ _ _ rfl (World.ownsRow.alloc HO1.out _) ⟨w1.heap.size,0,none⟩ 1 1 [.slice y1 y2 y3] rfl rfl (cell_one_new _ _ rfl _) (by intro u hu;simp at hu;rcases hu with rfl;rfl) (by unfold maxLen;omega) (by omega) (by simp;omega) ?_;intro v3 w3 hown3 hgrow3 hnil3;have hmid:=WJ HST.out hb1 (by dsimp only;rw[HRN.out];exact hgrow3);dsimp only at hmid;rw[HRN.out]at hmid;obtain⟨p2,pf⟩:=hmid;obtain⟨g3,c3,hv3⟩:=Kf hown3;subst hv3)
      have HSN:=Wu (g:=g3) (cap2:=c3) (p:=((y1,y2,y3),es2)) (l:=L) HST.out hb1 HOE.out (by dsimp only;rw[HRN.out];exact hown3) (by dsimp only;rw[HRN.out];exact hgrow3)
      unfold BX.more Buf.more at HSN
      dsimp only at HSN
      rw[HRN.out]at HSN
      go_roundw
      case rel=>exact⟨k+1,_,by omega,by go_num,by rw[HE.out];exact HSN.1,hnx.trans HSN.2⟩
      case measure=>simp[intOf];omega
     ·have HE:Hid (Dp P (runs.take (k+1))=Dp P (runs.take k)):=by show _=_;rw[HF.out,if_neg (by rw[<-hy2];exact h0),List.append_nil]
      clear hy2
      go_wp2
      go_roundw
      case rel=>exact⟨k+1,_,by omega,by go_num,by rw[HE.out];exact HST.out.below hb1,hnx.trans (hb1.mono hsz)⟩
      case measure=>simp[intOf];omega
    ·have HT:Hid (runs.take k=runs):=List.take_of_length_le (by rw[HN.out.2];omega)
     go_wp2
     refine bodyPost_ret (v:=.agg #[.int .i64 lim,.slice a1 a2 a3,.slice ra' rn rc']) (by simp[results,results145,go_sem,r0,r1,r2,c0,c1,c2]) rfl ⟨⟨⟨ra',rc',((a1,a2,a3),ml'),rs'⟩,?_,?_⟩,?_⟩
     ·unfold C1 hdV
      dsimp only
      rw[HRN.out]
     ·have hh:=HST.out.ob
      rw[HT.out]at hh
      exact JA hh HST.out.rt _ _ _
     ·exact((hnx.setCell (by dsimp only;omega) _).setCell (by dsimp only;omega) _).setCell (by dsimp only;omega) _
  |_=>exact hQ.elim
theorem Cw(h:OB w base x b)(hb:base'<=base):OB w base' x b:=
 ⟨Nat.le_trans hb h.low,h.mem.mono hb,C5 h.hds hb,h.rlen,fun i hi=>(h.runs i hi).mono hb,h.two⟩
theorem WK(h:C4 b=0):Az b.lim 1 64=true/\countB b=true/\Ee b=true:=by
 unfold C4 at h
 by_cases h1:Az b.lim 1 64=false
 ·rw[if_pos h1]at h;cases h
 ·rw[if_neg h1]at h
  by_cases h2:countB b=false
  ·rw[if_pos h2]at h;cases h
  ·rw[if_neg h2]at h
   by_cases h3:Ee b=false
   ·rw[if_pos h3]at h;cases h
   ·exact⟨by simpa using h1,by simpa using h2,by simpa using h3⟩
theorem MW(h:l∈partsB b):l.length<=(Ab b).length:=by
 unfold Ab
 rw[List.length_flatten]
 generalize partsB b=p at h
 induction p with
 |nil=>cases h
 |cons x p ih=>
  rw[List.map_cons,List.sum_cons]
  rcases List.mem_cons.1 h with rfl|h
  ·omega
  ·have:=ih h;omega
theorem WL(l:List (List Ent))(h:∀r∈l,0<r.length):l.length<=l.flatten.length:=by
 induction l with
 |nil=>simp
 |cons x l ih=>
  rw[List.flatten_cons,lAp,List.length_cons]
  have:=h x (List.mem_cons_self ..)
  have:=ih (fun r hr=>h r (List.mem_cons_of_mem _ hr))
  omega
structure okB(b:Buf):Prop where
 lim:1<=b.lim/\b.lim<=64
 mem:(b.mem.length:Int)<=b.lim
 all:(Ab b).length<=4096
 fine:∀l∈partsB b,∀y∈l,DH y
 rise:∀l∈partsB b,∀i,i+1<l.length->ltP (l.getD i default) (l.getD (i+1) default)
 full:∀r∈b.runs,0<r.length
 once:((Ab b).map Ay).Nodup
theorem Df(h:C4 b=0):okB b:=by
 obtain⟨h1,h2,h3⟩:=WK h
 unfold countB at h2
 unfold Ee at h3
 simp only[Bool.and_eq_true,decide_eq_true_eq]at h2 h3
 have hr:=A9.1 h3.1
 have hp:∀l∈partsB b,∀i,i<l.length->Es l i=true:=fun l hl i hi=>by
  obtain⟨j,hj,rfl⟩:=List.getElem_of_mem hl
  have:=hr j hj
  have e:(partsB b).getD j default=(partsB b)[j]:=by rw[gDe,gEe hj];rfl
  rw[e]at this
  exact A9.1 this i hi
 refine⟨(AJ _ _ _).1 h1,h2.1,h2.2,fun l hl y hy=>?_,fun l hl i hi=>?_,fun r hr=>?_,?_⟩
 ·obtain⟨i,hi,rfl⟩:=List.getElem_of_mem hy
  have:=hp l hl i hi
  unfold Es at this
  simp only[Bool.and_eq_true]at this
  have h:=IJ.1 this.1
  rw[gDe,gEe hi]at h
  exact h
 ·have:=hp l hl (i+1) hi
  unfold Es at this
  simp only[Bool.and_eq_true,Bool.or_eq_true,decide_eq_true_eq]at this
  rcases this.2 with h|h
  ·omega
  ·exact h
 ·obtain⟨i,hi,rfl⟩:=List.getElem_of_mem hr
  have:=A9.1 h3.2.1 i hi
  have e:b.runs.getD i default=b.runs[i]:=by rw[gDe,gEe hi];rfl
  rw[e]at this
  simpa using this
 ·have:=h3.2.2
  unfold BJ at this
  exact of_decide_eq_true this
theorem okB.small(h:okB b):(∀l∈partsB b,l.length<=100000)/\b.runs.length<=100000/\∀y∈Ab b,y.row.length<=1000000:=by
 have h1:=h.all
 refine⟨fun l hl=>by have:=MW hl;omega,?_,fun y hy=>?_⟩
 ·have:=WL b.runs h.full
  have e:(Ab b).length=b.mem.length+b.runs.flatten.length:=by unfold Ab partsB;simp
  omega
 ·obtain⟨l,hl,hy⟩:=List.mem_flatten.1 hy
  have hf:=(h.fine l hl y hy).2.1
  unfold Au at hf
  by_cases h8:8<y.row.length
  ·rw[if_pos h8]at hf;cases hf
  ·omega
theorem Fp(e:EM)(w:World):Calls Tryz.prog 59 #[e.val] w fun r w'=>r= .returned (.bool true)/\Bwz w w':=by
 obtain⟨k1,t1,s1,⟨a1,b1,c1⟩,m1⟩:=e
 unfold EM.val hdV
 dsimp only
 go_enter func59,ntmps59
 go_wp2
 go_ret
 refine⟨rfl,?_⟩
 repeat (first|exact bR|(refine Below.alloc ?_ (by simp<;>omega) _))
theorem S5(e:EM)(to:Int)(PB:Nat)(w:World)(hP:w.cell? ⟨PB,0,none⟩=some (.int .i64 to)):
 Calls Tryz.prog 263 #[e.val,.pointer (some ⟨PB,0,none⟩)] w fun r w'=>r= .returned (.bool (decide (to<e.time)))/\Bwz w w':=by
 obtain⟨k1,t1,s1,⟨a1,b1,c1⟩,m1⟩:=e
 unfold EM.val hdV
 dsimp only
 have lP:PB<w.heap.size:=bLt _ _ hP
 by_cases hd:to<t1
 ·have HD:Hid (decide (to<t1)=true):=decide_eq_true hd
  go_enter func263,ntmps263
  go_wp2
  go_ret
  exact⟨Aa (by rw[HD.out]),bR.alloc nR _⟩
 ·have HD:Hid (decide (to<t1)=false):=decide_eq_false hd
  go_enter func263,ntmps263
  go_wp2
  go_ret
  exact⟨Aa (by rw[HD.out]),bR.alloc nR _⟩
def D4(to:Int)(y:Ent):Bool:=decide (to<y.time)
theorem WM(b:Buf)(x:BX)(to:Int)(w:World)(h:bufAt w b x)(hw:∀y∈Ab b,wfE y/\wfP (Ay y))(hs:(Ab b).length<=4611686018427387904)(he:C4 b=0):
 Calls Tryz.prog 259 #[AN b x,.int .i64 to] w fun e w'=>(∃x',e= .returned (.tuple #[AN (C1 (D4 to) b) x',.int .i64 0])/\OB w' w.heap.size x' (C1 (D4 to) b))/\Bwz w w':=by
 have KC:Hid (∀w1,Bwz w w1->CTz 39 #[AN b x] w1 fun e w'=>e= .returned (.int .i64 0)/\Bwz w1 w'):=fun w1 hb=>by
  have:=Bn b x w1 (Ai h hb) hw hs
  rwa[he]at this
 have hsm:=(Df he).small
 have KK:Hid (∀w1,Bwz w w1->w1.cell? ⟨w.heap.size+1,0,none⟩=some (.int .i64 to)->CTz 145 #[AN b x,.func (.func 263) #[] #[.pointer (some ⟨w.heap.size+1,0,none⟩)]] w1 fun e w'=>(∃x',e= .returned (AN (C1 (D4 to) b) x')/\OB w' w1.heap.size x' (C1 (D4 to) b))/\Bwz w1 w'):=fun w1 hb hc=>
  FI 263 (enters_of func263 (by kernel_rfl) rfl) #[.pointer (some ⟨w.heap.size+1,0,none⟩)] (D4 to) b x w1 (Ai h hb) hsm.1 hsm.2.1 hsm.2.2 (fun e y w2 her _ hb2=>by
   have:=S5 e to (w.heap.size+1) w2 (cLz hb2 hc)
   rw[her.time]at this
   exact this)
 clear h hw hs he hsm
 obtain⟨lim',hlim⟩:=nM (C1 (D4 to) b)
 rw[hlim]at KK⊢
 clear hlim
 obtain⟨ra,rc,⟨⟨m1,m2,m3⟩,ml⟩,rs⟩:=x
 obtain⟨lim,mem,runs⟩:=b
 rw[show AN ⟨lim,mem,runs⟩ ⟨ra,rc,((m1,m2,m3),ml),rs⟩= .agg #[.int .i64 lim,.slice m1 m2 m3,.slice ra rs.length rc]from rfl]at KC KK⊢
 obtain⟨n,hn⟩:∃n,rs.length=n:=⟨_,rfl⟩
 rw[hn]at KC KK⊢
 clear hn
 have hb0:Bwz w (((w.alloc (.cells #[.int .i64 lim,.slice m1 m2 m3,.slice ra n rc] 29)).alloc (.cells #[.int .i64 to] 3)).alloc (.cells #[.int .i64 0,.slice none 0 0,.slice none 0 0] 29)):=by
  repeat (first|exact bR|(refine Below.alloc ?_ (by simp<;>omega) _))
 have NBV:=Ht ((w.alloc (.cells #[.int .i64 lim,.slice m1 m2 m3,.slice ra n rc] 29)).alloc (.cells #[.int .i64 to] 3))
 rw[World.size_alloc,World.size_alloc]at NBV
 have HNB:Hid (nbAt (((w.alloc (.cells #[.int .i64 lim,.slice m1 m2 m3,.slice ra n rc] 29)).alloc (.cells #[.int .i64 to] 3)).alloc (.cells #[.int .i64 0,.slice none 0 0,.slice none 0 0] 29)) (w.heap.size+1+1)):=NBV
 clear NBV
 go_enter func259,ntmps259
 go_wp2_with (first
  |(go_at_call 39;refine(KC.out _ hb0).mono ?_;rintro e w2 ⟨rfl,hb2⟩;have hbw:Bwz w w2:=hb0.trans (hb2.mono hb0.size);have nb2:=BN hb2 HNB.out;have k0:w2.cell? ⟨w.heap.size,0,none⟩=some (.int .i64 lim):=cLz hb2 (by go_simp);have k1:w2.cell? ⟨w.heap.size,1,none⟩=some (.slice m1 m2 m3):=cLz hb2 (by go_simp);have k2:w2.cell? ⟨w.heap.size,2,none⟩=some (.slice ra n rc):=cLz hb2 (by go_simp);have k3:w2.cell? ⟨w.heap.size+1,0,none⟩=some (.int .i64 to):=cLz hb2 (by go_simp))
  |(go_at_call 145;refine(KK.out _ hbw k3).mono ?_;rintro e w3 ⟨⟨⟨ra',rc',⟨⟨a1,a2,a3⟩,ml'⟩,rs'⟩,rfl,hob⟩,hb3⟩;rw[show AN lim' ⟨ra',rc',((a1,a2,a3),ml'),rs'⟩= .agg #[.int .i64 lim'.lim,.slice a1 a2 a3,.slice ra' rs'.length rc']from rfl];have HNB3:Hid (nbAt w3 (w.heap.size+1+1)):=BN hb3 nb2;obtain⟨n0,n1,n2,o0,o1,o2,n3⟩:=HNB3.out))
 have hbx:Bwz w w3:=hbw.trans (hb3.mono hbw.size)
 refine bodyPost_ret (v:=.tuple #[.agg #[.int .i64 lim'.lim,.slice a1 a2 a3,.slice ra' rs'.length rc'],.int .i64 0]) (by simp[results,results259,go_sem,n0,n1,n2]) rfl ⟨⟨⟨ra',rc',((a1,a2,a3),ml'),rs'⟩,rfl,?_⟩,((hbx.setCell (by dsimp only;omega) _).setCell (by dsimp only;omega) _).setCell (by dsimp only;omega) _⟩
 exact JA (Cw hob hbw.size) n3 _ _ _
end bf
namespace pl
open Go.ChangeShapes Go.WideShapes Go.ChangeAt Go.RowKit
open vl
variable {n : Nat} {P : Nat -> Bool}
def Az(n a b:Int):Bool:=decide (a<=n/\n<=b)
theorem AJ(n a b:Int):Az n a b=true↔(a<=n/\n<=b):=by simp[Az]
theorem BZ(n a b:Int):Az n a b=false↔ ¬(a<=n/\n<=b):=by unfold Az;exact decide_eq_false_iff_not
theorem BK(n a b:Int)(w:World):
 Calls Tryz.prog 117 #[.int .i64 n,.int .i64 a,.int .i64 b] w fun e w'=>e= .returned (.bool (Az n a b))/\w'=w:=by
 by_cases h1:a<=n
 ·by_cases h2:n<=b
  ·rw[(AJ n a b).2 ⟨h1,h2⟩]
   go_enter func117,ntmps117
   go_wp2
   go_ret
   exact⟨rfl,rfl⟩
  ·rw[(BZ n a b).2 (by omega)]
   go_enter func117,ntmps117
   go_wp2
   go_ret
   exact⟨rfl,rfl⟩
 ·rw[(BZ n a b).2 (by omega)]
  go_enter func117,ntmps117
  go_wp2
  go_ret
  exact⟨rfl,rfl⟩
theorem Ak(n a b:Int)(w:World):
 Calls Tryz.prog 29 #[.int .i64 n,.int .i64 a,.int .i64 b] w fun e w'=>e= .returned (.bool (Az n a b))/\w'=w:=by
 by_cases h1:a<=n
 ·by_cases h2:n<=b
  ·rw[(AJ n a b).2 ⟨h1,h2⟩]
   go_enter func29,ntmps29
   go_wp2
   go_ret
   exact⟨rfl,rfl⟩
  ·rw[(BZ n a b).2 (by omega)]
   go_enter func29,ntmps29
   go_wp2
   go_ret
   exact⟨rfl,rfl⟩
 ·rw[(BZ n a b).2 (by omega)]
  go_enter func29,ntmps29
  go_wp2
  go_ret
  exact⟨rfl,rfl⟩
def allB(n:Nat)(P:Nat->Bool):Bool:=(List.range n).all P
theorem A9:allB n P=true↔ ∀i,i<n->P i=true:=by simp[allB]
theorem Dc{i:Nat}(hi:i<n)(h:P i=false):allB n P=false:=by
 rcases Bool.eq_false_or_eq_true (allB n P)with h1|h1
 ·have:=A9.1 h1 i hi;rw[h]at this;cases this
 ·exact h1
theorem Fq(fn:FuncId)(eg:∀args w,(callFunc fn args).run Tryz.prog w= .ok (.enter fn args) w)(caps:Array Value)(P:Nat->Bool)(a:Option Addr)(cap:Nat)(l:List Int)(w:World)(hl:l.length<=9223372036854775807)(ha:A2 w a l)
 (H:∀i w1,i<l.length->Bwz w w1->Calls Tryz.prog fn (#[.int .i64 (i:Nat),.int .i64 (l.getD i 0)]++caps) w1 fun e w'=>e= .returned (.bool (P i))/\Bwz w1 w'):
 Calls Tryz.prog 123 #[.slice a l.length cap,.func (.func fn) #[] caps] w fun e w'=>e= .returned (.bool (allB l.length P))/\Bwz w w':=by
 have HH:Hid (∀i w1,i<l.length->Bwz w w1->CTz fn (#[.int .i64 (i:Nat),.int .i64 (l.getD i 0)]++caps) w1 fun e w'=>e= .returned (.bool (P i))/\Bwz w1 w'):=H
 clear H
 obtain⟨n,hn⟩:∃n,l.length=n:=⟨_,rfl⟩
 have HN:Hid (l.length=n):=hn
 rw[hn]at hl⊢
 clear hn
 go_enter func123,ntmps123
 go_wp2
 go_loopw [9] (fun i wr=> ∃k:Nat,k<=n/\i= .int .i64 k/\Bwz w wr/\∀i,i<k->P i=true) (fun i _=>n - (intOf i).toNat)
 case atStart=>exact⟨0,Nat.zero_le _,rfl,bR,fun i hi=>absurd hi (Nat.not_lt_zero i)⟩
 case round=>
  obtain⟨k,hk,rfl,hnx,hall⟩:=hrel
  have HA:Hid (∀i,i<k->P i=true):=hall
  clear hall
  by_cases hlt:k<n
  ·obtain⟨b,o,e,x1⟩:=ha k (by rw[HN.out];exact hlt)
   subst e
   have q1:=cLz hnx x1
   clear x1 ha
   have i1:(0:Int)<=(k:Int):=by omega
   have i2:(k:Int)<(n:Int):=by omega
   have KK:Hid (CTz fn (#[.int .i64 (k:Nat),.int .i64 (l.getD k 0)]++caps) wr fun e w'=>e= .returned (.bool (P k))/\Bwz wr w'):=HH.out k wr (by rw[HN.out];exact hlt) hnx
   obtain⟨z,hz⟩:=nM (l.getD k 0)
   rw[hz]at q1 KK
   clear hz
   have hsz:=hnx.size
   cases hp:P k with
   |true=>
    rw[hp]at KK
    go_wp2_with (go_at_fn fn;refine KK.out.mono ?_;rintro e w1 ⟨rfl,hb1⟩)
    go_roundw
    case rel=>exact⟨k+1,by omega,by go_num,hnx.trans (hb1.mono hsz),fun i hi=>by
     rcases Nat.lt_succ_iff_lt_or_eq.1 hi with h|h
     ·exact HA.out i h
     ·rw[h];exact hp⟩
    case measure=>simp[intOf];omega
   |false=>
    have HE:Hid (allB n P=false):=Dc hlt hp
    rw[hp]at KK
    go_wp2_with (go_at_fn fn;refine KK.out.mono ?_;rintro e w1 ⟨rfl,hb1⟩)
    go_ret
    exact⟨Aa HE.out.symm,hnx.trans (hb1.mono hsz)⟩
  ·have HE:Hid (allB n P=true):=A9.2 (fun i hi=>HA.out i (by omega))
   go_wp2
   go_ret
   exact⟨Aa HE.out.symm,hnx⟩
end pl
end Go.Proofs.YtdohnkkbkfhphaaGreat
