import Derived.Test.YtfkihidbnfkbaaaGreatDoorPv16
set_option linter.all false
set_option maxHeartbeats 8000000
set_option maxRecDepth 100000
open Inhabited renaming default->ϰ
open List renaming length->ϲ
namespace Go.Proofs.YtfkihidbnfkbaaaGreatDoor
open ChangeShapes WideShapes ChangeAt RowKit Shelf Maps List Proofs.Tryz
namespace jn
open vl bf
attribute [local go_sem] Oper.semAt_some
variable {l : List Ent} {t : Nat} {n : Int}
def IC(n:Int)(l:List Ent)(t:Nat):Prop:=F3 n (l.take t)
def sqT(l:List Ent)(t:Nat):List Int:=(l.take t).map (·.seq)
def Ma(h:t<ϲ l):sqT l (t+1)=sqT l t++[(l.getD t ϰ).seq]:=by
 unfold sqT;rw[M1 h,DQ,gDe,gEe h];rfl
def YG(l:List Ent)(t:Nat):ϲ (sqT l t)<=ϲ l:=by unfold sqT;rw[lMp,DA];omega
def Vj(h:t<ϲ l)(h1:IC n l t)(f:(l.getD t ϰ).seq<n)(g:(sqT l t).count (l.getD t ϰ).seq=0):IC n l (t+1):=by
 obtain⟨i,j⟩:=h1;have e:l.take (t+1)=l.take t++[l.getD t ϰ]:=by rw[M1 h,gDe,gEe h];rfl
 unfold IC F3;rw[e];refine⟨λy hy=>?_,?_⟩
 ·rcases Fk.1 hy with hy|hy
  ·exact i y hy
  ·rw[M2.1 hy];exact f
 ·rw[DQ];refine aK.2 ⟨j,ϥ,λa ha b c=>?_⟩;have c:b=(l.getD t ϰ).seq:=by simpa using c
  subst c;intro d;subst d;exact absurd g (by have:=fp.2 ha;unfold sqT;omega)
def Vk(h:t<ϲ l)(a:¬(l.getD t ϰ).seq<n):decide (F3 n l)=false:=by
 refine BP λk=>a (k.1 _ ?_);rw[gDe,gEe h];simp
def Ra(h:t<ϲ l)(c:(sqT l t).count (l.getD t ϰ).seq≠0):decide (F3 n l)=false:=by
 refine BP λk=>?_;have a:=k.2;have e:l.map (·.seq)=sqT l (t+1)++(l.drop (t+1)).map (·.seq):=by unfold sqT;rw[<-DQ,PP]
 rw[e,Ma h]at a;have b:(l.getD t ϰ).seq∈sqT l t:=fp.1 ϣ;exact(aK.1 (aK.1 a).1).2.2 _ b _ (M2.2 rfl) rfl
def Af2(h:IC n l (ϲ l)):decide (F3 n l)=true:=by
 unfold IC at h;rw[Ok]at h;exact DB h
theorem Qf(s:Jn)(y:JX)(w:ϟ)(h:joinAt w s y)(hw:∀z∈Ab s.L++Ab s.R,pl.i64 z.seq)(hl:ϲ (Ab s.L)<=100000)(b:ϲ (Ab s.R)<=100000):
 χ 170 #[joinV s y] w (ψ w (.bool (JW s))):=by
 have b0:ϡ (bufAt w s.L y.l):=h.l;have b4:ϡ (bufAt w s.R y.r):=h.r;have az:=EC h.l;have a0:=EC h.r;unfold JW;obtain⟨L,hL⟩:=nM (Ab s.L++Ab s.R);obtain⟨m,a7⟩:=nM (ϲ (Ab s.L));have HW:ϡ (∀t,t<ϲ L->pl.i64 (L.getD t ϰ).seq):=λt ht=>by
  rw[hL]at hw;exact hw _ (by rw[gDe,gEe ht];simp)
 have ak:ϡ (ϲ L<=200000):=by
  show _<=_;rw[<-hL,lAp];omega
 have b5:ϡ (ϲ L=m+ϲ (Ab s.R)):=by show _=_;rw[<-hL,lAp,a7]
 have bn:ϡ (∀i,i<ϲ (ems (y.l.m::y.l.rs))->0+i<ϲ L/\((ems (y.l.m::y.l.rs)).getD i ϰ).seq=(L.getD (0+i) ϰ).seq):=λi Z=>by
  have a5:i<ϲ (Ab s.L):=by rw[<-az.1];exact Z
  refine⟨by rw[<-hL,lAp];omega,?_⟩;rw[(az.2 i a5).seq,<-hL,Fr,Ba a5]
 have bo:ϡ (∀i,i<ϲ (ems (y.r.m::y.r.rs))->m+i<ϲ L/\((ems (y.r.m::y.r.rs)).getD i ϰ).seq=(L.getD (m+i) ϰ).seq):=λi Z=>by
  have a5:i<ϲ (Ab s.R):=by rw[<-a0.1];exact Z
  refine⟨by rw[<-hL,lAp];omega,?_⟩;rw[(a0.2 i a5).seq,<-hL,Bf ϣ,a7,fq]
 have bp:ϡ (ϲ (ems (y.l.m::y.l.rs))=m):=by show _=_;rw[az.1,a7]
 have bq:ϡ (ϲ (ems (y.r.m::y.r.rs))=ϲ (Ab s.R)):=a0.1;rw[hL];obtain⟨R,hR⟩:=nM (decide (F3 s.seq L));have ao:=hV0 hR;rw[hR];clear hR hL hw hl b h az a0 a7;obtain⟨⟨ac,ad,⟨⟨S,T,U⟩,al⟩,bv⟩,⟨aa,ab,⟨⟨M,N,O⟩,bl⟩,bw⟩⟩:=y;obtain⟨⟨l0,cs,ct⟩,⟨r0,cu,cv⟩,lm,rm,G⟩:=s;rw[AU];dsimp only at *;obtain⟨ln,bg⟩:∃n,ϲ bv=n:=⟨_,rfl⟩;have b6:=hV0 bg;obtain⟨rn,bh⟩:∃n,ϲ bw=n:=⟨_,rfl⟩;have b7:=hV0 bh;rw[bg,bh];clear bg bh;have cf:=@run_makeMap prog;refine(DM (n:=0)).1 ?_;refine bH func170 rfl trivial ?_ rfl;simp only[ntmps170,St,DP,NS,Nat.reduceAdd,Nat.reduceSub,aU,aV,aW,aX,JV,KY]
 gi_wp2
 refine wpIn_loop_rounds 3 ?_;rw[fu]
 gi_wp2_with (refine⟨trivial,rfl,?_⟩;gi_at_call 237;refine(DM.2 (Jw _ _ _ rfl rfl rfl _)).mono ?_;rintro e w' ⟨rfl,rfl⟩)
 generalize P:(((((((w.alloc (.cells #[vI l0,vS S T U,vS ac ln ad,vI r0,vS M N O,vS aa rn ab,vI lm,vI rm,vI G] 38)).alloc (.cells #[ϑ] 4)).alloc (.map #[] 0)).alloc (.cells #[.map (some (w.heap.size+1+1))] 298)).alloc (.cells #[vI l0,vS S T U,vS ac ln ad,vI r0,vS M N O,vS aa rn ab] 36)).alloc (.cells (τ l0 S T U ac ln ad) 36)).alloc (.cells (τ l0 S T U ac ln ad) 36))=D at *;have a8:Δ D (w+1+1+1) 0 (.map (some (w.heap.size+1+1))):=by subst P;go_simp
 have G2:Fa D (w.heap.size+1+1) 0 []:=by
  subst P;have h:=Tm (ϊ (ϊ w #[vI l0,vS S T U,vS ac ln ad,vI r0,vS M N O,vS aa rn ab,vI lm,vI rm,vI G] 38) #[ϑ] 4);rw[D0,D0]at h;exact C6 h (by repeat (first|exact bR|(refine DH ?_ Ϫ _)))
 have ap:Δ D (w+1) 0 (.bool false):=by subst P;go_simp
 have G4:Ξ D (w+1) 0:=by subst P;go_simp
 have a9:Δ D w 8 (vI G):=by subst P;go_simp
 have G5:Δ D (w+1+1+1+1+1+1) 0 (vI l0):=by subst P;go_simp
 have G6:Δ D (w+1+1+1+1+1+1) 1 (vS S T U):=by subst P;go_simp
 have G7:Δ D (w+1+1+1+1+1+1) 2 (vS ac ln ad):=by subst P;go_simp
 have R3:Δ D (w+1+1+1+1) 3 (vI r0):=by subst P;go_simp
 have R4:Δ D (w+1+1+1+1) 4 (vS M N O):=by subst P;go_simp
 have R5:Δ D (w+1+1+1+1) 5 (vS aa rn ab):=by subst P;go_simp
 have G8:Ϣ w D:=by
  subst P
  repeat (first|exact bR|(refine DH ?_ Ϫ _))
 have G9:D.heap.size=w.heap.size+1+1+1+1+1+1+1:=by subst P;simp
 clear P;have a6:=Ia b0.o G8 (w.heap.size+1+1+1+1+1+1) GK G5 G6 (by rw[b6.o];exact G7) Aj (λ_ _=>Aj) (λ_ _ _ _=>trivial) (λ_ _ _ _=>trivial);dsimp only at a6;obtain⟨E1,br⟩:=nM (ems ((((S,T,U):Hdr),al)::bv));rw[br]at a6 bn bp;obtain⟨E2,ba⟩:=nM (ems ((((M,N,O):Hdr),bl)::bw));rw[ba]at bo bq;clear br cf;refine DF (gf:=276) (lb:=#[.pointer (some ⟨w+1+1+1+1+1+1,0,none⟩)]) rfl (IB func276 Ϧ rfl) a6 bR (λx J=>by obtain⟨p,_,rfl⟩:=DS.1 J;rfl) (λh k=>Aw.trans h k) (λW l o o' _ h ho=>Aw.put W l o o' h ho)
  (λi X=>IC G L (0+i)/\Fa X (w.heap.size+1+1) (0+i) (sqT L (0+i))/\Aw GK D X/\Ξ X (w+1) 0/\Ϣ w X/\True) (λc X=>c= .ret/\false=R/\Δ X (w+1) 0 (.bool false)/\Ϣ w X/\True)
  (λi X X' ay d g b=>⟨d.1,Mm d.2.1 g (λe=>by have:=(b _ e.symm).1;omega),d.2.2.1.grown g (λr e=>(b r e).2),(aY (d.2.2.1.cell Aj ap) g (λr e=>(b r e).2)).trans d.2.2.2.1,Dy d.2.2.2.2.1 nR ϣ g b,trivial⟩)
  (λc X X' ay d g b=>⟨d.1,d.2.1,Do d.2.2.1 g (λr e=>(b r e).2),Dy d.2.2.2.1 nR ϣ g b,trivial⟩)
  ⟨⟨λy hy=>absurd hy SW,eJ⟩,G2,Aw.refl _ _,G4,G8,trivial⟩
  (λi a' X=> ∃B,a'={tmps:=#[.agg #[vI l0,vS S T U,vS ac ln ad,vI r0,vS M N O,vS aa rn ab,vI lm,vI rm,vI G],.pointer (some ⟨w,0,none⟩),.pointer (some ⟨w+1,0,none⟩),.pointer (some ⟨w+1+1+1,0,none⟩),undef,.pointer (some ⟨w+1+1+1+1+1,0,none⟩),.pointer (some ⟨B,0,none⟩),.map (some (w.heap.size+1+1)),.pointer (some ⟨w,0,none⟩),.agg #[vI l0,vS S T U,vS ac ln ad],.pointer (some ⟨w,3,none⟩),.agg #[vI r0,vS M N O,vS aa rn ab],vS (some ⟨w+1+1+1+1,0,none⟩) 2 2,vI 2,vI 0,.bool true,.pointer (some ⟨w+1+1+1+1,0,none⟩),.agg #[vI l0,vS S T U,vS ac ln ad],.agg #[vI l0,vS S T U,vS ac ln ad],.func (.func 276) #[] #[.pointer (some ⟨w+1+1+1+1+1+1,0,none⟩)],(E1.getD i ϰ).val,undef,undef,undef,undef,undef,undef,undef,undef,undef,undef,undef,undef,undef,undef,undef,undef,undef,undef],defers:=[]}/\ϖ X B (.string (E1.getD i ϰ).key) (vI (E1.getD i ϰ).time) (vI (E1.getD i ϰ).seq) (hdV (E1.getD i ϰ).row) (.bool (E1.getD i ϰ).met))
  (λi a' u X X' ay d g b=>by
   obtain⟨B,h1,h2,h3,h4,h5,h6⟩:=d;exact⟨B,h1,Do h2 g (λr e=>(b r e).2),Do h3 g (λr e=>(b r e).2),Do h4 g (λr e=>(b r e).2),Do h5 g (λr e=>(b r e).2),Do h6 g (λr e=>(b r e).2)⟩) ?_ ?_ ?_ ?_
 ·intro l' k z X K J Z hK;obtain⟨hk,ax⟩:=JT.1 J;rw[lMp]at hk;rw[aP]at ax;subst ax;have hd:E1.getD k ϰ=E1[k]:=by rw[gDe,gEe hk];rfl
  have E:=hK;rw[hd]at E;clear hK hd J;obtain⟨⟨ek,et,C,⟨r1,r2,r3⟩,em⟩,hz⟩:∃z,E1[k]=z:=⟨_,rfl⟩;rw[hz]at E⊢;unfold EM.val hdV at E⊢;dsimp only at E⊢;obtain⟨j1,j0,j,j3,F,j5⟩:=Z
  gi_wp2
  have lX:w.heap.size+1<X.heap.size:=bLt _ _ (j.cell Aj ap);exact E _ _ ((bQ _ _).from _) (Aw.alloc _ _) ⟨j1,C6 j0 Ϯ,j.trans (Aw.alloc _ _),ϧ,F.alloc F.size _,trivial⟩ ⟨X.heap.size,rfl,ϧ,ϧ,ϧ,ϧ,ϧ⟩
 ·intro l' i z a' X J cc cg bb ah;obtain⟨j1,j0,j,j3,F,j5⟩:=bb;obtain⟨B,ah,e0,e1,e2,e3,e4⟩:=ah;subst ah;obtain⟨Z,_⟩:=JT.1 J;rw[lMp]at Z;obtain⟨aj,ae⟩:=bn.o i Z;have aw:=HW.o _ aj;obtain⟨⟨ek,et,C,⟨r1,r2,r3⟩,em⟩,hz⟩:∃z,E1.getD i ϰ=z:=⟨_,rfl⟩;rw[hz]at e0 e1 e2 e3 e4 ae⊢;dsimp only at e0 e1 e2 e3 e4 ae;have ai:pl.i64 C:=by rw[ae];exact aw
  have c0:=j.cell Aj a8;have V:=j.cell Aj ap;have c8:=j.cell Aj a9;have lX:w.heap.size+1<X.heap.size:=bLt _ _ V;have au:=F4 j0 ai;have cd:=YG L (0+i);obtain⟨q,av,q0,v⟩:=On j0 ai (by have:=ak.o;unfold maxLen;omega) (by have:=ak.o;omega);have af:=F4 q0 ai;rw[Oo]at af;have aq:=Lg j0;have A:ϡ (0+i<ϲ L/\C=(L.getD (0+i) ϰ).seq):=⟨aj,ae⟩;have bd:=eS (a:=C) (l:=sqT L (0+i));obtain⟨c,hc⟩:=nM ((sqT L (0+i)).count C);have an:=hV0 hc;rw[hc]at au av af bd;have bk:IntKind.i64.wrap ((c:Int)+1)=(c:Int)+1:=by rw[RW];have:=ak.o;omega
  rw[dN,show((1:Nat):Int)=1 from rfl]at af;have I:∀r,(some (w.heap.size+1+1):Option Nat)=some r->∃o:Obj,X.heap[r]? =some o/\o.isCells=false:=λr e=>by cases e;exact aq
  have d0:=Do c0 v I;have d3:=Do V v I;have d8:=Do c8 v I;have d2:=Do e2 v I;have df:=(aY V v I).trans j3;have f:ϡ (Aw GK X q/\KeepsFrom D.heap.size X q/\Ϣ w q/\True):=⟨(Aw.refl _ _).grown v I,⟨v.size,λk o hk h _=>(v.block k (GS.1 h).1 (λe=>by cases e;omega)).trans h⟩,F.grown v F.size (λr e=>by cases e;omega),trivial⟩;have HJ:ϡ (IC G L (0+i)/\Aw GK D X):=⟨j1,j⟩;have HQ:ϡ (Fa q (w.heap.size+1+1) (0+i+1) (sqT L (0+i)++[C])):=q0;clear hz J hc aq I q0 j0 j1 j aw ae aj;by_cases h1:C<G
  ·by_cases h2:c=0
   ·subst h2;have z0:((0:Nat):Int)=0:=rfl;rw[z0]at au;rw[z0,Int.zero_add]at av af bk
    gi_wp2
    have bj:sqT L (0+i+1)=sqT L (0+i)++[C]:=by rw[Ma A.o.1,<-A.o.2]
    have bi:IC G L (0+i+1):=Vj A.o.1 HJ.o.1 (by rw[<-A.o.2];exact h1) (by rw[<-A.o.2];exact an.o);exact⟨f.o.2.1,f.o.1,by rw[show 0+(i+1)=0+i+1 by omega];exact bi,by rw[show 0+(i+1)=0+i+1 by omega,bj];exact HQ.o,HJ.o.2.trans f.o.1,df,f.o.2.2.1,f.o.2.2.2⟩
   ·have h3:(1:Int)<(c:Int)+1:=ϣ;have Q:ϡ (false=R):=by
     show _=_;rw[<-ao.o];exact(Ra A.o.1 (by rw[<-A.o.2,an.o];exact h2)).symm
    gi_wp2
    exact⟨f.o.2.1.trans ((Rg _ _ _).from _),rfl,Q.o,JR _ _ _ d3,f.o.2.2.1.setCell ϩ _,trivial⟩
  ·have Q:ϡ (false=R):=by
    show _=_;rw[<-ao.o];exact(Vk A.o.1 (by rw[<-A.o.2];exact h1)).symm
   have h3:G<=C:=ϣ
   gi_wp2
   first
    |exact⟨f.o.2.1.trans ((Rg _ _ _).from _),rfl,Q.o,JR _ _ _ d3,f.o.2.2.1.setCell ϩ _,trivial⟩
    |exact⟨by rw[<-G9];exact f.o.2.1.trans ((Rg _ _ _).from _),rfl,Q.o.symm,JR _ _ _ d3,f.o.2.2.1.setCell ϩ _⟩
    |exact⟨by rw[<-G9];exact f.o.2.1.trans ((Rg _ _ _).from _),rfl,Q.o.symm,JR _ _ _ d3,f.o.2.2.1.setCell ϩ _,trivial⟩
 ·rintro D1 q ca ⟨j1,j0,j,j3,F,_⟩ am;rw[lMp,bp.o,Fr]at j1 j0;have k3:=j.cell Aj R3;have k4:=j.cell Aj R4;have k5:=j.cell Aj R5;have cr:w.heap.size+1+1+1+1+1+1<q.heap.size:=bLt _ _ (j.cell Aj G5);have J1:ϡ (IC G L m/\Aw GK D q):=⟨j1,j⟩;have ci:=j.cell Aj a8;have cj:=j.cell Aj ap;have ck:=j.cell Aj a9;clear a6 G5 G6 G7 j1 j R3 R4 R5 a8 ap a9
  gi_wp2
  rw[fu]
  gi_wp2_with (refine⟨trivial,rfl,?_⟩;gi_at_call 237;refine(DM.2 (Jw _ _ _ rfl rfl rfl _)).mono ?_;rintro e w' ⟨rfl,rfl⟩)
  generalize Y:((q.alloc (.cells (τ r0 M N O aa rn ab) 36)).alloc (.cells (τ r0 M N O aa rn ab) 36))=H at *;have ar:Ϣ q H:=by subst Y;repeat (first|exact bR|(refine DH ?_ Ϫ _))
  have b8:Δ H (w+1+1+1) 0 (.map (some (w.heap.size+1+1))):=by subst Y;exact cLz ar ci
  have a4:Δ H (w+1) 0 (.bool false):=by subst Y;exact cLz ar cj
  have b9:Δ H w 8 (vI G):=by subst Y;exact cLz ar ck
  have bx:Fa H (w.heap.size+1+1) m (sqT L m):=by subst Y;exact C6 j0 (by repeat (first|exact bR|(refine DH ?_ Ϫ _)))
  have bz:Ξ H (w+1) 0:=by subst Y;exact(ar.frozen (p:=⟨w+1,0,none⟩) ϩ).trans j3
  have H5:Δ H (q+1) 0 (vI r0):=by subst Y;go_simp
  have H6:Δ H (q+1) 1 (vS M N O):=by subst Y;go_simp
  have H7:Δ H (q+1) 2 (vS aa rn ab):=by subst Y;go_simp
  have bm:Ϣ w H:=by subst Y;exact bT F ar
  have G9:H.heap.size=q.heap.size+1+1:=by subst Y;simp
  have bs:H.heap[D1]? =some (.deferred (some [])):=by
   subst Y;have:=(GS.1 am).1;rw[LE _ _ _ Ϩ,LE _ _ _ this];exact am
  clear Y;have be:=Ia b4.o bm (q.heap.size+1) GK H5 H6 (by rw[b7.o];exact H7) Aj (λ_ _=>Aj) (λ_ _ _ _=>trivial) (λ_ _ _ _=>trivial);dsimp only at be;have cq:=(GS.1 bs).1;rw[ba]at be;clear ba;refine DF (gf:=276) (lb:=#[.pointer (some ⟨q+1,0,none⟩)]) rfl (IB func276 Ϧ rfl) be bR (λx J=>by obtain⟨p,_,rfl⟩:=DS.1 J;rfl) (λh k=>Aw.trans h k) (λW l o o' _ h ho=>Aw.put W l o o' h ho)
   (λi X=>IC G L (m+i)/\Fa X (w.heap.size+1+1) (m+i) (sqT L (m+i))/\Aw GK H X/\Ξ X (w+1) 0/\Ϣ w X/\X.heap[D1]? =some (.deferred (some []))) (λc X=>c= .ret/\false=R/\Δ X (w+1) 0 (.bool false)/\Ϣ w X/\X.heap[D1]? =some (.deferred (some [])))
   (λi X X' ay d g b=>⟨d.1,Mm d.2.1 g (λe=>by have:=(b _ e.symm).1;omega),d.2.2.1.grown g (λr e=>(b r e).2),(aY (d.2.2.1.cell Aj a4) g (λr e=>(b r e).2)).trans d.2.2.2.1,Dy d.2.2.2.2.1 nR ϣ g b,(g.block D1 (GS.1 d.2.2.2.2.2).1 (λe=>by have:=(b _ e.symm).1;omega)).trans d.2.2.2.2.2⟩)
   (λc X X' ay d g b=>⟨d.1,d.2.1,Do d.2.2.1 g (λr e=>(b r e).2),Dy d.2.2.2.1 nR ϣ g b,(g.block D1 (GS.1 d.2.2.2.2).1 (λe=>by have:=(b _ e.symm).1;omega)).trans d.2.2.2.2⟩)
   ⟨by rw[aE];exact J1.o.1,by rw[aE];exact bx,Aw.refl _ _,bz,bm,bs⟩
   (λi a' X=> ∃B,a'={tmps:=#[.agg #[vI l0,vS S T U,vS ac ln ad,vI r0,vS M N O,vS aa rn ab,vI lm,vI rm,vI G],.pointer (some ⟨w,0,none⟩),.pointer (some ⟨w+1,0,none⟩),.pointer (some ⟨w+1+1+1,0,none⟩),undef,.pointer (some ⟨q,0,none⟩),.pointer (some ⟨B,0,none⟩),.map (some (w.heap.size+1+1)),.pointer (some ⟨w,0,none⟩),.agg #[vI l0,vS S T U,vS ac ln ad],.pointer (some ⟨w,3,none⟩),.agg #[vI r0,vS M N O,vS aa rn ab],vS (some ⟨w+1+1+1+1,0,none⟩) 2 2,vI 2,vI 1,.bool true,.pointer (some ⟨w+1+1+1+1,3,none⟩),.agg #[vI r0,vS M N O,vS aa rn ab],.agg #[vI r0,vS M N O,vS aa rn ab],.func (.func 276) #[] #[.pointer (some ⟨q+1,0,none⟩)],(E2.getD i ϰ).val,undef,undef,undef,undef,undef,undef,undef,undef,undef,undef,undef,undef,undef,undef,undef,undef,undef,vI 1],defers:=[]}/\ϖ X B (.string (E2.getD i ϰ).key) (vI (E2.getD i ϰ).time) (vI (E2.getD i ϰ).seq) (hdV (E2.getD i ϰ).row) (.bool (E2.getD i ϰ).met))
   (λi a' u X X' ay d g b=>by
    obtain⟨B,h1,h2,h3,h4,h5,h6⟩:=d;exact⟨B,h1,Do h2 g (λr e=>(b r e).2),Do h3 g (λr e=>(b r e).2),Do h4 g (λr e=>(b r e).2),Do h5 g (λr e=>(b r e).2),Do h6 g (λr e=>(b r e).2)⟩) ?_ ?_ ?_ ?_
  ·intro l' k z X K J Z hK;obtain⟨hk,ax⟩:=JT.1 J;rw[lMp]at hk;rw[aP]at ax;subst ax;have hd:E2.getD k ϰ=E2[k]:=by rw[gDe,gEe hk];rfl
   have E:=hK;rw[hd]at E;clear hK hd J;obtain⟨⟨ek,et,C,⟨r1,r2,r3⟩,em⟩,hz⟩:∃z,E2[k]=z:=⟨_,rfl⟩;rw[hz]at E⊢;unfold EM.val hdV at E⊢;dsimp only at E⊢;obtain⟨j1,j0,j,j3,F,j5⟩:=Z
   gi_wp2
   have lX:w.heap.size+1<X.heap.size:=bLt _ _ (j.cell Aj a4);exact E _ _ ((bQ _ _).from _) (Aw.alloc _ _) ⟨j1,C6 j0 Ϯ,j.trans (Aw.alloc _ _),ϧ,F.alloc F.size _,(LE _ _ _ (GS.1 j5).1).trans j5⟩ ⟨X.heap.size,rfl,ϧ,ϧ,ϧ,ϧ,ϧ⟩
  ·intro l' i z a' X J cc cg bb ah;obtain⟨j1,j0,j,j3,F,j5⟩:=bb;obtain⟨B,ah,e0,e1,e2,e3,e4⟩:=ah;subst ah;obtain⟨Z,_⟩:=JT.1 J;rw[lMp]at Z;obtain⟨aj,ae⟩:=bo.o i Z;have aw:=HW.o _ aj;obtain⟨⟨ek,et,C,⟨r1,r2,r3⟩,em⟩,hz⟩:∃z,E2.getD i ϰ=z:=⟨_,rfl⟩;rw[hz]at e0 e1 e2 e3 e4 ae⊢;dsimp only at e0 e1 e2 e3 e4 ae;have ai:pl.i64 C:=by rw[ae];exact aw
   have c0:=j.cell Aj b8;have V:=j.cell Aj a4;have c8:=j.cell Aj b9;have lX:w.heap.size+1<X.heap.size:=bLt _ _ V;have au:=F4 j0 ai;have cd:=YG L (m+i);obtain⟨q,av,q0,v⟩:=On j0 ai (by have:=ak.o;unfold maxLen;omega) (by have:=ak.o;omega);have af:=F4 q0 ai;rw[Oo]at af;have aq:=Lg j0;have A:ϡ (m+i<ϲ L/\C=(L.getD (m+i) ϰ).seq):=⟨aj,ae⟩;have bd:=eS (a:=C) (l:=sqT L (m+i));obtain⟨c,hc⟩:=nM ((sqT L (m+i)).count C);have an:=hV0 hc;rw[hc]at au av af bd;have bk:IntKind.i64.wrap ((c:Int)+1)=(c:Int)+1:=by rw[RW];have:=ak.o;omega
   rw[dN,show((1:Nat):Int)=1 from rfl]at af;have I:∀r,(some (w.heap.size+1+1):Option Nat)=some r->∃o:Obj,X.heap[r]? =some o/\o.isCells=false:=λr e=>by cases e;exact aq
   have d0:=Do c0 v I;have d3:=Do V v I;have d8:=Do c8 v I;have d2:=Do e2 v I;have df:=(aY V v I).trans j3;have f:ϡ (Aw GK X q/\KeepsFrom H.heap.size X q/\Ϣ w q/\q.heap[D1]? =some (.deferred (some []))):=⟨(Aw.refl _ _).grown v I,⟨v.size,λk o hk h _=>(v.block k (GS.1 h).1 (λe=>by cases e;omega)).trans h⟩,F.grown v F.size (λr e=>by cases e;omega),(v.block D1 (GS.1 j5).1 (λe=>by cases e;omega)).trans j5⟩;have HJ:ϡ (IC G L (m+i)/\Aw GK H X):=⟨j1,j⟩;have HQ:ϡ (Fa q (w.heap.size+1+1) (m+i+1) (sqT L (m+i)++[C])):=q0;clear hz J hc aq I q0 j0 j1 j aw ae aj;by_cases h1:C<G
   ·by_cases h2:c=0
    ·subst h2;have z0:((0:Nat):Int)=0:=rfl;rw[z0]at au;rw[z0,Int.zero_add]at av af bk
     gi_wp2
     have bj:sqT L (m+i+1)=sqT L (m+i)++[C]:=by rw[Ma A.o.1,<-A.o.2]
     have bi:IC G L (m+i+1):=Vj A.o.1 HJ.o.1 (by rw[<-A.o.2];exact h1) (by rw[<-A.o.2];exact an.o);exact⟨f.o.2.1,f.o.1,by rw[show m+(i+1)=m+i+1 by omega];exact bi,by rw[show m+(i+1)=m+i+1 by omega,bj];exact HQ.o,HJ.o.2.trans f.o.1,df,f.o.2.2.1,f.o.2.2.2⟩
    ·have h3:(1:Int)<(c:Int)+1:=ϣ;have Q:ϡ (false=R):=by
      show _=_;rw[<-ao.o];exact(Ra A.o.1 (by rw[<-A.o.2,an.o];exact h2)).symm
     gi_wp2
     exact⟨f.o.2.1.trans ((Rg _ _ _).from _),rfl,Q.o,JR _ _ _ d3,f.o.2.2.1.setCell ϩ _,(CB _ _ _ _ ϩ).trans f.o.2.2.2⟩
   ·have Q:ϡ (false=R):=by
     show _=_;rw[<-ao.o];exact(Vk A.o.1 (by rw[<-A.o.2];exact h1)).symm
    have h3:G<=C:=ϣ
    gi_wp2
    first
     |exact⟨f.o.2.1.trans ((Rg _ _ _).from _),rfl,Q.o,JR _ _ _ d3,f.o.2.2.1.setCell ϩ _,(CB _ _ _ _ ϩ).trans f.o.2.2.2⟩
     |exact⟨by rw[<-G9];exact f.o.2.1.trans ((Rg _ _ _).from _),rfl,Q.o.symm,JR _ _ _ d3,f.o.2.2.1.setCell ϩ _⟩
     |exact⟨by rw[<-G9];exact f.o.2.1.trans ((Rg _ _ _).from _),rfl,Q.o.symm,JR _ _ _ d3,f.o.2.2.1.setCell ϩ _,(CB _ _ _ _ ϩ).trans f.o.2.2.2⟩
  ·rintro D2 X2 cb ⟨bu,co,cl,cp,cm,cn⟩ E;have V:=cl.cell Aj a4;have Q:ϡ (true=R):=by
    show _=_;rw[<-ao.o]
    symm
    refine Af2 ?_;rw[lMp,bq.o,<-b5.o]at bu;exact bu
   gi_wp2
   rw[fu]
   gi_wp2
   have bc:(X2.setCell ⟨w+1,0,none⟩ (.bool true)).heap[D2]? =some (.deferred (some [])):=(CB _ _ _ _ ϩ).trans E;refine⟨ϥ,.inl ⟨_,_,rfl,RM bc,?_⟩⟩;have ag:((X2.setCell ⟨w+1,0,none⟩ (.bool true)).putObj D2 (.deferred none)).heap[D1]? =some (.deferred (some [])):=(Ts ϣ).trans ((CB _ _ _ _ ϩ).trans cn);refine⟨ϥ,.inl ⟨_,_,rfl,RM ag,?_⟩⟩;have y3:=CQ (CQ (JR _ _ (.bool true) V) bc rfl (.deferred none)) ag rfl (.deferred none);exact⟨.bool true,(by simp[results,results170,go_sem,y3]),Aa Q.o,CI (CI (cm.setCell ϩ _) ϣ bc _) ϣ ag _⟩
  ·rintro D2 c X2 cb ⟨rfl,hE,V,F,j5⟩ E
   gi_wp2
   refine⟨ϥ,.inl ⟨_,_,rfl,RM E,?_⟩⟩;have ag:(X2.putObj D2 (.deferred none)).heap[D1]? =some (.deferred (some [])):=(Ts ϣ).trans j5;refine⟨ϥ,.inl ⟨_,_,rfl,RM ag,?_⟩⟩;have y3:=CQ (CQ V E rfl (.deferred none)) ag rfl (.deferred none);exact⟨.bool false,(by simp[results,results170,go_sem,y3]),Aa hE,CI (CI F ϣ E _) ϣ ag _⟩
 ·rintro D1 c q ca ⟨rfl,hE,V,F,j5⟩ am
  gi_wp2
  refine⟨ϥ,.inl ⟨_,_,rfl,RM am,?_⟩⟩;have y3:=CQ V am rfl (.deferred none);exact⟨.bool false,(by simp[results,results170,go_sem,y3]),Aa hE,CI F ϣ am _⟩
end jn
