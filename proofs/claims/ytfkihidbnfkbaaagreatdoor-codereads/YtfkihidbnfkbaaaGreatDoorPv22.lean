import Derived.Test.YtfkihidbnfkbaaaGreatDoorPv17
import Derived.Test.YtfkihidbnfkbaaaGreatDoorPv21
set_option linter.all false
set_option maxHeartbeats 8000000
set_option maxRecDepth 100000
open Inhabited renaming default->ϰ
open List renaming length->ϲ
namespace Go.Proofs.YtfkihidbnfkbaaaGreatDoor
open ChangeShapes WideShapes ChangeAt RowKit Shelf List Proofs.Tryz
namespace bf
open vl
attribute [local go_sem] Oper.semAt_some
theorem Fl{F:Fence}{n:Nat}{e:Array Oper}{o:Oper}{a:Act}{K:Act->World->Prop}{Q:Exit->Act->World->Prop}{E:Prop}{w w':ϟ}{v g f:Value}(s x:Operand)(t:TypeId)(d:o.op=Op.call {callee:=Callee.builtin Builtin.append,args:=#[s,x],argTypes:=#[t,t]})
 (k:a.eval s=v) (m:a.eval x=g) (l:Region.wanted o (yielded e a.tmps)=true) (j:(Builtin.append_ #[t,t] o.type #[v,g]).run prog w= .ok f w') (h:K (a.put o.dst f) w'):
 if Region.wanted o (yielded e a.tmps)=true then Oper.wpIn F n prog o a w K Q else E:=by
 rw[AE l];unfold Oper.wpIn;refine⟨?_,?_⟩
 ·simp[Oper.about,d,resolve,Target.leads,dA]
 ·rw[Oper.semAt_plain F _ _ (by rw[d];intro c i;cases i)];simp[execOp,d,resolve,invoke,builtin,k,m,j,Result.andThen];exact h
theorem QE(fn:FuncId)(eg:∀az w,(callFunc fn az).run prog w= .ok (.enter fn az) w)(ac:Array Value)(P:Ent->Bool)(b:Buf)(x:BX)(w:ϟ)(h:bufAt w b x)(hs:ϲ (Ab b)<=100000)(ay:∀y∈Ab b,ϲ y.row<=1000000)
 (H:∀e y m,ER m e y->y∈Ab b->Ϣ w m->Calls prog fn (#[e.val]++ac) m (ψ m (.bool (P y)))):
 χ 376 #[Bh b x,.func (.func fn) #[] ac] w λe w'=>(∃(hh:Hdr) (es':List EM) (l':List Ent),e= .returned (hdV hh)/\l'.Perm ((Ab b).filter P)/\(∀i j,i<j->j<ϲ l'->¬ltP (l'.getD j ϰ) (l'.getD i ϰ))/\OE w' w (hdV hh) es' l')/\Ϣ w w':=by
 obtain⟨i0,a0,a3,a4,a5⟩:=IR Ul;have HI:ϡ (prog.info? 166=some i0/\i0.zero=some (.agg #[ϐ,Ϗ,Ϗ,ώ,ϑ])/\i0.size=5/\i0.bytes=64):=⟨a0,a3,a4,a5⟩;clear a0 a3 a4 a5;have HB:=hV0 h;have ah:ϡ (ERs w (ems (x.m::x.rs)) (Ab b)):=EC h;obtain⟨L,hL⟩:=nM (Ab b);rw[hL]at ah hs ay H⊢;have HH:ϡ (∀e y m,ER m e y->y∈L->Ϣ w m->CT fn (#[e.val]++ac) m (ψ m (.bool (P y)))):=H;have an:ϡ ((∀y∈L,ϲ y.row<=1000000)/\(ϲ L)<=100000):=⟨ay,hs⟩;clear hL h H ay hs;obtain⟨ra,rc,⟨⟨m1,m2,m3⟩,ml⟩,s⟩:=x;obtain⟨ag,bo,bp⟩:=b;unfold Bh;dsimp only at ah⊢;rw[show hdV (m1,m2,m3)=vS m1 m2 m3 from rfl];obtain⟨n,hn⟩:∃n,ϲ s=n:=⟨_,rfl⟩;have HN:=hV0 hn;rw[hn];clear hn;refine(DM (n:=0)).1 ?_;refine bH func376 rfl trivial ?_ rfl;simp only[ntmps376,St,DP,NS,Nat.reduceAdd,Nat.reduceSub,aU,aV,aW,aX,JV,KY]
 gi_wp2_with (refine⟨trivial,rfl,?_⟩;gi_at_call 237;refine(DM.2 (Jw _ _ _ rfl rfl rfl _)).mono ?_;rintro e w' ⟨rfl,rfl⟩)
 generalize aa:((((w.alloc (.cells (τ ag m1 m2 m3 ra n rc) 36)).alloc (.cells #[.func (.func fn) #[] ac] 247)).alloc (.cells #[ώ] 33)).alloc (.cells (τ ag m1 m2 m3 ra n rc) 36))=V at *;have V0:Δ V (w+1) 0 (.func (.func fn) #[] ac):=by subst aa;go_simp
 have V3:Δ V (w+1+1) 0 (vS none 0 0):=by subst aa;go_simp
 have V4:Ξ V (w+1+1) 0:=by subst aa;go_simp
 have V5:Δ V (w+1+1+1) 0 (vI ag):=by subst aa;go_simp
 have V6:Δ V (w+1+1+1) 1 (vS m1 m2 m3):=by subst aa;go_simp
 have V7:Δ V (w+1+1+1) 2 (vS ra n rc):=by subst aa;go_simp
 have V8:Ϣ w V:=by
  subst aa
  repeat (first|exact bR|(refine DH ?_ Ϫ _))
 have V9:V.heap.size=w.heap.size+1+1+1+1:=by subst aa;simp
 have T1:Am V (w+1) 247:=by subst aa;exact Ak (Ak ⟨_,_,(by have h:=DE (ϊ w (τ ag m1 m2 m3 ra n rc) 36) (.cells #[.func (.func fn) #[] ac] 247);rw[D0]at h;exact h)⟩ Ϯ) Ϯ
 have T2:Am V (w+1+1) 33:=by subst aa;exact Ak ⟨_,_,(by have h:=DE (ϊ (ϊ w (τ ag m1 m2 m3 ra n rc) 36) #[.func (.func fn) #[] ac] 247) (.cells #[ώ] 33);rw[D0,D0]at h;exact h)⟩ Ϯ
 have T3:Am V (w+1+1+1) 36:=by subst aa;exact⟨_,_,(by have h:=DE (ϊ (ϊ (ϊ w (τ ag m1 m2 m3 ra n rc) 36) #[.func (.func fn) #[] ac] 247) #[ώ] 33) (.cells (τ ag m1 m2 m3 ra n rc) 36);rw[D0,D0,D0]at h;exact h)⟩
 clear aa;have N1:names (Ng w.heap.size (w.heap.size+1+1)) V (w.heap.size+1):=UN T1 Ϥ ϣ;have N3:names (Ng w.heap.size (w.heap.size+1+1)) V (w.heap.size+1+1+1):=UN T3 Ϥ ϣ;have av:=Ia HB.o V8 (w.heap.size+1+1+1) (Ng w.heap.size (w.heap.size+1+1)) V5 V6 (by rw[HN.o];exact V7) N3 (λk hk=>Aa7 hk ϣ) (λk c f hk=>⟨ϣ,λc' f' e=>by injection e with _ e2 _;exact absurd e2 Ϥ⟩) (λk c f hk=>⟨ϣ,λc' f' e=>by injection e with _ e2 _;exact absurd e2 Ϥ⟩);have a8:ϡ (Mk V w.heap.size (w.heap.size+1+1) (vS none 0 0) [] []):=⟨DJ ϣ,V3,V4,T2⟩;clear V3 V4 V5 V6 V7 T1 T2 T3;dsimp only at av;obtain⟨E,hE⟩:=nM (ems ((((m1,m2,m3):Hdr),ml)::s));rw[hE]at av ah;clear hE;refine DF (gf:=276) (lb:=#[.pointer (some ⟨w+1+1+1,0,none⟩)]) rfl (IB func276 Ϧ rfl) av bR (λx hx=>by obtain⟨p,_,rfl⟩:=DS.1 hx;rfl) (λh k=>Aw.trans h k) (λW l o o' _ h ho=>Aw.put W l o o' h ho)
  (λi X=>(∃(v:Hdr) (es':List EM),Mk X w.heap.size (w.heap.size+1+1) (hdV v) es' ((L.take i).filter P))/\Aw (Ng w.heap.size (w.heap.size+1+1)) V X/\Ϣ w X) (λc X=>False)
  (λi X X' a7 hs S hr=>by
   obtain⟨⟨v,es',q⟩,h2,h3⟩:=hs;exact⟨⟨v,es',q.row S (λr e=>(hr r e).2)⟩,h2.grown S (λr e=>(hr r e).2),Dy h3 nR ϣ S hr⟩)
  (λc X X' a7 hs S hr=>hs)
  ⟨⟨(none,0,0),[],a8.o⟩,Aw.refl _ _,V8⟩
  (λi a' X=> ∃B,a'={tmps:=#[.agg #[vI ag,vS m1 m2 m3,vS ra n rc],.func (.func fn) #[] ac,.pointer (some ⟨w,0,none⟩),.pointer (some ⟨w+1,0,none⟩),vS none 0 0,.pointer (some ⟨w+1+1,0,none⟩),.pointer (some ⟨B,0,none⟩),.agg #[vI ag,vS m1 m2 m3,vS ra n rc],.func (.func 276) #[] #[.pointer (some ⟨w+1+1+1,0,none⟩)],(E.getD i ϰ).val,undef,undef,undef,undef,undef,undef,undef,undef,undef,undef,undef],defers:=[]}/\ϖ X B (.string (E.getD i ϰ).key) (vI (E.getD i ϰ).time) (vI (E.getD i ϰ).seq) (hdV (E.getD i ϰ).row) (.bool (E.getD i ϰ).met))
  (λi a' u X X' a7 hs S hr=>by
   obtain⟨B,h1,h2,h3,h4,h5,h6⟩:=hs;exact⟨B,h1,Do h2 S (λr e=>(hr r e).2),Do h3 S (λr e=>(hr r e).2),Do h4 S (λr e=>(hr r e).2),Do h5 S (λr e=>(hr r e).2),Do h6 S (λr e=>(hr r e).2)⟩) ?assign ?body ?done ?stop
 case assign=>
  intro l' k x X K hx hi d;obtain⟨hk,a1⟩:=JT.1 hx;rw[lMp]at hk;rw[aP]at a1;subst a1;have hd:E.getD k ϰ=E[k]:=by rw[gDe,gEe hk];rfl
  have af:=d;rw[hd]at af;clear d hd hx;obtain⟨⟨ek,et,es,⟨r1,r2,r3⟩,em⟩,hz⟩:∃z,E[k]=z:=⟨_,rfl⟩;rw[hz]at af⊢;unfold EM.val hdV at af⊢;dsimp only at af⊢;obtain⟨⟨v,es',q⟩,j2,J⟩:=hi
  gi_wp2
  exact af _ _ ((bQ _ _).from _) (Aw.alloc _ _) ⟨⟨v,es',q.below Ϯ⟩,j2.trans (Aw.alloc _ _),J.alloc J.size _⟩ ⟨X.heap.size,rfl,ϧ,ϧ,ϧ,ϧ,ϧ⟩
 case body=>
  intro l' i x a' X hx bj bm bc ap;obtain⟨⟨⟨Q,U,R⟩,es',q⟩,j2,J⟩:=bc;obtain⟨B,ap,b0,b1,b2,b3,b4⟩:=ap;subst ap;obtain⟨hi,_⟩:=JT.1 hx;rw[lMp]at hi;have bb:=ah.o.1;have au:i<ϲ L:=ϣ;have al:=ah.o.2 i au;have aw:L.getD i ϰ∈L:=Bc au;have KK:ϡ (∀m,Ϣ X m->CT fn (#[(E.getD i ϰ).val]++ac) m (ψ m (.bool (P (L.getD i ϰ))))):=λm hb=>HH.o _ _ m (al.below (bT J hb)) aw (bT J hb);have KF:ϡ (∀m,Ϣ X m->CT 295 #[(E.getD i ϰ).val] m λr w'=>(∃ad c,r= .returned ((E.getD i ϰ).to (ad,ϲ (L.getD i ϰ).row,c)).val/\AF w' m (vS ad (ϲ (L.getD i ϰ).row) c) (L.getD i ϰ).row)/\Ϣ m w'):=λm hb=>Hu _ _ m (al.below (bT J hb)) (an.o.1 _ aw);have HF:ϡ ((L.take (i+1)).filter P=(L.take i).filter P++(if P (L.getD i ϰ)=true then [L.getD i ϰ]else [])):=MZ au;have G:=hV0 al;have HM:=hV0 q;have aq:ϲ es'<=100000:=by
   have h1:=q.oe.len;have h2:=aZ P (L.take i);have h3:=an.o.2;rw[DA]at h2;omega
  have be:U=ϲ es':=by
   obtain⟨ad,cp,hf⟩:=q.oe.form;unfold hdV at hf;injection hf with _ e2 _
  obtain⟨yy,a2⟩:=nM (L.getD i ϰ);rw[a2]at KK KF HF G;obtain⟨⟨ek,et,ae,⟨r1,r2,r3⟩,em⟩,hz⟩:∃z,E.getD i ϰ=z:=⟨_,rfl⟩;rw[hz]at KK KF b0 b1 b2 b3 b4 G⊢;unfold EM.val EM.to hdV at KF;unfold EM.val hdV at KK;unfold hdV at b3;dsimp only at KK KF b0 b1 b2 b3 b4;have c0:=j2.cell N1 V0;have cL:Δ X (w+1+1) 0 (vS Q U R):=q.c;have lL:=A7 q.ty;have lB:B<X.heap.size:=bLt _ _ b0;have bk:prog.follows .mixedOrders=true:=Ϧ;have HJ:ϡ (Aw (Ng w.heap.size (w.heap.size+1+1)) V X):=j2;clear hz a2 hx q al aw bb j2;obtain⟨rl,ax⟩:=nM (ϲ yy.row);have ak:=hV0 ax;rw[ax]at KF;clear ax
  cases hp:P yy with
  |false=>
   rw[hp]at KK HF
   gi_wp2_with (refine⟨trivial,rfl,?_⟩;refine(Pl l' (DM.2 (KK.o _ bR))).mono ?_;rintro e w2 ⟨rfl,Y⟩)
   exact⟨BW Y,λk ob h1 _ _=>(Y.block k (GS.1 h1).1).trans h1,⟨(Q,U,R),es',by rw[HF.o];simpa using HM.o.below Y⟩,HJ.o.trans (λk ob h1 _ _=>(Y.block k (GS.1 h1).1).trans h1),bT J Y⟩
  |true=>
   rw[hp]at KK HF;subst be;obtain⟨en,ar⟩:=nM (ϲ es');have A:=hV0 ar;rw[ar]at aq cL;clear ar
   gi_wp2_with (refine⟨trivial,rfl,?_⟩;refine(Pl l' (DM.2 (KK.o _ bR))).mono ?_;rintro e w2 ⟨rfl,Y⟩;have d0:=cLz Y b0;have d1:=cLz Y b1;have d2:=cLz Y b2;have d3:=cLz Y b3;have d4:=cLz Y b4;have dL:=cLz Y cL)
   have Z:Ϣ X w2:=Y;have am:ϡ (∀O M N,Ϣ X O->∃g F w4,(Builtin.append_ #[33,33] 33 #[vS Q en R,vS (ϋ O) 1 1]).run prog (ϊ O (φ ek et ae M rl N em) 166)= .ok (vS (ϋ g) (en+1) F) w4/\
    w4.ownsRow w 166 5 (vS (ϋ g) (en+1) F) (en+1) (Ap es'++[.string ek,vI et,vI ae,vS M rl N,.bool em])/\(O.alloc (.cells (φ ek et ae M rl N em) 166)).grownBy w4 (Value.slice Q en R).ownBlock):=λO M N hb=>by
    have ho:=own_below HM.o.oe.own hb;unfold hdV at ho;rw[A.o]at ho;have bn:=B0 J.size hb.size;obtain⟨v4,w4,q1,q2,q3,_⟩:=run_append_own (P:=prog) (ϊ O (φ ek et ae M rl N em) 166) w.heap.size 33 33 166 i0 (.agg #[ϐ,Ϗ,Ϗ,ώ,ϑ]) 5 64 underlying33 HI.o.1 HI.o.2.1 HI.o.2.2.1 HI.o.2.2.2 rfl Ϥ _ en _ (WD ho _) ⟨O,0,none⟩ 1 1 [.string ek,vI et,vI ae,vS M rl N,.bool em] rfl (Eu _ _ _ _ _ _ _) (by intro u hu;simp at hu;rcases hu with rfl|rfl|rfl|rfl|rfl<;>rfl) ϭ ϣ Ϩ;obtain⟨g,F,bg⟩:=Oi q2;subst bg;exact⟨g,F,w4,q1,q2,q3⟩
   refine wpIn_region_any (by assumption) ?_
   try (change wpAnyIn _ _ _ _ _ _ _ _ _ (World.drew _))
   refine S0 (rs:=[0,1]) Ϧ ϥ ?_;refine Pc rfl (λK d=>?_) ?_
   ·skip;go_simp;refine d _ _ ?_;clear d K;refine S0 (rs:=[1]) Ϧ ϥ ?_;refine Pc rfl (λK d=>?_) ?_
    ·skip;go_simp;refine d _ _ ?_;clear d K;refine S0 (rs:=[2]) Ϧ ϥ ?_;refine Pc rfl (λK d=>?_) ?_
     ·skip;go_simp
      gi_wp2_with (refine⟨trivial,rfl,?_⟩;gi_at_call 295;refine(Pl l' (DM.2 (KF.o _ Z.drew))).mono ?_;rintro e O ⟨⟨M,N,rfl,ai⟩,aj⟩;have I:Ϣ X O:=Z.drew.trans (aj.mono Z.size);have fL:=cLz I cL;have a6:=NE lL I.size;obtain⟨g4,F,w4,q1,q2,q3⟩:=am.o O M N I;have T:=Xq HM.o I (by unfold hdV;dsimp only;rw[A.o];exact q3);unfold hdV at T;dsimp only at T;rw[A.o]at T;obtain⟨m4,mf⟩:=T)
      try (refine d _ _ ?_;clear d K)
      refine S0 (rs:=[3]) Ϧ ϥ ?_;refine Pc rfl (λK d=>?_) ?_
      ·skip;go_simp;refine d _ _ ?_;clear d K;refine S0 (rs:=[4]) Ϧ ϥ ?_;refine Pc rfl (λK d=>?_) ?_
       ·skip;refine Fl (.tmp 13) (.tmp 16) 33 rfl rfl rfl rfl q1 ?_;refine d _ _ ?_;clear d K;refine S0 (rs:=[5]) Ϧ ϥ ?_;refine Pc rfl (λK d=>?_) ?_
        ·skip;go_simp;refine d _ _ ?_;clear d K;refine eU Ϧ ?_ _
         gi_wp2
         have ab:=N8 (e:=⟨ek,et,ae,(M,rl,N),em⟩) (y:=yy) (g:=g4) (c4:=F) HM.o I ⟨G.o.key,G.o.time,G.o.seq,G.o.met,ak.o.symm,by unfold hdV;dsimp only;exact D7 ai (by have:=Z.size;have:=J.size;show w.heap.size<=w2.heap.size;omega)⟩ ϣ (by rw[A.o];exact q2) (by unfold hdV;dsimp only;rw[A.o];exact q3) V.heap.size;rw[A.o]at ab;obtain⟨s1,s2,s3,s4⟩:=ab;exact⟨s4,s3,⟨(some ⟨g4,0,none⟩,en+1,F),_,by rw[HF.o,AE ϫ];exact s1⟩,HJ.o.trans s3,J.trans s2⟩
        exact S5
       exact S5
      exact S5
     exact S5
    exact S5
   refine Pc rfl (λK d=>?_) ?_
   ·skip;go_simp;refine d _ _ ?_;clear d K;refine S0 (rs:=[0,2]) Ϧ ϥ ?_;refine Pc rfl (λK d=>?_) ?_
    ·skip;go_simp;refine d _ _ ?_;clear d K;refine S0 (rs:=[2]) Ϧ ϥ ?_;refine Pc rfl (λK d=>?_) ?_
     ·skip;go_simp
      gi_wp2_with (refine⟨trivial,rfl,?_⟩;gi_at_call 295;refine(Pl l' (DM.2 (KF.o _ Z.drew))).mono ?_;rintro e O ⟨⟨M,N,rfl,ai⟩,aj⟩;have I:Ϣ X O:=Z.drew.trans (aj.mono Z.size);have fL:=cLz I cL;have a6:=NE lL I.size;obtain⟨g4,F,w4,q1,q2,q3⟩:=am.o O M N I;have T:=Xq HM.o I (by unfold hdV;dsimp only;rw[A.o];exact q3);unfold hdV at T;dsimp only at T;rw[A.o]at T;obtain⟨m4,mf⟩:=T)
      try (refine d _ _ ?_;clear d K)
      refine S0 (rs:=[3]) Ϧ ϥ ?_;refine Pc rfl (λK d=>?_) ?_
      ·skip;go_simp;refine d _ _ ?_;clear d K;refine S0 (rs:=[4]) Ϧ ϥ ?_;refine Pc rfl (λK d=>?_) ?_
       ·skip;refine Fl (.tmp 13) (.tmp 16) 33 rfl rfl rfl rfl q1 ?_;refine d _ _ ?_;clear d K;refine S0 (rs:=[5]) Ϧ ϥ ?_;refine Pc rfl (λK d=>?_) ?_
        ·skip;go_simp;refine d _ _ ?_;clear d K;refine eU Ϧ ?_ _
         gi_wp2
         have ab:=N8 (e:=⟨ek,et,ae,(M,rl,N),em⟩) (y:=yy) (g:=g4) (c4:=F) HM.o I ⟨G.o.key,G.o.time,G.o.seq,G.o.met,ak.o.symm,by unfold hdV;dsimp only;exact D7 ai (by have:=Z.size;have:=J.size;show w.heap.size<=w2.heap.size;omega)⟩ ϣ (by rw[A.o];exact q2) (by unfold hdV;dsimp only;rw[A.o];exact q3) V.heap.size;rw[A.o]at ab;obtain⟨s1,s2,s3,s4⟩:=ab;exact⟨s4,s3,⟨(some ⟨g4,0,none⟩,en+1,F),_,by rw[HF.o,AE ϫ];exact s1⟩,HJ.o.trans s3,J.trans s2⟩
        exact S5
       exact S5
      exact S5
     exact S5
    refine Pc rfl (λK d=>?_) ?_
    ·skip;go_simp
     gi_wp2_with (refine⟨trivial,rfl,?_⟩;gi_at_call 295;refine(Pl l' (DM.2 (KF.o _ Z.drew))).mono ?_;rintro e O ⟨⟨M,N,rfl,ai⟩,aj⟩;have I:Ϣ X O:=Z.drew.trans (aj.mono Z.size);have fL:=cLz I cL;have a6:=NE lL I.size;obtain⟨g4,F,w4,q1,q2,q3⟩:=am.o O M N I;have T:=Xq HM.o I (by unfold hdV;dsimp only;rw[A.o];exact q3);unfold hdV at T;dsimp only at T;rw[A.o]at T;obtain⟨m4,mf⟩:=T)
     try (refine d _ _ ?_;clear d K)
     refine S0 (rs:=[0,3]) Ϧ ϥ ?_;refine Pc rfl (λK d=>?_) ?_
     ·skip;go_simp;refine d _ _ ?_;clear d K;refine S0 (rs:=[3]) Ϧ ϥ ?_;refine Pc rfl (λK d=>?_) ?_
      ·skip;go_simp;refine d _ _ ?_;clear d K;refine S0 (rs:=[4]) Ϧ ϥ ?_;refine Pc rfl (λK d=>?_) ?_
       ·skip;refine Fl (.tmp 13) (.tmp 16) 33 rfl rfl rfl rfl q1 ?_;refine d _ _ ?_;clear d K;refine S0 (rs:=[5]) Ϧ ϥ ?_;refine Pc rfl (λK d=>?_) ?_
        ·skip;go_simp;refine d _ _ ?_;clear d K;refine eU Ϧ ?_ _
         gi_wp2
         have ab:=N8 (e:=⟨ek,et,ae,(M,rl,N),em⟩) (y:=yy) (g:=g4) (c4:=F) HM.o I ⟨G.o.key,G.o.time,G.o.seq,G.o.met,ak.o.symm,by unfold hdV;dsimp only;exact D7 ai (by have:=Z.size;have:=J.size;show w.heap.size<=w2.heap.size;omega)⟩ ϣ (by rw[A.o];exact q2) (by unfold hdV;dsimp only;rw[A.o];exact q3) V.heap.size;rw[A.o]at ab;obtain⟨s1,s2,s3,s4⟩:=ab;exact⟨s4,s3,⟨(some ⟨g4,0,none⟩,en+1,F),_,by rw[HF.o,AE ϫ];exact s1⟩,HJ.o.trans s3,J.trans s2⟩
        exact S5
       exact S5
      exact S5
     refine Pc rfl (λK d=>?_) ?_
     ·skip;go_simp;refine d _ _ ?_;clear d K;refine S0 (rs:=[0]) Ϧ ϥ ?_;refine Pc rfl (λK d=>?_) ?_
      ·skip;go_simp;refine d _ _ ?_;clear d K;refine S0 (rs:=[4]) Ϧ ϥ ?_;refine Pc rfl (λK d=>?_) ?_
       ·skip;refine Fl (.tmp 13) (.tmp 16) 33 rfl rfl rfl rfl q1 ?_;refine d _ _ ?_;clear d K;refine S0 (rs:=[5]) Ϧ ϥ ?_;refine Pc rfl (λK d=>?_) ?_
        ·skip;go_simp;refine d _ _ ?_;clear d K;refine eU Ϧ ?_ _
         gi_wp2
         have ab:=N8 (e:=⟨ek,et,ae,(M,rl,N),em⟩) (y:=yy) (g:=g4) (c4:=F) HM.o I ⟨G.o.key,G.o.time,G.o.seq,G.o.met,ak.o.symm,by unfold hdV;dsimp only;exact D7 ai (by have:=Z.size;have:=J.size;show w.heap.size<=w2.heap.size;omega)⟩ ϣ (by rw[A.o];exact q2) (by unfold hdV;dsimp only;rw[A.o];exact q3) V.heap.size;rw[A.o]at ab;obtain⟨s1,s2,s3,s4⟩:=ab;exact⟨s4,s3,⟨(some ⟨g4,0,none⟩,en+1,F),_,by rw[HF.o,AE ϫ];exact s1⟩,HJ.o.trans s3,J.trans s2⟩
        exact S5
       exact S5
      exact S5
     exact S5
    exact S5
   exact S5
 case done=>
  rintro D X hD ⟨⟨⟨Q,U,R⟩,es',q⟩,j2,J⟩ d;rw[lMp,ah.o.1,Ok]at q;have aq:ϲ es'<=1000000:=by
   have h1:=q.oe.len;have h2:=aZ P L;have h3:=an.o.2;omega
  have cL:Δ X (w+1+1) 0 (vS Q U R):=q.c;have lL:=A7 q.ty;have lD:D<X.heap.size:=(GS.1 d).1;have bh:ϡ (OE X w (vS Q U R) es' (L.filter P)):=q.oe;have KS:ϡ (CT 351 #[vS Q U R,.func (.func 272) #[] #[]] X λe w'=>e= .returned (.tuple #[])/\∃ao l2,l2.Perm (L.filter P)/\(∀i j,i<j->j<ϲ l2->¬ltP (l2.getD j ϰ) (l2.getD i ϰ))/\OE w' w (vS Q U R) ao l2/\Below w.heap.size X w'/\(∀b,b<X.heap.size->(Value.slice Q U R).ownBlock≠some b->w'.heap[b]? =X.heap[b]?)):=UL w.heap.size (vS Q U R) es' (L.filter P) X q.oe aq;have ba:ϡ ((Value.slice Q U R).ownBlock≠some (w.heap.size+1+1)):=λe=>tyAt_apart (Az q.oe.own e) q.ty Ϥ rfl;have a9:ϡ ((Value.slice Q U R).ownBlock≠some D):=λe=>by
   obtain⟨cc,ff,k⟩:=Az q.oe.own e;rw[d]at k;cases k
  clear q j2
  gi_wp2_with (refine⟨trivial,rfl,?_⟩;gi_at_call 351;refine(DM.2 KS.o).mono ?_;rintro e w2 ⟨rfl,ao,l2,hp,hs,bd,hb,hk⟩;have dL:Δ w2 (w+1+1) 0 (vS Q U R):=(cOb (a:=⟨w+1+1,0,none⟩) (hk _ lL ba.o)).trans cL)
  have af:w2.heap[D]? =some (.deferred (some [])):=(hk D lD a9.o).trans d;refine⟨ϥ,.inl ⟨_,_,rfl,RM af,?_⟩⟩;refine⟨_,results_tmp rfl _ _ _,⟨(Q,U,R),ao,l2,rfl,hp,hs,?_⟩,CI (J.trans hb) ϣ af _⟩;exact bd.same ϥ (λg bi t S _=>Ts (λe=>by rw[e]at S;rw[af]at S;cases S))
 case stop=>
  rintro D c X hD h d;exact h.elim
def Nq(l:List Ent):Prop:=∀i j,i<j->j<ϲ l->¬ltP (l.getD j ϰ) (l.getD i ϰ)
theorem IU(b:Buf)(x:BX)(w:ϟ)(h:bufAt w b x)(E:∀y∈Ab b,wfE y/\wfP (AJ y))(B:ϲ (Ab b)<=4611686018427387904)(i:D6 b=0):
 χ 386 #[Bh b x] w λe d=>(∃(c:Hdr) (es':List EM) (l':List Ent),e= .returned (.tuple #[hdV c,Ϗ])/\l'.Perm (Ab b)/\Nq l'/\OE d w (hdV c) es' l')/\Ϣ w d:=by
 have r:ϡ (∀a,Ϣ w a->CT 100 #[Bh b x] a (ψ a (vI 0))):=λa s=>by
  have:=Bb b x a (Ao h s) E B;rwa[i]at this
 have D:=(ED i).small;have F:=(ED i).all;have f:ϡ (∀a,Ϣ w a->CT 376 #[Bh b x,.func (.func 254) #[] #[]] a λe d=>(∃(c:Hdr) (es':List EM) (l':List Ent),e= .returned (hdV c)/\l'.Perm (Ab b)/\Nq l'/\OE d a (hdV c) es' l')/\Ϣ a d):=λa s=>by
  have k:=QE 254 (IB func254 Ϧ rfl) #[] (λ_=>true) b x a (Ao h s) ϣ D.2.2 (λe y w2 _ _ _=>by rw[eL];exact Im e w2);rw[dB.2 (λ_ _=>rfl)]at k;exact k
 clear h E B i D F;obtain⟨L,v⟩:=nM (Ab b);rw[v]at f⊢;clear v;obtain⟨p,q,⟨⟨l,m,o⟩,K⟩,u⟩:=x;obtain⟨j,J,M⟩:=b;rw[show Bh ⟨j,J,M⟩ ⟨p,q,((l,m,o),K),u⟩= .agg #[vI j,vS l m o,vS p (ϲ u) q]from rfl]at r f⊢;obtain⟨n,A⟩:∃n,ϲ u=n:=⟨_,rfl⟩;rw[A]at r f⊢;clear A;have z:Ϣ w (ϊ w (τ j l m o p n q) 36):=Ϯ;go_enter func386,ntmps386;go_wp2_with (first
  |(go_at_call 100;refine(r.o _ z).mono ?_;rintro e w2 ⟨rfl,g⟩;have t:Ϣ w w2:=bT z g;have N:Δ w2 w 0 (vI j):=cLz g ϧ;have O:Δ w2 w 1 (vS l m o):=cLz g ϧ;have P:Δ w2 w 2 (vS p n q):=cLz g ϧ)
  |(go_at_call 376;refine(f.o _ t).mono ?_;rintro e Q ⟨⟨c,es',l',rfl,I,hy,H⟩,G⟩))
 go_ret2
 exact⟨⟨c,es',l',rfl,I,hy,H.mono t.size⟩,bT t G⟩
def Kw(k:ByteArray)(a z:Int)(y:Ent):Bool:=decide (y.key=k)&&(decide (a<=y.time)&&decide (y.time<=z))
theorem ZY(e:EM)(k:ByteArray)(a z:Int)(i j l:Nat)(w:ϟ)(h1:Δ w i 0 (.string k))(o:Δ w j 0 (vI a))(p:Δ w l 0 (vI z)):
 χ 377 #[e.val,ω i,ω j,ω l] w (ψ w (.bool (decide (e.key=k)&&(decide (a<=e.time)&&decide (e.time<=z))))):=by
 obtain⟨g,h,s,⟨y,A,B⟩,r⟩:=e;unfold EM.val hdV;dsimp only;have t:i<w.heap.size:=bLt _ _ h1;have u:j<w.heap.size:=bLt _ _ o;have v:l<w.heap.size:=bLt _ _ p;obtain⟨R,c⟩:∃q,(decide (g=k)&&(decide (a<=h)&&decide (h<=z)))=q:=⟨_,rfl⟩;rw[c];by_cases f:g=k
 ·by_cases m:a<=h
  ·by_cases n:h<=z
   ·have d:ϡ (R=true):=by show _=_;rw[<-c];simp[f,m,n]
    clear c;subst f;go_enter func377,ntmps377;go_wp2;go_ret;exact⟨Aa d.o.symm,Ϯ⟩
   ·have d:ϡ (R=false):=by show _=_;rw[<-c];simp[n]
    clear c;subst f;go_enter func377,ntmps377;go_wp2;go_ret;exact⟨Aa d.o.symm,Ϯ⟩
  ·have d:ϡ (R=false):=by show _=_;rw[<-c];simp[m]
   clear c;subst f;go_enter func377,ntmps377;go_wp2;go_ret;exact⟨Aa d.o.symm,Ϯ⟩
 ·have d:ϡ (R=false):=by show _=_;rw[<-c];simp[f]
  clear c;have D:¬g.toList=k.toList:=λe=>f (by have:=bytes_beq g k;rw[e]at this;simpa using this.symm);go_enter func377,ntmps377;go_wp2;go_ret;exact⟨Aa d.o.symm,Ϯ⟩
theorem AeW(b:Buf)(x:BX)(k:ByteArray)(a z:Int)(w:ϟ)(h:bufAt w b x)(H:∀y∈Ab b,wfE y/\wfP (AJ y))(F:ϲ (Ab b)<=4611686018427387904)(j:D6 b=0):
 χ 363 #[Bh b x,.string k,vI a,vI z] w λe g=>(∃(f:Hdr) (es':List EM) (l':List Ent),e= .returned (.tuple #[hdV f,Ϗ])/\l'.Perm ((Ab b).filter (Kw k a z))/\Nq l'/\OE g w (hdV f) es' l')/\Ϣ w g:=by
 have s:ϡ (∀c,Ϣ w c->CT 100 #[Bh b x] c (ψ c (vI 0))):=λc t=>by
  have:=Bb b x c (Ao h t) H F;rwa[j]at this
 have G:=(ED j).small;have M:=(ED j).all;have i:ϡ (∀c,Ϣ w c->Δ c (w+1) 0 (.string k)->Δ c (w+1+1) 0 (vI a)->Δ c (w+1+1+1) 0 (vI z)->CT 376 #[Bh b x,.func (.func 377) #[] #[ω (w+1),ω (w+1+1),ω (w+1+1+1)]] c λe g=>(∃(f:Hdr) (es':List EM) (l':List Ent),e= .returned (hdV f)/\l'.Perm ((Ab b).filter (Kw k a z))/\Nq l'/\OE g c (hdV f) es' l')/\Ϣ c g):=λc t I J K=>
  QE 377 (IB func377 Ϧ rfl) #[ω (w+1),ω (w+1+1),ω (w+1+1+1)] (Kw k a z) b x c (Ao h t) ϣ G.2.2 (λe y w2 D _ d=>by
   have:=ZY e k a z (w.heap.size+1) (w.heap.size+1+1) (w.heap.size+1+1+1) w2 (cLz d I) (cLz d J) (cLz d K);rw[D.key,D.time]at this;exact this)
 clear h H F j G M;obtain⟨L,A⟩:∃X,(Ab b).filter (Kw k a z)=X:=⟨_,rfl⟩;rw[A]at i⊢;clear A;obtain⟨q,r,⟨⟨m,o,p⟩,U⟩,v⟩:=x;obtain⟨l,T,V⟩:=b;rw[show Bh ⟨l,T,V⟩ ⟨q,r,((m,o,p),U),v⟩= .agg #[vI l,vS m o p,vS q (ϲ v) r]from rfl]at s i⊢;obtain⟨n,E⟩:∃n,ϲ v=n:=⟨_,rfl⟩;rw[E]at s i⊢;clear E;have B:Ϣ w (ϊ (ϊ (ϊ (ϊ w (τ l m o p q n r) 36) #[.string k] 9) #[vI a] 3) #[vI z] 3):=by
  repeat (first|exact bR|(refine DH ?_ Ϫ _))
 go_enter func363,ntmps363;go_wp2_with (first
  |(go_at_call 100;refine(s.o _ B).mono ?_;rintro e w2 ⟨rfl,d⟩;have u:Ϣ w w2:=bT B d;have Y:Δ w2 w 0 (vI l):=cLz d ϧ;have Z:Δ w2 w 1 (vS m o p):=cLz d ϧ;have k2:Δ w2 w 2 (vS q n r):=cLz d ϧ;have Q:Δ w2 (w+1) 0 (.string k):=cLz d ϧ;have R:Δ w2 (w+1+1) 0 (vI a):=cLz d ϧ;have S:Δ w2 (w+1+1+1) 0 (vI z):=cLz d ϧ)
  |(go_at_call 376;refine(i.o _ u Q R S).mono ?_;rintro e w3 ⟨⟨f,es',l',rfl,P,hy,O⟩,N⟩))
 go_ret2
 exact⟨⟨f,es',l',rfl,P,hy,O.mono u.size⟩,bT u N⟩
def Ag0(k:Int)(w:ϟ)(h:A8 k 1 64=true):χ 152 #[vI k] w (ψ w (.tuple #[.agg #[vI k,ώ,ώ],Ϗ])):=by
 have c:ϡ (∀a,CT 166 #[vI k] a λe d=>e= .returned (.bool true)/\d=a):=λa=>by have:=IJ k a;rwa[h]at this
 clear h;go_enter func152,ntmps152;go_wp2_with (go_at_call 166;refine(c.o _).mono ?_;rintro e w2 ⟨rfl,rfl⟩);exact CD (v:=.tuple #[.agg #[vI k,ώ,ώ],Ϗ]) (by simp[results,results152,go_sem]) rfl ⟨rfl,Ϯ⟩
end bf
namespace bf
open vl
variable {b : Buf} {W W' w w2 : ϟ} {C NB base : Nat} {x : BX} {es' : List EM} {l' : List Ent}
def Kx(h:okB b):Ei (λ_=>true) b=b:=by
 obtain⟨i,d,a⟩:=b;have c:=h.full;unfold Ei ET;dsimp only at c⊢;have e:d.filter (λ_=>true)=d:=dB.2 (λ_ _=>rfl);have f:a.map (·.filter (λ_=>true))=a:=by
  conv=>rhs;rw[<-map_id a]
  refine map_congr_left (λr _=>?_);exact dB.2 (λ_ _=>rfl)
 rw[e,f,dB.2 (λr g=>DB (c r g))]
def OB.run(h:OB w base x b){p:Part}(f:p∈x.rs):∃i,i<ϲ b.runs/\x.rs.getD i ϰ=p/\OE w base (hdV p.1) p.2 (b.runs.getD i ϰ):=by
 obtain⟨i,a,rfl⟩:=LT f;have e:x.rs.getD i ϰ=x.rs[i]:=by rw[gDe,gEe a];rfl
 have c:i<ϲ b.runs:=by rw[<-h.rlen];exact a
 have d:=h.runs i c;rw[e]at d;exact⟨i,c,e,d⟩
theorem AcC{w':ϟ}{d:Hdr}(h:OB w base x b)(z:OE w' base (hdV d) es' l')(s:w.heap.size<=w'.heap.size)(r:∀k,k<w.heap.size->(hdV x.m.1).ownBlock≠some k->w'.heap[k]? =w.heap[k]?)
 (v:∀g,(hdV d).ownBlock=some g->(hdV x.m.1).ownBlock=some g\/w.heap.size<=g):OB w' base ⟨x.ra,x.rc,(d,es'),x.rs⟩ ⟨b.lim,l',b.runs⟩:=by
 have m:=WF.1 h.two;refine⟨B0 h.low s,z,A4 h.hds (λg a=>r g (AL h.hds a).2 (λe=>JB h.mem.own h.hds Ϥ e a)),h.rlen,λi f=>?_,?_⟩
 ·have j:=h.runs i f;have y:i<ϲ x.rs:=by rw[h.rlen];exact f
  have u:apB (hdV x.m.1) (hdV (x.rs.getD i ϰ).1):=m.1 _ (DS.2 ⟨_,Bc y,rfl⟩);refine j.same s (λg D t a l=>r g (GS.1 a).1 (λe=>?_));rcases l with⟨B,_⟩|l
  ·exact u g e B
  ·subst l;exact tyAt_apart (Az h.mem.own e) ⟨_,_,a⟩ Ϥ rfl
 ·refine WF.2 ⟨λc o g a q=>?_,m.2⟩;rcases v g a with n|n
  ·exact m.1 c o g n q
  ·obtain⟨p,A,rfl⟩:=DS.1 o;obtain⟨i,f,_,j⟩:=h.run A;have:=(AL j.own q).2;omega
theorem AeX{g cap2:Nat}(h:OB w base x b)(s:w2.ownsRow base 33 1 (vS (ϋ g) (ϲ x.rs+1) cap2) (ϲ x.rs+1) ((x.rs.map λp=>hdV p.1)++[hdV x.m.1]))(d:w.heap.size<=w2.heap.size)
 (m:∀k,Am w k 166\/Am w k 119->w2.heap[k]? =w.heap[k]?):OB w2 base ⟨some ⟨g,0,none⟩,cap2,((none,0,0),[]),x.rs++[x.m]⟩ ⟨b.lim,[],b.runs++[b.mem]⟩:=by
 have n:=WF.1 h.two;refine⟨B0 h.low d,DJ (B0 h.low d),?_,?_,λi f=>?_,?_⟩
 ·dsimp only;rw[lAp,DQ];exact s
 ·dsimp only;rw[lAp,lAp,h.rlen];rfl
 ·dsimp only at f⊢;rw[lAp]at f;by_cases j:i<ϲ b.runs
  ·rw[Ba (by rw[h.rlen];exact j),Ba j];exact(h.runs i j).other d m
  ·have:i=ϲ b.runs:=by simp at f;omega
   subst this;rw[Bf (by rw[h.rlen];exact HU _),Bf nR,h.rlen,cW];exact h.mem.other d m
 ·dsimp only;rw[P3,DQ];refine WF.2 ⟨λc _ l e=>(by cases e),eO.2 ⟨n.2,eQ _ _,λa ha c o l e r=>?_⟩⟩;have q:c=hdV x.m.1:=by simpa using o
  subst q;exact n.1 a ha l r e
structure PSt(W:World)(C NB base:Nat)(x:BX)(b:Buf):Prop where
 k:KSt W C NB base x b
 f1:Ξ W NB 1
def PSt.below(h:PSt W C NB base x b)(a:Ϣ W W'):PSt W' C NB base x b:=
 ⟨h.k.below a,(a.frozen (p:=⟨NB,1,none⟩) (A7 h.k.ty)).trans h.f1⟩
def Ag1(nb:nbAt w2 C)(h:OB w2 base x b)(d:base<=C):
 PSt (ϊ w2 #[vI b.lim,hdV x.m.1,vS x.ra (ϲ x.rs) x.rc] 36) C w2.heap.size base x b:=by
 have c:Ϣ w2 (ϊ w2 #[vI b.lim,hdV x.m.1,vS x.ra (ϲ x.rs) x.rc] 36):=Ϯ;have a:=C4 c nb;have e:=A7 nb.ty;refine⟨⟨h.below c,?_,?_,?_,?_,⟨_,_,DE _ _⟩,a.n0,a.n1,a.n2,a.o0,a.o1,a.o2,a.ty,e,d⟩,?_⟩
 ·unfold hdV;go_simp
 ·unfold hdV;go_simp
 ·unfold hdV;go_simp
 ·unfold hdV;go_simp
 ·unfold hdV;go_simp
def OX(h:PSt W C NB base x b)(c:W.heap.size<=W'.heap.size)(a:∀k,k<W.heap.size->(hdV x.m.1).ownBlock≠some k->W'.heap[k]? =W.heap[k]?):W'.heap[NB]? =W.heap[NB]? /\W'.heap[C]? =W.heap[C]? :=
 ⟨a NB (A7 h.k.ty) (λe=>tyAt_apart (Az h.k.ob.mem.own e) h.k.ty Ϥ rfl),a C (A7 h.k.rt) (λe=>tyAt_apart (Az h.k.ob.mem.own e) h.k.rt Ϥ rfl)⟩
theorem Um(h:PSt W C NB base x b)(j:OE W' base (hdV x.m.1) es' l')(f:W.heap.size<=W'.heap.size)(e:∀k,k<W.heap.size->(hdV x.m.1).ownBlock≠some k->W'.heap[k]? =W.heap[k]?):
 PSt W' C NB base ⟨x.ra,x.rc,(x.m.1,es'),x.rs⟩ ⟨b.lim,l',b.runs⟩:=by
 obtain⟨d,c⟩:=OX h f e;exact⟨⟨AcC h.k.ob j f e (λg i=>.inl i),(cOb (a:=⟨NB,0,none⟩) d).trans h.k.c0,(cOb (a:=⟨NB,1,none⟩) d).trans h.k.c1,(cOb (a:=⟨NB,2,none⟩) d).trans h.k.c2,(AZ (p:=⟨NB,2,none⟩) d).trans h.k.f2,A1 h.k.ty d,
  (cOb (a:=⟨C,0,none⟩) c).trans h.k.r0,(cOb (a:=⟨C,1,none⟩) c).trans h.k.r1,(cOb (a:=⟨C,2,none⟩) c).trans h.k.r2,(AZ (p:=⟨C,0,none⟩) c).trans h.k.g0,(AZ (p:=⟨C,1,none⟩) c).trans h.k.g1,(AZ (p:=⟨C,2,none⟩) c).trans h.k.g2,A1 h.k.rt c,h.k.ne,h.k.up⟩,(AZ (p:=⟨NB,1,none⟩) d).trans h.f1⟩
end bf
namespace jn
open vl
attribute [local go_sem] Oper.semAt_some
def Db(p:pl.Pln):Jn:=if pl.Ag p=0 then⟨⟨p.limit,[],[]⟩,⟨p.limit,[],[]⟩,noMark,noMark,0⟩else j0
def AcD{p:pl.Pln}(h:pl.Ag p=0):bf.A8 p.limit 1 64=true:=(bf.Bg _ _ _).2 (pl.Bt h).2.1.2.2
theorem ZZ(p:pl.Pln)(x:pl.PA)(w:ϟ)(P:pl.wfPlan p)(O:pl.planAt w p x):
 χ 95 #[pl.Ai p x] w (ψ w (.tuple #[joinV (Db p) jx0,vI (pl.Ag p)])):=by
 have l:=hIz (λ(a:ϟ) (T:Ϣ w a)=>pl.CY p x a P (pl.Ae O T));have m:ϡ (pl.Ag p=0->∀a,CT 152 #[vI p.limit] a (ψ a (.tuple #[.agg #[vI p.limit,ώ,ώ],Ϗ]))):=λh a=>bf.Ag0 p.limit a (AcD h);obtain⟨Z,s⟩:=nM (joinV (Db p) jx0);have f:=hV0 s;rw[s];clear s;unfold Db at f;obtain⟨E,K⟩:=nM (pl.Ag p);rw[K]at l m f⊢;clear K P O;unfold pl.Ai at l⊢;go_enter func95,ntmps95;go_wp2_with fail;generalize d:(World.alloc (World.alloc w _) _)=V;have t:Ϣ w V:=by rw[<-d];exact Ϯ.alloc ϥ _
 have i:ϡ (boxP V w p x):=by
  subst d;exact Af (BF ..) Ϯ
 have c:ϡ (noJ V (w+1)):=by
  subst d;have:=Ry (ϊ w (Φ p x) 32);rw[D0]at this;exact this
 clear d;refine(l.o _ t).mono ?_;rintro e a ⟨rfl,n⟩;have y:Ϣ w a:=bT t n;replace i:ϡ (boxP a w p x):=Af i.o n;replace c:ϡ (noJ a (w+1)):=D9 c.o n;clear n t l;by_cases r:E=0
 ·subst r;rw[AE rfl]at f;have Y:=i.o.2.2.2.2.2.1;go_wp2_with fail;refine(m.o ϫ _).mono ?_;rintro e w2 ⟨rfl,o⟩;have L:Ϣ w w2:=bT y o;have u5:=(Af i.o o).2.2.2.2.2.1;replace c:ϡ (noJ w2 (w+1)):=D9 c.o o;have lw:=Abz c.o;have ab:w.heap.size<w2.heap.size:=ϣ;clear Y o i;go_wp2_with fail;generalize d:(World.alloc w2 _)=g;have u:Ϣ w2 g:=by rw[<-d];exact Ϯ
  have M:Ϣ w g:=bT L u;have Q:Δ g w2 0 (vI p.limit):=by subst d;go_simp
  have R:Δ g w2 1 (vS none 0 0):=by subst d;go_simp
  have S:Δ g w2 2 (vS none 0 0):=by subst d;go_simp
  replace c:ϡ (noJ g (w+1)):=D9 c.o u;clear d u5;refine(m.o ϫ _).mono ?_;rintro e w4 ⟨rfl,q⟩;have N:Ϣ w w4:=bT M q;obtain⟨X,q1,q2⟩:=lk3 q Q R S;have ac:w2.heap.size<w4.heap.size:=bLt _ _ X;have ad:w.heap.size+1<w4.heap.size:=ϣ;replace c:ϡ (noJ (ϊ w4 #[vI p.limit,ώ,ώ] 36) (w.heap.size+1)):=D9 (D9 c.o q) Ϯ;have U:Ϣ w (ϊ w4 #[vI p.limit,ώ,ώ] 36):=N.alloc N.size _;clear Q R S u q M L y m;have k:ϡ ((World.setCells (ϊ w4 #[vI p.limit,ώ,ώ] 36) (w.heap.size+1) 0 [vI p.limit,ώ,ώ,vI p.limit,ώ,ώ,vI (-1099511627777),vI (-1099511627777),Ϗ]).rangeAt (w.heap.size+1) 0 [vI p.limit,ώ,ώ,vI p.limit,ώ,ώ,vI (-1099511627777),vI (-1099511627777),Ϗ]):=Io c.o rfl;have j:ϡ (Ϣ w (World.setCells (ϊ w4 #[vI p.limit,ώ,ώ] 36) (w.heap.size+1) 0 [vI p.limit,ώ,ώ,vI p.limit,ώ,ώ,vI (-1099511627777),vI (-1099511627777),Ϗ])):=below_setCells (PS w.heap.size) _ 0 _ U;go_wp2_with ((with_reducible refine Ft ?_ 38 (.tmp 2) (.tmp 29) ?_ (w.heap.size+1) 0 #[vI p.limit,ώ,ώ,vI p.limit,ώ,ώ,vI (-1099511627777),vI (-1099511627777),Ϗ] ?_ ?_ ?_ ?_ ?_ ?_);exact rfl;exact rfl;exact rfl;exact rfl;exact c.o;exact Oj;exact Ϭ);generalize (World.setCells (ϊ w4 #[vI p.limit,ώ,ώ] 36) (w.heap.size+1) 0 [vI p.limit,ώ,ώ,vI p.limit,ώ,ώ,vI (-1099511627777),vI (-1099511627777),Ϗ])=W' at k j⊢;obtain⟨z,A,B,D,F,G,H,I,J⟩:=rg9 k.o;exact CD (v:=.tuple #[.agg #[vI p.limit,ώ,ώ,vI p.limit,ώ,ώ,vI (-1099511627777),vI (-1099511627777),Ϗ],Ϗ]) (by simp[results,results95,go_sem,z,A,B,D,F,G,H,I,J]) rfl ⟨by rw[<-f.o];rfl,j.o⟩
 ·rw[AC r]at f;have aa:(E !=0)=true:=by simpa using r
  have k:ϡ ((World.setCells a (w.heap.size+1) 0 [Ϗ,ώ,ώ,Ϗ,ώ,ώ,Ϗ,Ϗ,Ϗ]).rangeAt (w.heap.size+1) 0 [Ϗ,ώ,ώ,Ϗ,ώ,ώ,Ϗ,Ϗ,Ϗ]):=Io c.o rfl;have j:ϡ (Ϣ w (World.setCells a (w.heap.size+1) 0 [Ϗ,ώ,ώ,Ϗ,ώ,ώ,Ϗ,Ϗ,Ϗ])):=below_setCells (PS w.heap.size) _ 0 _ y;go_wp2_with ((with_reducible refine Ft ?_ 38 (.tmp 2) (.tmp 13) ?_ (w.heap.size+1) 0 #[Ϗ,ώ,ώ,Ϗ,ώ,ώ,Ϗ,Ϗ,Ϗ] ?_ ?_ ?_ ?_ ?_ ?_);exact rfl;exact rfl;exact rfl;exact rfl;exact c.o;exact Oj;exact Ϭ);generalize (World.setCells a (w.heap.size+1) 0 [Ϗ,ώ,ώ,Ϗ,ώ,ώ,Ϗ,Ϗ,Ϗ])=W' at k j⊢;obtain⟨z,A,B,D,F,G,H,I,J⟩:=rg9 k.o;exact CD (v:=.tuple #[.agg #[Ϗ,ώ,ώ,Ϗ,ώ,ώ,Ϗ,Ϗ,Ϗ],vI E]) (by simp[results,results95,go_sem,z,A,B,D,F,G,H,I,J]) rfl ⟨by rw[<-f.o];rfl,j.o⟩
theorem Kf(m:Int)(w:ϟ):χ 169 #[vI m] w (ψ w (.bool (Dv m))):=by
 unfold Dv;have c:=tm.Dn m;by_cases h:m=noMark
 ·have d:(m== -1099511627777)=true:=by unfold noMark at h;simpa using h
  have a:ϡ (true=(decide (m=noMark)||tm.Br m)):=by show _=_;rw[DB h];rfl
  clear c;unfold noMark at h;subst h;go_enter func169,ntmps169;go_wp2;go_ret;exact⟨Aa a.o,bR⟩
 ·have d:(m== -1099511627777)=false:=by unfold noMark at h;simpa using h
  have a:ϡ (tm.Br m=(decide (m=noMark)||tm.Br m)):=by show _=_;rw[BP h];rfl
  go_enter func169,ntmps169;go_wp2_with (go_at_call 197;refine(c _).mono ?_;rintro e w2 ⟨rfl,rfl⟩);go_ret;exact⟨Aa a.o,bR⟩
theorem FT(s:Jn)(y:JX)(w:ϟ):χ 101 #[joinV s y] w (ψ w (.bool (Ez s))):=by
 have o:ϡ (∀a,CT 169 #[vI s.lm] a (ψ a (.bool (Dv s.lm)))):=λa=>Kf _ a;have p:ϡ (∀a,CT 169 #[vI s.rm] a (ψ a (.bool (Dv s.rm)))):=λa=>Kf _ a;obtain⟨R,q⟩:=nM (Ez s);have d:=hV0 q;rw[q];clear q;unfold Ez at d;obtain⟨E,g⟩:=nM (Dv s.lm);obtain⟨F,h⟩:=nM (Dv s.rm);rw[g]at o d;rw[h]at p d;clear g h;rw[AU];obtain⟨⟨Z,aa,⟨⟨K,L,M⟩,N⟩,H⟩,⟨ad,ae,⟨⟨O,P,Q⟩,bl⟩,J⟩⟩:=y;obtain⟨⟨T,X,ab⟩,⟨r0,ac,af⟩,U,I,m⟩:=s;dsimp only at *;obtain⟨Y,B⟩:∃n,ϲ H=n:=⟨_,rfl⟩;obtain⟨rn,D⟩:∃n,ϲ J=n:=⟨_,rfl⟩;rw[B,D];clear B D;go_enter func101,ntmps101;go_wp2_with fail;generalize i:(World.alloc w _)=V;have A:Ϣ w V:=by rw[<-i];exact Ϯ
 have u:Δ V w 7 (vI I):=by subst i;go_simp
 have v:Δ V w 8 (vI m):=by subst i;go_simp
 clear i;refine(o.o _).mono ?_;rintro e a ⟨rfl,j⟩;have t:Ϣ w a:=bT A j;have G:=cLz j u;have z:=cLz j v;clear u v j A o
 cases E with
 |false=>
  have c:ϡ (false=R):=by show _=_;rw[<-d.o];rfl
  go_wp2;go_ret;exact⟨Aa c.o,t⟩
 |true=>
  go_wp2_with fail;refine(p.o _).mono ?_;rintro e w2 ⟨rfl,r⟩;have l:Ϣ w w2:=bT t r;have S:=cLz r z;clear G z r t p
  cases F with
  |false=>
   have c:ϡ (false=R):=by show _=_;rw[<-d.o];rfl
   go_wp2;go_ret;exact⟨Aa c.o,l⟩
  |true=>
   have c:ϡ (R=bf.A8 m 0 1099511627776):=by show _=_;rw[<-d.o];rfl
   by_cases g:0<=m
   ·by_cases h:m<=1099511627776
    ·have f:ϡ (true=R):=by show _=_;rw[c.o];exact((bf.Bg _ _ _).2 ⟨g,h⟩).symm
     go_wp2;go_ret;exact⟨Aa f.o,l⟩
    ·have f:ϡ (false=R):=by show _=_;rw[c.o];exact((bf.CC _ _ _).2 (λk=>h k.2)).symm
     go_wp2;go_ret;exact⟨Aa (by rw[BP ϣ];exact f.o),l⟩
   ·have f:ϡ (false=R):=by show _=_;rw[c.o];exact((bf.CC _ _ _).2 (λk=>g k.1)).symm
    go_wp2;go_ret;exact⟨Aa f.o,l⟩
theorem CX(p:pl.Pln)(x:pl.PA)(s:Jn)(y:JX)(w:ϟ)(F:pl.wfPlan p)(E:pl.planAt w p x)(h:joinAt w s y)(q:wfJ s)(hl:ϲ (bf.Ab s.L)<=100000)(hr:ϲ (bf.Ab s.R)<=100000):
 χ 102 #[pl.Ai p x,joinV s y] w (ψ w (.bool (Ct p s))):=by
 have t:ϡ (∀a,Ϣ w a->CT 170 #[joinV s y] a (ψ a (.bool (JW s)))):=λa g=>Qf s y a (h.below g) (λz r=>(by
  rcases Fk.1 r with k|k
  ·exact(q.l.ents z k).2.seq
  ·exact(q.r.ents z k).2.seq)) hl hr
 have m:=hIz (λ(a:ϟ) (g:Ϣ w a)=>JY p x 1 s.L y.l a F (pl.Ae E g) (bf.Ao h.l g) (λz r=>(q.l.ents z r).1));have n:=hIz (λ(a:ϟ) (g:Ϣ w a)=>JY p x 2 s.R y.r a F (pl.Ae E g) (bf.Ao h.r g) (λz r=>(q.r.ents z r).1));obtain⟨R,B⟩:=nM (Ct p s);have c:=hV0 B;rw[B];clear B F E h q hl hr;unfold Ct at c;obtain⟨S,X⟩:=nM (JW s);obtain⟨B1,Y⟩:=nM (I9 p 1 s.L);obtain⟨B2,Z⟩:=nM (I9 p 2 s.R);rw[X]at t c;rw[Y]at m c;rw[Z]at n c;clear X Y Z;unfold pl.Ai at m n⊢;rw[AU]at t⊢;unfold bf.Bh bf.hdV at m n;go_enter func102,ntmps102;by_cases l:s.L.lim=p.limit
 rotate_left
 ·have ab:(s.L.lim==p.limit)=false:=by simpa using l
  have d:ϡ (false=R):=by show _=_;rw[<-c.o,BP l];rfl
  go_wp2;go_ret;exact⟨Aa d.o,Ϯ.alloc ϥ _⟩
 have ab:(s.L.lim==p.limit)=true:=by simpa using l
 by_cases o:s.R.lim=p.limit
 rotate_left
 ·have ac:(s.R.lim==p.limit)=false:=by simpa using o
  have d:ϡ (false=R):=by show _=_;rw[<-c.o,BP o,DB l];rfl
  go_wp2;go_ret;exact⟨Aa d.o,Ϯ.alloc ϥ _⟩
 have ac:(s.R.lim==p.limit)=true:=by simpa using o
 rw[DB l,DB o]at c;clear l o;go_wp2_with fail;generalize u:(World.alloc (World.alloc w _) _)=V;have D:Ϣ w V:=by rw[<-u];exact Ϯ.alloc ϥ _
 have j:ϡ (boxP V w p x):=by
  subst u;exact Af (BF ..) Ϯ
 have i:ϡ (BU V (w+1) s y):=by
  subst u;have:=C5 (ϊ w (Φ p x) 32) s y 38;rw[D0]at this;exact this
 clear u;refine(t.o _ D).mono ?_;rintro e a ⟨rfl,v⟩;have f:Ϣ w a:=bT D v;replace j:ϡ (boxP a w p x):=Af j.o v;replace i:ϡ (BU a (w+1) s y):=Ay i.o v;clear v D t
 cases S with
 |false=>
  have d:ϡ (false=R):=by show _=_;rw[<-c.o];rfl
  go_wp2;go_ret;exact⟨Aa d.o,f⟩
 |true=>
  obtain⟨G,H,L,M,N,O,P,Q,T,U,I,J,K⟩:=j.o;obtain⟨u0,u1,u2,u3,u4,u5,u6,u7,u8⟩:=i.o;go_wp2_with fail;refine(m.o _ f).mono ?_;rintro e w2 ⟨rfl,A⟩;replace f:Ϣ w w2:=bT f A;replace j:ϡ (boxP w2 w p x):=Af j.o A;replace i:ϡ (BU w2 (w+1) s y):=Ay i.o A;clear G H L M N O P Q T U I J K u0 u1 u2 u3 u4 u5 u6 u7 u8 A m
  cases B1 with
  |false=>
   have d:ϡ (false=R):=by show _=_;rw[<-c.o];rfl
   go_wp2;go_ret;exact⟨Aa d.o,f⟩
  |true=>
   obtain⟨G,H,L,M,N,O,P,Q,T,U,I,J,K⟩:=j.o;obtain⟨u0,u1,u2,u3,u4,u5,u6,u7,u8⟩:=i.o;go_wp2_with fail;refine(n.o _ f).mono ?_;rintro e w3 ⟨rfl,aa⟩;replace f:Ϣ w w3:=bT f aa;have d:ϡ (B2=R):=by show _=_;rw[<-c.o];rfl
   clear G H L M N O P Q T U I J K u0 u1 u2 u3 u4 u5 u6 u7 u8 aa n;go_wp2;go_ret;exact⟨Aa d.o,f⟩
theorem Bb(p:pl.Pln)(x:pl.PA)(s:Jn)(y:JX)(w:ϟ)(L:pl.wfPlan p)(K:pl.planAt w p x)(h:joinAt w s y)(l:wfJ s):
 χ 50 #[pl.Ai p x,joinV s y] w (ψ w (vI (AV p s))):=by
 have o:=hIz (λ(a:ϟ) (j:Ϣ w a)=>pl.CY p x a L (pl.Ae K j));have n:=hIz (λ(a:ϟ) (j:Ϣ w a)=>bf.Bb s.L y.l a (bf.Ao h.l j) l.l.ents l.l.size);have q:=hIz (λ(a:ϟ) (j:Ϣ w a)=>bf.Bb s.R y.r a (bf.Ao h.r j) l.r.ents l.r.size);have m:=hIz (λ(a:ϟ)=>FT s y a);have k:ϡ (bf.D6 s.L=0->bf.D6 s.R=0->∀a,Ϣ w a->CT 102 #[pl.Ai p x,joinV s y] a (ψ a (.bool (Ct p s)))):=λr t a j=>CX p x s y a L (pl.Ae K j) (h.below j) l (by have:=(bf.ED r).all;omega) (by have:=(bf.ED t).all;omega);obtain⟨R,I⟩:=nM (AV p s);have d:=hV0 I;rw[I];clear I L K h l;unfold AV at d;obtain⟨D,r⟩:=nM (pl.Ag p);obtain⟨E,t⟩:=nM (bf.D6 s.L);obtain⟨H,Q⟩:=nM (bf.D6 s.R);obtain⟨G,S⟩:=nM (Ez s);obtain⟨F,T⟩:=nM (Ct p s);rw[r]at o d;rw[t]at n k d;rw[Q]at q k d;rw[S]at m d;rw[T]at k d;clear r t Q S T;unfold pl.Ai at o k⊢;rw[AU]at m k⊢;unfold bf.Bh bf.hdV at n q;go_enter func50,ntmps50;go_wp2_with fail;generalize u:(World.alloc (World.alloc w _) _)=V;have J:Ϣ w V:=by rw[<-u];exact Ϯ.alloc ϥ _
 have i:ϡ (boxP V w p x):=by
  subst u;exact Af (BF ..) Ϯ
 have f:ϡ (BU V (w+1) s y):=by
  subst u;have:=C5 (ϊ w (Φ p x) 32) s y 38;rw[D0]at this;exact this
 clear u;refine(o.o _ J).mono ?_;rintro e a ⟨rfl,v⟩;have c:Ϣ w a:=bT J v;replace i:ϡ (boxP a w p x):=Af i.o v;replace f:ϡ (BU a (w+1) s y):=Ay f.o v;clear v J o;by_cases M:D=0
 rotate_left
 ·have ac:(D !=0)=true:=by simpa using M
  have g:ϡ (D=R):=by show _=_;rw[<-d.o,AE M]
  go_wp2;go_ret;exact⟨Ad g.o,c⟩
 subst M;rw[AC Ϥ]at d;obtain⟨u0,u1,u2,u3,u4,u5,u6,u7,u8⟩:=f.o;go_wp2_with fail;refine(n.o _ c).mono ?_;rintro e w2 ⟨rfl,z⟩;replace c:Ϣ w w2:=bT c z;replace i:ϡ (boxP w2 w p x):=Af i.o z;replace f:ϡ (BU w2 (w+1) s y):=Ay f.o z;clear u0 u1 u2 u3 u4 u5 u6 u7 u8 z n;by_cases N:E=0
 rotate_left
 ·have ad:(E !=0)=true:=by simpa using N
  have g:ϡ (E=R):=by show _=_;rw[<-d.o,AE N]
  go_wp2;go_ret;exact⟨Ad g.o,c⟩
 subst N;rw[AC Ϥ]at d;obtain⟨u0,u1,u2,u3,u4,u5,u6,u7,u8⟩:=f.o;go_wp2_with fail;refine(q.o _ c).mono ?_;rintro e P ⟨rfl,A⟩;replace c:Ϣ w P:=bT c A;replace i:ϡ (boxP P w p x):=Af i.o A;replace f:ϡ (BU P (w+1) s y):=Ay f.o A;clear u0 u1 u2 u3 u4 u5 u6 u7 u8 A q;by_cases O:H=0
 rotate_left
 ·have ae:(H !=0)=true:=by simpa using O
  have g:ϡ (H=R):=by show _=_;rw[<-d.o,AE O]
  go_wp2;go_ret;exact⟨Ad g.o,c⟩
 subst O;rw[AC Ϥ]at d;obtain⟨u0,u1,u2,u3,u4,u5,u6,u7,u8⟩:=f.o;go_wp2_with fail;refine(m.o _).mono ?_;rintro e w4 ⟨rfl,B⟩;replace c:Ϣ w w4:=bT c B;replace i:ϡ (boxP w4 w p x):=Af i.o B;replace f:ϡ (BU w4 (w+1) s y):=Ay f.o B;clear u0 u1 u2 u3 u4 u5 u6 u7 u8 B m
 cases G with
 |false=>
  have g:ϡ ((3:Int)=R):=by show _=_;rw[<-d.o,AE rfl]
  go_wp2;go_ret;exact⟨Ad g.o,c⟩
 |true=>
  rw[AC Ϥ]at d;obtain⟨X,Y,v2,v3,v4,v5,v6,v7,v8,v9,Z,aa,ab⟩:=i.o;obtain⟨u0,u1,u2,u3,u4,u5,u6,u7,u8⟩:=f.o;go_wp2_with fail;refine(k.o ϫ ϫ _ c).mono ?_;rintro e w5 ⟨rfl,U⟩;replace c:Ϣ w w5:=bT c U;clear X Y v2 v3 v4 v5 v6 v7 v8 v9 Z aa ab u0 u1 u2 u3 u4 u5 u6 u7 u8 U k
  cases F with
  |false=>
   have g:ϡ ((1:Int)=R):=by show _=_;rw[<-d.o,AE rfl]
   go_wp2;go_ret;exact⟨Ad g.o,c⟩
  |true=>
   have g:ϡ ((0:Int)=R):=by show _=_;rw[<-d.o,AC Ϥ]
   go_wp2;go_ret;exact⟨Ad g.o,c⟩
end jn
