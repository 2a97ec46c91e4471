import Derived.Test.YtfkihidbnfkbaaaGreatDoorPv36
set_option linter.all false
set_option maxHeartbeats 4000000
set_option maxRecDepth 100000
open Go.ChangeShapes Go.WideShapes Go.ChangeAt Go.RowKit
namespace Go.Proofs.YtfkihidbnfkbaaaGreatDoor
open Go.Proofs.Tryz
namespace cd
open vl bf jn
structure okRJ(s:Jn):Prop where
 l:okRB s.L
 r:okRB s.R
 lim:s.L.lim=s.R.lim
 lm: -9223372036854775808<=s.lm/\s.lm<=9223372036854775807
 rm: -9223372036854775808<=s.rm/\s.rm<=9223372036854775807
 seq: -9223372036854775808<=s.seq/\s.seq<=9223372036854775807
 few:(Bo s.L).length+(Bo s.R).length<=2000000
theorem YZ(R:Nat)(s:Jn)(t:List UInt8)(w:Ϡ)(h:RR w R (F6 s++t))(E:okRJ s)(hm:t.length<=2000000):
 χ 75 #[ω R,vI s.L.lim] w λe k=>(∃z:JX,e= .returned (joinV s z)/\BO k w.heap.size z.l s.L/\BO k w.heap.size z.r s.R)/\RR k R t/\An R w k:=by
 have aa:=E.few;have e0:F6 s++t=Bo s.L++(Bo s.R++(As s.lm++(As s.rm++(As s.seq++t)))):=by
  unfold F6;simp only[List.append_assoc]
 have ab:(Db s.L.runs).length<=(Bo s.L).length/\(Db s.R.runs).length<=(Bo s.R).length:=by
  unfold Bo;simp only[lAp];omega
 have W:Ϣ (∀g,RR g R (Bo s.L++(Bo s.R++(As s.lm++(As s.rm++(As s.seq++t)))))->CT 138 #[ω R,vI s.L.lim] g λe k=>(∃x:BX,e= .returned (.agg (Ω s.L x))/\BO k g.heap.size x s.L)/\RR k R (Bo s.R++(As s.lm++(As s.rm++(As s.seq++t))))/\An R g k):=λg H=>Sw R s.L _ g H E.l (by simp only[lAp,Am];omega) (by simp only[lAp,Am];omega);have X:Ϣ (∀g,RR g R (Bo s.R++(As s.lm++(As s.rm++(As s.seq++t))))->CT 138 #[ω R,vI s.L.lim] g λe k=>(∃x:BX,e= .returned (.agg (Ω s.R x))/\BO k g.heap.size x s.R)/\RR k R (As s.lm++(As s.rm++(As s.seq++t)))/\An R g k):=λg H=>by
  rw[E.lim];exact Sw R s.R _ g H E.r (by simp only[lAp,Am];omega) (by simp only[lAp,Am];omega)
 have K:=hIz (λ(g:Ϡ) n r (H:RR g R (As n++r)) (Z:(-9223372036854775808<=n/\n<=9223372036854775807)) (h3:r.length<=90000000)=>Cv R n r g H Z h3);have J:Ϣ ((-9223372036854775808<=s.lm/\s.lm<=9223372036854775807)/\(-9223372036854775808<=s.rm/\s.rm<=9223372036854775807)/\(-9223372036854775808<=s.seq/\s.seq<=9223372036854775807)):=⟨E.lm,E.rm,E.seq⟩;rw[e0]at h;have hR:=h.lt;have G:=hV0 h;clear h E aa ab e0;go_enter func75,ntmps75;go_wp2_with fail;generalize P:(World.alloc (World.alloc w _) _)=V;have Q:ϣ w V:=by rw[<-P];exact ϯ.alloc Ϧ _
 have a:Ϣ ((SB V w.heap.size [Ϗ,ώ,ώ,Ϗ,ώ,ώ,Ϗ,Ϗ,Ϗ]/\SB V (w.heap.size+1) [Ϗ,ώ,ώ,Ϗ,ώ,ώ,Ϗ,Ϗ,Ϗ])/\Ah V w 38/\Ah V (w+1) 38):=by
  subst P;have Y:=World.size_alloc w (.cells #[Ϗ,ώ,ώ,Ϗ,ώ,ώ,Ϗ,Ϗ,Ϗ] 38);have s1:=SB.new w [Ϗ,ώ,ώ,Ϗ,ώ,ώ,Ϗ,Ϗ,Ϗ] 38;have T:=SB.new (ϊ w #[Ϗ,ώ,ώ,Ϗ,ώ,ώ,Ϗ,Ϗ,Ϗ] 38) [Ϗ,ώ,ώ,Ϗ,ώ,ώ,Ϗ,Ϗ,Ϗ] 38;have t1:=World.alloc_heap_new w (.cells #[Ϗ,ώ,ώ,Ϗ,ώ,ώ,Ϗ,Ϗ,Ϗ] 38);have U:=World.alloc_heap_new (ϊ w #[Ϗ,ώ,ώ,Ϗ,ώ,ώ,Ϗ,Ϗ,Ϗ] 38) (.cells #[Ϗ,ώ,ώ,Ϗ,ώ,ώ,Ϗ,Ϗ,Ϗ] 38);rw[Y]at T U;exact⟨⟨s1.below ϯ,T⟩,Ak ⟨_,_,t1⟩ ϯ,⟨_,_,U⟩⟩
 have c:Ϣ (An R w V/\RR V R (Bo s.L++(Bo s.R++(As s.lm++(As s.rm++(As s.seq++t)))))):=⟨An.of Q,G.o.below Q⟩;have ac:(w.heap.size+1)<V.heap.size:=a.o.1.2.lt;clear P Q G;refine(W.o V c.o.2).mono ?_;rintro o g ⟨⟨x,rfl,I⟩,j,b⟩;replace a:Ϣ ((SB g w.heap.size [Ϗ,ώ,ώ,Ϗ,ώ,ώ,Ϗ,Ϗ,Ϗ]/\SB g (w.heap.size+1) [Ϗ,ώ,ώ,Ϗ,ώ,ώ,Ϗ,Ϗ,Ϗ])/\Ah g w 38/\Ah g (w+1) 38):=⟨⟨a.o.1.1.keep b Ϥ,a.o.1.2.keep b Ϥ⟩,Aq a.o.2.1 (b.2 _ a.o.1.1.lt Ϥ),Aq a.o.2.2 (b.2 _ a.o.1.2.lt Ϥ)⟩;have d:Ϣ (BO g w.heap.size x s.L):=I.mono Ϥ;replace c:Ϣ (An R w g/\RR g R (Bo s.R++(As s.lm++(As s.rm++(As s.seq++t))))):=⟨c.o.1.trans b,j⟩;have ad:=b.1.size;have C:=a.o.1.2.cell 0 _ rfl;have D:=a.o.1.2.frz 0;have L:=a.o.1.2.cell 1 _ rfl;have N:=a.o.1.2.frz 1;have M:=a.o.1.2.cell 2 _ rfl;have O:=a.o.1.2.frz 2;clear j b I;go_wp2_with fail;generalize f:World.setCell (World.setCell (World.setCell g _ _) _ _) _ _=B;have ai:B.heap.size=g.heap.size:=by rw[<-f];simp[World.setCell]
 replace d:Ϣ (BO B w.heap.size x s.L):=by
  subst f;exact(BL (BL (BL d.o a.o.2.2 DU _ _) (Ao a.o.2.2 _ _) DU _ _) (Ao (Ao a.o.2.2 _ _) _ _) DU _ _)
 replace c:Ϣ (An R w B/\RR B R (Bo s.R++(As s.lm++(As s.rm++(As s.seq++t))))):=by
  subst f;exact⟨(Cb (Cb (Cb c.o.1 Ϥ) Ϥ) Ϥ),(RR.set (RR.set (RR.set c.o.2 Ϥ) Ϥ) Ϥ)⟩
 replace a:Ϣ ((SB B w.heap.size [Ϗ,ώ,ώ,Ϗ,ώ,ώ,Ϗ,Ϗ,Ϗ]/\SB B (w.heap.size+1) [vI s.L.lim,vS x.m.1.1 x.m.1.2.1 x.m.1.2.2,vS x.ra x.rs.length x.rc,Ϗ,ώ,ώ,Ϗ,Ϗ,Ϗ])/\Ah B w 38/\Ah B (w+1) 38):=by
  subst f;exact⟨⟨(SB.same (SB.same (SB.same a.o.1.1 (heap_setCell_other _ _ _ _ Ϫ) (by simp[World.setCell])) (heap_setCell_other _ _ _ _ Ϫ) (by simp[World.setCell])) (heap_setCell_other _ _ _ _ Ϫ) (by simp[World.setCell])),(SB.set (SB.set (SB.set a.o.1.2 0 _ Ϧ) 1 _ Ϧ) 2 _ Ϧ)⟩,(Ao (Ao (Ao a.o.2.1 _ _) _ _) _ _),(Ao (Ao (Ao a.o.2.2 _ _) _ _) _ _)⟩
 clear f C D L N M O;refine(X.o B c.o.2).mono ?_;rintro o l ⟨⟨y,rfl,I⟩,j,b⟩;replace a:Ϣ ((SB l w.heap.size [Ϗ,ώ,ώ,Ϗ,ώ,ώ,Ϗ,Ϗ,Ϗ]/\SB l (w.heap.size+1) [vI s.L.lim,vS x.m.1.1 x.m.1.2.1 x.m.1.2.2,vS x.ra x.rs.length x.rc,Ϗ,ώ,ώ,Ϗ,Ϗ,Ϗ])/\Ah l w 38/\Ah l (w+1) 38):=⟨⟨a.o.1.1.keep b Ϥ,a.o.1.2.keep b Ϥ⟩,Aq a.o.2.1 (b.2 _ a.o.1.1.lt Ϥ),Aq a.o.2.2 (b.2 _ a.o.1.2.lt Ϥ)⟩;replace d:Ϣ (BO l w.heap.size x s.L):=d.o.keptR b c.o.2.tb;replace d:Ϣ (BO l w.heap.size x s.L/\BO l w.heap.size y s.R):=⟨d.o,I.mono Ϥ⟩;replace c:Ϣ (An R w l/\RR l R (As s.lm++(As s.rm++(As s.seq++t)))):=⟨c.o.1.trans b,j⟩;have ae:=b.1.size;have C:=a.o.1.2.cell 3 _ rfl;have D:=a.o.1.2.frz 3;have L:=a.o.1.2.cell 4 _ rfl;have N:=a.o.1.2.frz 4;have M:=a.o.1.2.cell 5 _ rfl;have O:=a.o.1.2.frz 5;clear j b I;go_wp2_with fail;generalize f:World.setCell (World.setCell (World.setCell l _ _) _ _) _ _=m;have aj:m.heap.size=l.heap.size:=by rw[<-f];simp[World.setCell]
 replace d:Ϣ (BO m w.heap.size x s.L/\BO m w.heap.size y s.R):=by
  subst f;exact⟨(BL (BL (BL d.o.1 a.o.2.2 DU _ _) (Ao a.o.2.2 _ _) DU _ _) (Ao (Ao a.o.2.2 _ _) _ _) DU _ _),(BL (BL (BL d.o.2 a.o.2.2 DU _ _) (Ao a.o.2.2 _ _) DU _ _) (Ao (Ao a.o.2.2 _ _) _ _) DU _ _)⟩
 replace c:Ϣ (An R w m/\RR m R (As s.lm++(As s.rm++(As s.seq++t)))):=by
  subst f;exact⟨(Cb (Cb (Cb c.o.1 Ϥ) Ϥ) Ϥ),(RR.set (RR.set (RR.set c.o.2 Ϥ) Ϥ) Ϥ)⟩
 replace a:Ϣ ((SB m w.heap.size [Ϗ,ώ,ώ,Ϗ,ώ,ώ,Ϗ,Ϗ,Ϗ]/\SB m (w.heap.size+1) [vI s.L.lim,vS x.m.1.1 x.m.1.2.1 x.m.1.2.2,vS x.ra x.rs.length x.rc,vI s.R.lim,vS y.m.1.1 y.m.1.2.1 y.m.1.2.2,vS y.ra y.rs.length y.rc,Ϗ,Ϗ,Ϗ])/\Ah m w 38/\Ah m (w+1) 38):=by
  subst f;exact⟨⟨(SB.same (SB.same (SB.same a.o.1.1 (heap_setCell_other _ _ _ _ Ϫ) (by simp[World.setCell])) (heap_setCell_other _ _ _ _ Ϫ) (by simp[World.setCell])) (heap_setCell_other _ _ _ _ Ϫ) (by simp[World.setCell])),(SB.set (SB.set (SB.set a.o.1.2 3 _ Ϧ) 4 _ Ϧ) 5 _ Ϧ)⟩,(Ao (Ao (Ao a.o.2.1 _ _) _ _) _ _),(Ao (Ao (Ao a.o.2.2 _ _) _ _) _ _)⟩
 clear f C D L N M O;refine(K.o m s.lm _ c.o.2 J.o.1 (by simp only[lAp,Am];omega)).mono ?_;rintro o u ⟨rfl,j,b⟩;replace a:Ϣ ((SB u w.heap.size [Ϗ,ώ,ώ,Ϗ,ώ,ώ,Ϗ,Ϗ,Ϗ]/\SB u (w.heap.size+1) [vI s.L.lim,vS x.m.1.1 x.m.1.2.1 x.m.1.2.2,vS x.ra x.rs.length x.rc,vI s.R.lim,vS y.m.1.1 y.m.1.2.1 y.m.1.2.2,vS y.ra y.rs.length y.rc,Ϗ,Ϗ,Ϗ])/\Ah u w 38/\Ah u (w+1) 38):=⟨⟨a.o.1.1.keep b Ϥ,a.o.1.2.keep b Ϥ⟩,Aq a.o.2.1 (b.2 _ a.o.1.1.lt Ϥ),Aq a.o.2.2 (b.2 _ a.o.1.2.lt Ϥ)⟩;replace d:Ϣ (BO u w.heap.size x s.L/\BO u w.heap.size y s.R):=⟨d.o.1.keptR b c.o.2.tb,d.o.2.keptR b c.o.2.tb⟩;replace c:Ϣ (An R w u/\RR u R (As s.rm++(As s.seq++t))):=⟨c.o.1.trans b,j⟩;have af:=b.1.size;have C:=a.o.1.2.cell 6 _ rfl;have D:=a.o.1.2.frz 6;clear j b;go_wp2_with fail;generalize f:World.setCell u _ _=p;have ak:p.heap.size=u.heap.size:=by rw[<-f];simp[World.setCell]
 replace d:Ϣ (BO p w.heap.size x s.L/\BO p w.heap.size y s.R):=by
  subst f;exact⟨(BL d.o.1 a.o.2.2 DU _ _),(BL d.o.2 a.o.2.2 DU _ _)⟩
 replace c:Ϣ (An R w p/\RR p R (As s.rm++(As s.seq++t))):=by
  subst f;exact⟨(Cb c.o.1 Ϥ),(RR.set c.o.2 Ϥ)⟩
 replace a:Ϣ ((SB p w.heap.size [Ϗ,ώ,ώ,Ϗ,ώ,ώ,Ϗ,Ϗ,Ϗ]/\SB p (w.heap.size+1) [vI s.L.lim,vS x.m.1.1 x.m.1.2.1 x.m.1.2.2,vS x.ra x.rs.length x.rc,vI s.R.lim,vS y.m.1.1 y.m.1.2.1 y.m.1.2.2,vS y.ra y.rs.length y.rc,vI s.lm,Ϗ,Ϗ])/\Ah p w 38/\Ah p (w+1) 38):=by
  subst f;exact⟨⟨(SB.same a.o.1.1 (heap_setCell_other _ _ _ _ Ϫ) (by simp[World.setCell])),(SB.set a.o.1.2 6 _ Ϧ)⟩,(Ao a.o.2.1 _ _),(Ao a.o.2.2 _ _)⟩
 clear f C D;refine(K.o p s.rm _ c.o.2 J.o.2.1 (by simp only[lAp,Am];omega)).mono ?_;rintro o w4 ⟨rfl,j,b⟩;replace a:Ϣ ((SB w4 w.heap.size [Ϗ,ώ,ώ,Ϗ,ώ,ώ,Ϗ,Ϗ,Ϗ]/\SB w4 (w.heap.size+1) [vI s.L.lim,vS x.m.1.1 x.m.1.2.1 x.m.1.2.2,vS x.ra x.rs.length x.rc,vI s.R.lim,vS y.m.1.1 y.m.1.2.1 y.m.1.2.2,vS y.ra y.rs.length y.rc,vI s.lm,Ϗ,Ϗ])/\Ah w4 w 38/\Ah w4 (w+1) 38):=⟨⟨a.o.1.1.keep b Ϥ,a.o.1.2.keep b Ϥ⟩,Aq a.o.2.1 (b.2 _ a.o.1.1.lt Ϥ),Aq a.o.2.2 (b.2 _ a.o.1.2.lt Ϥ)⟩;replace d:Ϣ (BO w4 w.heap.size x s.L/\BO w4 w.heap.size y s.R):=⟨d.o.1.keptR b c.o.2.tb,d.o.2.keptR b c.o.2.tb⟩;replace c:Ϣ (An R w w4/\RR w4 R (As s.seq++t)):=⟨c.o.1.trans b,j⟩;have ag:=b.1.size;have C:=a.o.1.2.cell 7 _ rfl;have D:=a.o.1.2.frz 7;clear j b;go_wp2_with fail;generalize f:World.setCell w4 _ _=q;have al:q.heap.size=w4.heap.size:=by rw[<-f];simp[World.setCell]
 replace d:Ϣ (BO q w.heap.size x s.L/\BO q w.heap.size y s.R):=by
  subst f;exact⟨(BL d.o.1 a.o.2.2 DU _ _),(BL d.o.2 a.o.2.2 DU _ _)⟩
 replace c:Ϣ (An R w q/\RR q R (As s.seq++t)):=by
  subst f;exact⟨(Cb c.o.1 Ϥ),(RR.set c.o.2 Ϥ)⟩
 replace a:Ϣ ((SB q w.heap.size [Ϗ,ώ,ώ,Ϗ,ώ,ώ,Ϗ,Ϗ,Ϗ]/\SB q (w.heap.size+1) [vI s.L.lim,vS x.m.1.1 x.m.1.2.1 x.m.1.2.2,vS x.ra x.rs.length x.rc,vI s.R.lim,vS y.m.1.1 y.m.1.2.1 y.m.1.2.2,vS y.ra y.rs.length y.rc,vI s.lm,vI s.rm,Ϗ])/\Ah q w 38/\Ah q (w+1) 38):=by
  subst f;exact⟨⟨(SB.same a.o.1.1 (heap_setCell_other _ _ _ _ Ϫ) (by simp[World.setCell])),(SB.set a.o.1.2 7 _ Ϧ)⟩,(Ao a.o.2.1 _ _),(Ao a.o.2.2 _ _)⟩
 clear f C D;refine(K.o q s.seq _ c.o.2 J.o.2.2 Ϥ).mono ?_;rintro o A ⟨rfl,j,b⟩;replace a:Ϣ ((SB A w.heap.size [Ϗ,ώ,ώ,Ϗ,ώ,ώ,Ϗ,Ϗ,Ϗ]/\SB A (w.heap.size+1) [vI s.L.lim,vS x.m.1.1 x.m.1.2.1 x.m.1.2.2,vS x.ra x.rs.length x.rc,vI s.R.lim,vS y.m.1.1 y.m.1.2.1 y.m.1.2.2,vS y.ra y.rs.length y.rc,vI s.lm,vI s.rm,Ϗ])/\Ah A w 38/\Ah A (w+1) 38):=⟨⟨a.o.1.1.keep b Ϥ,a.o.1.2.keep b Ϥ⟩,Aq a.o.2.1 (b.2 _ a.o.1.1.lt Ϥ),Aq a.o.2.2 (b.2 _ a.o.1.2.lt Ϥ)⟩;replace d:Ϣ (BO A w.heap.size x s.L/\BO A w.heap.size y s.R):=⟨d.o.1.keptR b c.o.2.tb,d.o.2.keptR b c.o.2.tb⟩;replace c:Ϣ (An R w A/\RR A R (t)):=⟨c.o.1.trans b,j⟩;have ah:=b.1.size;have C:=a.o.1.2.cell 8 _ rfl;have D:=a.o.1.2.frz 8;clear j b;go_upto_region 7 with fail;generalize f:World.setCell A _ _=i;have am:i.heap.size=A.heap.size:=by rw[<-f];simp[World.setCell]
 replace d:Ϣ (BO i w.heap.size x s.L/\BO i w.heap.size y s.R):=by
  subst f;exact⟨(BL d.o.1 a.o.2.2 DU _ _),(BL d.o.2 a.o.2.2 DU _ _)⟩
 replace c:Ϣ (An R w i/\RR i R (t)):=by
  subst f;exact⟨(Cb c.o.1 Ϥ),(RR.set c.o.2 Ϥ)⟩
 replace a:Ϣ ((SB i w.heap.size [Ϗ,ώ,ώ,Ϗ,ώ,ώ,Ϗ,Ϗ,Ϗ]/\SB i (w.heap.size+1) (ν s x y []))/\Ah i w 38/\Ah i (w+1) 38):=by
  subst f;exact⟨⟨(SB.same a.o.1.1 (heap_setCell_other _ _ _ _ Ϫ) (by simp[World.setCell])),(SB.set a.o.1.2 8 _ Ϧ)⟩,(Ao a.o.2.1 _ _),(Ao a.o.2.2 _ _)⟩
 clear f C D;obtain⟨d0,d1,d2,d3,d4,d5,d6,d7,d8⟩:=sc9 a.o.1.2;have S:Ϣ (i.there w.heap.size 0 9):=a.o.1.1.there;have F:Ϣ (RR (World.setCells i w.heap.size 0 (ν s x y [])) R t/\An R w (World.setCells i w.heap.size 0 (ν s x y []))/\BO (World.setCells i w.heap.size 0 (ν s x y [])) w.heap.size x s.L/\BO (World.setCells i w.heap.size 0 (ν s x y [])) w.heap.size y s.R):=
  ⟨c.o.2.sets Ϥ _ _,Fo c.o.1 Ϥ _ _,F8 DU _ _ _ d.o.1 a.o.2.1,F8 DU _ _ _ d.o.2 a.o.2.1⟩
 have G:Ϣ ((World.setCells i w.heap.size 0 (ν s x y [])).rangeAt w.heap.size 0 (ν s x y [])):=World.rangeAt_setCells_same _ _ _ _ S.o;go_wp2_with ((with_reducible refine wpList_store_mid ?_ 38 (.tmp 4) (.tmp 23) ?_ w.heap.size 0 (ζ s x y []) ?_ ?_ ?_ ?_ ?_ ?_);exact rfl;exact rfl;exact rfl;exact rfl;exact S.o;exact Lc;exact ϭ);generalize (World.setCells i w.heap.size 0 (ν s x y []))=W' at G F⊢;obtain⟨z0,z1,z2,z3,z4,z5,z6,z7,z8⟩:=rg9 G.o;exact bodyPost_ret (v:=.agg (ζ s x y [])) (by simp[results,results75,go_sem,z0,z1,z2,z3,z4,z5,z6,z7,z8]) rfl ⟨⟨⟨x,y⟩,rfl,F.o.2.2.1,F.o.2.2.2⟩,F.o.1,F.o.2.1⟩
end cd
end Go.Proofs.YtfkihidbnfkbaaaGreatDoor
