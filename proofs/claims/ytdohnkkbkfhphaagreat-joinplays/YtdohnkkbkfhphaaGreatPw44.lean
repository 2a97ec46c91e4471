import Derived.Test.YtdohnkkbkfhphaaGreatPw42
set_option linter.all false
set_option maxHeartbeats 16000000
set_option maxRecDepth 100000
open Go.ChangeShapes Go.WideShapes Go.ChangeAt Go.RowKit List
namespace Go.Proofs.YtdohnkkbkfhphaaGreat
open Go.Proofs.Tryz
namespace jn
open vl bf
attribute [local go_sem] Oper.semAt_some
variable {W : ϛ}
def Ada(W:World)(b:Nat)(e:EM):Prop:=Ϗ W b (.string e.key) (vI e.time) (vI e.seq) (vS e.row.1 e.row.2.1 e.row.2.2) (.bool e.met)
theorem Uz(W:ϛ):(Ϗ (ξ W #[ϊ,ω,ω,ψ,ϋ] 63) W (.string ⟨#[]⟩) (vI 0) (vI 0) (vS none 0 0) (.bool false))/\(∀j,j<5->Ξ (ξ W #[ϊ,ω,ω,ψ,ϋ] 63) W j)/\An (ξ W #[ϊ,ω,ω,ψ,ϋ] 63) W.heap.size 63/\Ϟ W (ξ W #[ϊ,ω,ω,ψ,ϋ] 63):=by
 refine⟨⟨ϣ,ϣ,ϣ,ϣ,ϣ⟩,λj a=>?_,⟨_,_,World.alloc_heap_new W _⟩,Ϫ⟩
 match j,a with
 |0,_|1,_|2,_|3,_|4,_=>go_simp
theorem Ab4(W:ϛ):((W.alloc (.cells #[ϊ,ω,ω,ψ,ϋ] 63)).drew.cell? ⟨W,0,none⟩=some (.string ⟨#[]⟩)/\(W.alloc (.cells #[ϊ,ω,ω,ψ,ϋ] 63)).drew.cell? ⟨W,1,none⟩=some (vI 0)/\(W.alloc (.cells #[ϊ,ω,ω,ψ,ϋ] 63)).drew.cell? ⟨W,2,none⟩=some (vI 0)/\(W.alloc (.cells #[ϊ,ω,ω,ψ,ϋ] 63)).drew.cell? ⟨W,3,none⟩=some (vS none 0 0)/\(W.alloc (.cells #[ϊ,ω,ω,ψ,ϋ] 63)).drew.cell? ⟨W,4,none⟩=some (.bool false))/\(∀j,j<5->(W.alloc (.cells #[ϊ,ω,ω,ψ,ϋ] 63)).drew.frozen? ⟨W,j,none⟩=false)/\An (W.alloc (.cells #[ϊ,ω,ω,ψ,ϋ] 63)).drew W.heap.size 63/\Ϟ W (W.alloc (.cells #[ϊ,ω,ω,ψ,ϋ] 63)).drew:=by
 obtain⟨⟨b,h,i,k,l⟩,d,g,c⟩:=Uz W;have a:Below (W.alloc (.cells #[ϊ,ω,ω,ψ,ϋ] 63)).heap.size (ξ W #[ϊ,ω,ω,ψ,ϋ] 63) (W.alloc (.cells #[ϊ,ω,ω,ψ,ϋ] 63)).drew:=bR.drew;have f:W.heap.size<(W.alloc (.cells #[ϊ,ω,ω,ψ,ϋ] 63)).heap.size:=bLt _ _ b;exact⟨⟨cLz a b,cLz a h,cLz a i,cLz a k,cLz a l⟩,λj e=>(a.frozen (p:=⟨W,j,none⟩) f).trans (d j e),Ae g a,c.drew⟩
theorem ZV(W:ϛ):(Δ (ξ W #[ω,ψ] 55) W 0 (vI 0)/\Δ (ξ W #[ω,ψ] 55) W 1 (vS none 0 0))/\(∀j,j<2->Ξ (ξ W #[ω,ψ] 55) W j)/\An (ξ W #[ω,ψ] 55) W.heap.size 55/\Ϟ W (ξ W #[ω,ψ] 55):=by
 refine⟨⟨ϣ,ϣ⟩,λj a=>?_,⟨_,_,World.alloc_heap_new W _⟩,Ϫ⟩
 match j,a with
 |0,_|1,_=>go_simp
theorem Ab5(W:ϛ):((W.alloc (.cells #[ω,ψ] 55)).drew.cell? ⟨W,0,none⟩=some (vI 0)/\(W.alloc (.cells #[ω,ψ] 55)).drew.cell? ⟨W,1,none⟩=some (vS none 0 0))/\(∀j,j<2->(W.alloc (.cells #[ω,ψ] 55)).drew.frozen? ⟨W,j,none⟩=false)/\An (W.alloc (.cells #[ω,ψ] 55)).drew W.heap.size 55/\Ϟ W (W.alloc (.cells #[ω,ψ] 55)).drew:=by
 obtain⟨⟨b,h⟩,d,g,c⟩:=ZV W;have a:Below (W.alloc (.cells #[ω,ψ] 55)).heap.size (ξ W #[ω,ψ] 55) (W.alloc (.cells #[ω,ψ] 55)).drew:=bR.drew;have f:W.heap.size<(W.alloc (.cells #[ω,ψ] 55)).heap.size:=bLt _ _ b;exact⟨⟨cLz a b,cLz a h⟩,λj e=>(a.frozen (p:=⟨W,j,none⟩) f).trans (d j e),Ae g a,c.drew⟩
theorem We{C:Nat}{i:ByteArray}{k l:Int}{a:Ϝ}{j c:Nat}{b:Bool}(h0:Δ W C 0 (.string i))(h1:Δ W C 1 (vI k))(d:Δ W C 2 (vI l))(f:Δ W C 3 (vS a j c))(g:Δ W C 4 (.bool b)){e:EM}{z:Ent}(h:ER W e z)(u0 u1 u2 u3 u4:Value):ER (φ (φ (φ (φ (φ W C 0 u0) C 1 u1) C 2 u2) C 3 u3) C 4 u4) e z:=⟨h.key,h.time,h.seq,h.met,h.len,NC h0 h1 d f g h.row _ _ _ _ _⟩
theorem XM{f:ϛ}{a:Ϝ}{n c:Nat}{r:List Cel}(h:vl.rowAt W a r)(m:∀g,(Value.slice a n c).ownBlock=some g->f.heap[g]? =W.heap[g]?):vl.rowAt f a r:=λi o=>by
 obtain⟨b,d,rfl,j,k,l⟩:=h i o;have e:=m b rfl;exact⟨b,d,rfl,(cOb (a:=⟨b,d+i * 3,none⟩) e).trans j,(cOb (a:=⟨b,d+i * 3+1,none⟩) e).trans k,(cOb (a:=⟨b,d+i * 3+1+1,none⟩) e).trans l⟩
def okO(od:Option Ent)(t:Int):Bool:=match od with
 |some o=>decide (o.time<=t)
 |none=>true
def Sq(kf:Bool)(nr:Nat)(lr row:List Cel)(od:Option Ent):List ch.Chg:=match od with
 |some o=>[⟨3,lr++o.row⟩,⟨4,lr++row⟩]
 |none=>if kf=true then [⟨3,lr++bt.AE nr⟩,⟨4,lr++row⟩]else [⟨1,lr++row⟩]
theorem ZW(p:pl.Pln)(x:pl.PA)(s:Jn)(y:JX)(v:Ev)(ra:Ϝ)(rc:Nat)(w:ϛ)(h:joinAt w s y)(h0:pl.Al p=0)(F:goodJ p s)(hc:comeJ p s v)(hk:p.kind=3)(e0:v.side=2)(hv:evAt w v ra):
 η 102 #[pl.Ak p x,joinV s y,evV v ra rc,.string (pl.Ap p v.side v.row),.bool (pl.hasB p v.side v.row)] w λe m=>(∃ov L ma mc,e= .returned (.tuple #[ov,vS ma (Cq p s v).length mc])/\CG m w ov L/\L.map CO.chg=DU p s v/\Cz m ma (Cq p s v))/\Ϟ w m:=by
 have bm:Tryz.prog.follows .mixedOrders=true:=rfl;have ex:p.mode=1\/p.mode=2\/p.mode=3\/p.mode=4:=by
  have:=(pl.Bj h0).1.2.1;rw[if_pos hk]at this;omega
 have cs:1<=p.right.length/\p.right.length<=4:=(pl.Bj h0).2.2.1.1.2.1;have KA:ϝ (∀A,Ϟ w A->CT 43 #[.agg (Ω s.L y.l)] A λe m=>(∃a c,e= .returned (vS a (AP (Aa s.L)).length c)/\Cz m a (AP (Aa s.L)))/\Ϟ A m):=λA hb=>by
  refine(FG s.L y.l A (Ag h.l hb) F.ok.L).mono ?_;rintro e m ⟨⟨hh,es,l,he,ho,fv,hr⟩,fl⟩;have fq:l=AP (Aa s.L):=Ec fv (FZ hr) F.ok.L.once;rw[fq]at ho;obtain⟨e1,e2,_⟩:=OE.entsAt ho;obtain⟨g1,g2,g3⟩:=hh;dsimp only at e1 e2;subst e1;exact⟨⟨g1,g3,he,e2⟩,fl⟩
 have cn:ϝ (∀(t:Int) A,Ϟ w A->CT 99 #[jn.joinV s y,.string (pl.Ap p v.side v.row),vI t] A λe m=>(∃em:EM,e= .returned (.tuple #[em.val,.bool (CZ s (pl.Ap p v.side v.row) t).getLast?.isSome])/\∀z,(CZ s (pl.Ap p v.side v.row) t).getLast? =some z->ER m em z/\∀g,(hdV em.row).ownBlock=some g->An m g 103)/\Ϟ A m):=λt A hb=>LQ s y _ t A (h.below hb) F.ok.R;have KB:=hIz (λ(a1:Ϝ) (a2:Ϝ) (c1:Nat) (c2:Nat) (l1:List Cel) (l2:List Cel) (A:ϛ) (e1:0<l2.length) (e2:l1.length<=400) (e3:l2.length<=400) (e4:vl.rowAt A a1 l1) (e5:vl.rowAt A a2 l2)=>bt.Kz a1 a2 c1 c2 l1 l2 A e1 e2 e3 e4 e5);have KN:ϝ (∀A,CT 23 #[vI (p.right.length:Int)] A λe m=>(e= .returned (vS (τ A) p.right.length p.right.length)/\vl.rowAt m (τ A) (bt.AE p.right.length))/\Ϟ A m):=λA=>bt.Hj _ A cs.1 cs.2;have KK:ϝ (∀A,CT 101 #[.agg (Φ p x)] A (θ A (.bool (keepsJ p.mode 1)))):=λA=>by rw[<-Q7 ex];exact bt.Iy p x A
 have HP:ϝ (Cq p s v=if pl.hasB p v.side v.row=true then(AP (Aa s.L)).filter (nmB s v (pl.Ap p v.side v.row))else []):=Uh F.ok.L F.ok.R hc.time;have HT:ϝ (DU p s v=(Cq p s v).flatMap (Pj p s v)):=RS F.ok.R;have ci:ϝ ((AP (Aa s.L)).length<=4096):=by
  show _<=_;rw[(A9 _).length_eq];exact F.ok.L.all
 have df:ϝ (∀z∈AP (Aa s.L),0<z.row.length/\z.row.length<=400):=λz C=>Bp (C8 F (side:=1) rfl ((A9 _).mem_iff.1 C));have ck:ϝ (∀t z,(CZ s (pl.Ap p v.side v.row) t).getLast? =some z->0<z.row.length/\z.row.length<=400):=λt z C=>by
  have N:=mem_of_getLast? C;unfold CZ at N;have h2:=(mem_filter.1 ((A9 _).mem_iff.1 N)).1;exact Bp (C8 F (side:=2) rfl h2)
 have d4:ϝ (vl.rowAt w ra v.row/\0<v.row.length/\v.row.length<=400):=⟨hv.row,(Bp hc.err).1,(Bp hc.err).2⟩;have d6:ϝ ((bt.AE p.right.length).length=p.right.length/\0<p.right.length/\p.right.length<=400):=⟨length_replicate,cs.1,ϟ⟩;have fz:ϝ (∀r,AN p 1 r=r++bt.AE p.right.length):=λr=>rfl;have bu:ϝ (∀e,nmB s v (pl.Ap p v.side v.row) e=(decide (e.key=pl.Ap p v.side v.row)&&decide (v.time<=e.time)&&okO (CZ s (pl.Ap p v.side v.row) e.time).getLast? v.time)):=λe=>by
  unfold nmB okO
  cases (CZ s (pl.Ap p v.side v.row) e.time).getLast? <;>rfl
 have bi:ϝ (∀e,Pj p s v e=Sq (keepsJ p.mode 1) p.right.length e.row v.row (CZ s (pl.Ap p v.side v.row) e.time).getLast?):=λe=>by
  unfold Pj Sq;rw[e0]
  cases (CZ s (pl.Ap p 2 v.row) e.time).getLast? <;>rfl
 clear h h0 F hc hk hv ex cs e0;obtain⟨T,hT⟩:=nM (DU p s v);obtain⟨PR,cq⟩:=nM (Cq p s v);rw[hT,cq]at HT;rw[cq]at HP;rw[hT,cq];obtain⟨f,hf⟩:=nM (nmB s v (pl.Ap p v.side v.row));obtain⟨tO,a9⟩:=nM (Pj p s v);rw[hf]at HP bu;rw[a9]at HT bi;obtain⟨kb,ej⟩:=nM (pl.Ap p v.side v.row);obtain⟨hs,ei⟩:=nM (pl.hasB p v.side v.row);obtain⟨kf,en⟩:=nM (keepsJ p.mode 1);rw[ej]at cn ck bu bi⊢;rw[ei]at HP⊢;rw[en]at KK bi;obtain⟨fa,ep⟩:=nM (λt=>(CZ s kb t).getLast?);have ev:∀t,(CZ s kb t).getLast? =fa t:=λt=>by rw[<-ep]
 simp only[ev]at cn ck bu bi;obtain⟨FL,ec⟩:=nM (AP (Aa s.L));rw[ec]at KA HP ci df;obtain⟨n,hn⟩:=nM FL.length;have HN:=hV0 hn;rw[hn]at KA ci;have f7:n<=4096:=ci.o;clear hT cq hf a9 ej ei en ep ev ec hn ci;unfold pl.Ak;rw[A0];unfold evV;obtain⟨kd,sd,O,bb⟩:=v;dsimp only at d4 bu bi⊢;obtain⟨n0,ds⟩:=nM bb.length;have fh:=hV0 ds;rw[ds];clear ds;go_enter func102,ntmps102;go_upto_region 3 with fail;generalize hV:(World.alloc (World.alloc (World.alloc w _) _) _)=V;have ed:Ϟ w V:=by rw[<-hV];exact(Ϫ.alloc ϡ _).alloc Ϥ _
 have d2:ϝ (boxP V w p x):=by
  subst hV;exact Ad (Ad (BL ..) Ϫ) Ϫ
 have c4:ϝ (AK V (w+1) s y):=by
  subst hV;have:=AL (ξ w (Φ p x) 25) s y 31;rw[World.size_alloc]at this;exact Ah this Ϫ
 have q2:Δ V (w+1+1) 2 (vI O):=by subst hV;go_simp
 have q3:Δ V (w+1+1) 3 (vS ra n0 rc):=by subst hV;go_simp
 clear hV;obtain⟨u0,u1,u2,u3,u4,u5,u6,u7,u8⟩:=c4.o;go_upto_region 4 with(go_at_call 43;(with_reducible refine(KA.o _ ed).mono ?_);rintro e B ⟨⟨la,lc,rfl,eo⟩,b8⟩);clear u0 u1 u2 u3 u4 u5 u6 u7 u8;have co:Ϟ w B:=bT ed b8;have d5:=hV0 eo;have eb:ϝ (∀m,Ϟ B m->(Δ m (w+1+1) 2 (vI O)/\Δ m (w+1+1) 3 (vS ra n0 rc))/\(AK m (w+1) s y)/\boxP m w p x):=λm C=>⟨⟨cLz C (cLz b8 q2),cLz C (cLz b8 q3)⟩,Ah (Ah c4.o b8) C,Ad (Ad d2.o b8) C⟩;clear eo q2 q3 KA d2 c4;go_upto_region 5 with fail
 go_loopw [12,13,15,16,17,18,88,103] (λov mv i _ _ _ _ _ wr=> ∃(k:Nat) (L:List CO) (ems:List EM),k<=n/\i=vI k/\MT B wr ov L mv ems ((FL.take k).filter f)/\L.map CO.chg=((FL.take k).filter f).flatMap tO/\L.length<=2 * k/\(hs=false->k=0)) (λ_ _ i _ _ _ _ _ _=>n - (intOf i).toNat)
 case atStart=>exact⟨0,[],[],Nat.zero_le _,rfl,⟨CG.start nR,Zz B⟩,rfl,Nat.le_refl _,λ_=>rfl⟩
 case round=>
  obtain⟨k,L,ems,f6,rfl,cu,e6,fp,d0⟩:=hrel;have HM:=hV0 cu;have a4:=hV0 e6;have b1:Ϟ B wr:=cu.gl.bl;have f5:ems.length<=k:=by
   have N:=cu.gl.ers.1;have h2:=length_filter_le f (FL.take k);rw[length_take]at h2;omega
  obtain⟨pn,cx⟩:=nM L.length;have ak:=hV0 cx;have dd:ϝ ((L.map CO.pair).length=pn):=by show _=_;rw[lMp];exact cx
  rw[cx]at fp;clear cu e6 cx;by_cases a8:k<n/\hs=true
  ·obtain⟨a8,rfl⟩:=a8;obtain⟨lb,lo,ab,af,el,x0,x1,x2,x3,x4,x5⟩:=d5.o k (by rw[HN.o];exact a8);subst el;obtain⟨cy,cz⟩:=df.o _ (AD (d:=default) (by rw[HN.o];exact a8));have b9:=bu.o (FL.getD k default);have dq:=Ph FL f k (by rw[HN.o];exact a8);have a9:=bi.o (FL.getD k default);obtain⟨yl,e9⟩:=nM (FL.getD k default);rw[e9]at x0 x1 x2 x3 x4 x5 cy cz b9 dq a9;have c7:ϝ (∀R,yl.row.length=R->ER B ⟨yl.key,yl.time,yl.seq,(ab,R,af),yl.met⟩ yl):=λR e=>⟨rfl,rfl,rfl,rfl,e.symm,x5⟩;have cm:ϝ (vl.rowAt B ab yl.row):=x5;obtain⟨lk,U,aj,lr,lm⟩:=yl;dsimp only at x0 x1 x2 x3 x4 cy cz b9 a9 c7 cm;obtain⟨R,ct⟩:=nM lr.length;have c8:ϝ (lr.length=R/\0<lr.length/\lr.length<=400):=⟨ct,cy,cz⟩;have d3:ϝ (ER B ⟨lk,U,aj,(ab,R,af),lm⟩ ⟨lk,U,aj,lr,lm⟩):=c7.o R ct;rw[ct]at x3;obtain⟨od,cw⟩:=nM (fa U);have KL:ϝ (∀A,Ϟ B A->CT 99 #[jn.joinV s y,.string kb,vI U] A λe m=>(∃em:EM,e= .returned (.tuple #[em.val,.bool od.isSome])/\∀z,od=some z->ER m em z/\∀g,(hdV em.row).ownBlock=some g->An m g 103)/\Ϟ A m):=λA hb=>by
    have:=cn.o U A (bT co hb);rw[cw]at this;exact this
   have fi:ϝ (∀z,od=some z->0<z.row.length/\z.row.length<=400):=λz C=>ck.o U z (cw.trans C);rw[cw]at b9 a9;have ar:=hV0 b9;have a3:=hV0 dq;have au:=hV0 a9;have i1:(0:Int)<=(k:Int):=ϟ;have i2:(k:Int)<(n:Int):=ϟ;have J:ϝ (∀m,Ϟ B m->(Δ m (w+1+1) 2 (vI O)/\Δ m (w+1+1) 3 (vS ra n0 rc))/\(ό m lb (lo+k * 5) (.string lk) (vI U) (vI aj) (vS ab R af) (.bool lm))/\(AK m (w+1) s y)/\boxP m w p x):=λm C=>⟨(eb.o m C).1,⟨cLz C x0,cLz C x1,cLz C x2,cLz C x3,cLz C x4⟩,(eb.o m C).2⟩;clear b9 dq a9 cy cz e9 x0 x1 x2 x3 x4 x5 ct c7 cw;by_cases c1:lk=kb
   case neg=>
    have t1:(lk.toList==kb.toList)=false:=by
     have:=bytes_beq lk kb;rw[beq_eq_false_iff_ne];intro e;rw[e]at this;exact c1 (by simpa using this.symm)
    have t2:(lk.toList !=kb.toList)=true:=by simpa using t1
    have ah:ϝ ((FL.take (k+1)).filter f=(FL.take k).filter f):=by
     show _=_;rw[a3.o,ar.o,decide_eq_false c1];simp
    clear c1 a3 ar;go_upto_region 7 with fail;refine gr.AQ (S:=λm=>(Δ m (w+1+1) 2 (vI O)/\Δ m (w+1+1) 3 (vS ra n0 rc))/\(ό m lb (lo+k * 5) (.string lk) (vI U) (vI aj) (vS ab R af) (.bool lm))/\(AK m (w+1) s y)/\boxP m w p x) 17 rfl bm (J.o _ b1.drew) ?_;intro q;refine Ai 0 31 q ?_;refine Ai 2 33 q ?_;refine Ai 4 35 q ?_;refine Ai 6 37 q ?_;refine sk 8 39 q ?_;refine sk 9 40 q ?_;refine sk 10 41 q ?_;refine sk 11 42 q ?_;refine sk 12 43 q ?_;refine sk 13 44 q ?_;refine sk 14 45 q ?_;refine sk 15 46 q ?_;refine takeB 16 47 q ?_;refine wpAnyH_done Ϣ ?_ _;go_wp2;go_roundw
    case rel=>exact⟨k+1,L,ems,ϟ,by go_num,by rw[ah.o];exact HM.o.below ((bR.drew)),by rw[ah.o];exact a4.o,by rw[ak.o];omega,λh=>absurd h Ϡ⟩
    case measure=>simp[intOf];omega
   have t1:(lk.toList==kb.toList)=true:=by rw[c1];simp
   have t2:(lk.toList !=kb.toList)=false:=by rw[c1];simp
   by_cases c2:U<O
   case pos=>
    have ah:ϝ ((FL.take (k+1)).filter f=(FL.take k).filter f):=by
     show _=_;rw[a3.o,ar.o,decide_eq_false (show¬O<=U by omega)];simp
    clear c1 a3 ar;go_upto_region 7 with fail;refine gr.AQ (S:=λm=>(Δ m (w+1+1) 2 (vI O)/\Δ m (w+1+1) 3 (vS ra n0 rc))/\(ό m lb (lo+k * 5) (.string lk) (vI U) (vI aj) (vS ab R af) (.bool lm))/\(AK m (w+1) s y)/\boxP m w p x) 17 rfl bm (J.o _ b1.drew) ?_;intro q;refine Ai 0 31 q ?_;refine Ai 2 33 q ?_;refine Ai 4 35 q ?_;refine Ai 6 37 q ?_;refine Ai 8 39 q ?_;refine Ai 10 41 q ?_;refine Ai 12 43 q ?_;refine Ai 14 45 q ?_;refine takeB 16 47 q ?_;refine wpAnyH_done Ϣ ?_ _;go_wp2;go_roundw
    case rel=>exact⟨k+1,L,ems,ϟ,by go_num,by rw[ah.o];exact HM.o.below ((bR.drew)),by rw[ah.o];exact a4.o,by rw[ak.o];omega,λh=>absurd h Ϡ⟩
    case measure=>simp[intOf];omega
   rw[decide_eq_true c1,decide_eq_true (show O<=U by omega),Bool.true_and,Bool.true_and]at ar;clear c1;go_upto_region 7 with fail;refine gr.AQ (S:=λm=>(Δ m (w+1+1) 2 (vI O)/\Δ m (w+1+1) 3 (vS ra n0 rc))/\(ό m lb (lo+k * 5) (.string lk) (vI U) (vI aj) (vS ab R af) (.bool lm))/\(AK m (w+1) s y)/\boxP m w p x) 17 rfl bm (J.o _ b1.drew) ?_;intro q;refine Ai 0 31 q ?_;refine Ai 2 33 q ?_;refine Ai 4 35 q ?_;refine Ai 6 37 q ?_;refine Ai 8 39 q ?_;refine Ai 10 41 q ?_;refine Ai 12 43 q ?_;refine Ai 14 45 q ?_;refine takeB 16 47 q ?_;refine wpAnyH_done Ϣ ?_ _;obtain⟨wq,dy⟩:=nM wr.drew;have ao:Ϟ wr wq:=by rw[<-dy];exact bR.drew
   have a0:Ϟ B wq:=bT b1 ao;rw[dy];clear dy;go_upto_region 8 with fail
   go_cut [16,17] (λa b wc=> ∃E em,a= .pointer (τ E)/\b= .bool od.isSome/\Ada wc E em/\(∀z,od=some z->ER wc em z/\∀g,(hdV em.row).ownBlock=some g->An wc g 103)/\Ϟ wr wc/\wr.heap.size<=E/\An wc E 63)
   case first=>
    refine gr.AQ (S:=λm=>(Δ m (w+1+1) 2 (vI O)/\Δ m (w+1+1) 3 (vS ra n0 rc))/\(ό m lb (lo+k * 5) (.string lk) (vI U) (vI aj) (vS ab R af) (.bool lm))/\(AK m (w+1) s y)/\boxP m w p x) 14 rfl bm (J.o _ a0.drew) ?_;intro q;refine Ai 0 49 q ?_;refine Ai 2 51 q ?_;refine Ai 4 53 q ?_;refine takeB 6 55 q ?_;refine wpAnyH_ready (rs:=[7,11]) Ϣ ϡ ?_;refine AllReadyH.cons rfl (λK u=>?_) (AllReadyH.cons rfl (λK u=>?_) AllReadyH.nil)
    ·go_simp;go_at_call 99;refine(KL.o _ (a0.drew)).mono ?_;rintro e M ⟨⟨⟨ek,et,eq,⟨e1,e2,e3⟩,bx⟩,rfl,ax⟩,ai⟩;have ay:Ϟ B M:=(a0.drew).trans (ai.mono (a0.drew).size);unfold EM.val hdV;dsimp only at ax⊢;go_wp2_with fail;refine u.out _ _ (J.o _ ay) (λq=>?_);clear u K
     try simp only[Act.put,sI,sZ,sSz]
     refine takeB 8 48 q ?_;refine takeB 9 57 q ?_;refine takeB 10 58 q ?_;refine rD 11 λK u=>?_;go_simp;refine u.out _ _ (J.o _ (ay.alloc ay.size _)) (λq=>?_);clear u K
     try simp only[Act.put,sI,sZ,sSz]
     have HA:=Uz M;have b2:ϝ (∀z,od=some z->ER (ξ M #[ϊ,ω,ω,ψ,ϋ] 63) ⟨ek,et,eq,(e1,e2,e3),bx⟩ z/\∀g,(hdV (e1,e2,e3)).ownBlock=some g->An (ξ M #[ϊ,ω,ω,ψ,ϋ] 63) g 103):=λz C=>⟨(ax z C).1.below HA.2.2.2,λg F=>Ae ((ax z C).2 g F) HA.2.2.2⟩;have bs:Ϟ B (ξ M #[ϊ,ω,ω,ψ,ϋ] 63):=ay.alloc ay.size _;have bp:Ϟ wr (ξ M #[ϊ,ω,ω,ψ,ϋ] 63):=(ao.trans ((bR.drew.trans ai).mono ao.size)).alloc (ao.trans ((bR.drew.trans ai).mono ao.size)).size _;have ag:wr.heap.size<=M.heap.size:=(ao.trans ((bR.drew.trans ai).mono ao.size)).size;have Q:B.heap.size<=M.heap.size:=ay.size;obtain⟨⟨I,P,z2,z3,z4⟩,H,ae,_⟩:=HA;obtain⟨E,b4⟩:=nM M.heap.size;generalize bq:M.alloc (.cells #[ϊ,ω,ω,ψ,ϋ] 63)=wx at *;rw[b4]at I P z2 z3 z4 H ae ag Q⊢;clear b4 bq;have f0:=H 0 ϟ;have f1:=H 1 ϟ;have f2:=H 2 ϟ;have f3:=H 3 ϟ;have f4:=H 4 ϟ;have bd:∀a b c d e,Ϟ B (φ (φ (φ (φ (φ wx E 0 a) E 1 b) E 2 c) E 3 d) E 4 e):=λa b c d e=>((((bs.setCell Q _).setCell Q _).setCell Q _).setCell Q _).setCell Q _;have be:∀a b c d e,Ϟ wr (φ (φ (φ (φ (φ wx E 0 a) E 1 b) E 2 c) E 3 d) E 4 e):=λa b c d e=>((((bp.setCell ag _).setCell ag _).setCell ag _).setCell ag _).setCell ag _;refine rD 12 λK u=>?_;go_simp;refine u.out _ _ (J.o _ (bd _ _ _ _ _)) (λq=>?_);clear u K
     try simp only[Act.put,sI,sZ,sSz]
     refine takeB 13 17 q ?_;refine wpAnyH_done Ϣ ?_ _;go_wp2;go_meet;exact⟨E,⟨ek,et,eq,(e1,e2,e3),bx⟩,rfl,rfl,FE I P z2 z3 z4 _ _ _ _ _,λz C=>⟨We I P z2 z3 z4 (b2.o z C).1 _ _ _ _ _,λg F=>Ao (Ao (Ao (Ao (Ao ((b2.o z C).2 g F) _ _) _ _) _ _) _ _) _ _⟩,be _ _ _ _ _,ag,Ao (Ao (Ao (Ao (Ao ae _ _) _ _) _ _) _ _) _ _⟩
    ·go_simp;refine u.out _ _ (J.o _ (a0.alloc a0.size _).drew) (λq=>?_);clear u K
     try simp only[Act.put,sI,sZ,sSz]
     have HA:=Ab4 wq;generalize (World.drew (World.alloc wq _))=wa at HA q⊢;obtain⟨⟨I,P,z2,z3,z4⟩,H,ae,bz⟩:=HA;have br:Ϟ B wa:=bT a0 bz;refine rD 7 λK u=>?_;go_simp;go_at_call 99;refine(KL.o _ (br)).mono ?_;rintro e M ⟨⟨⟨ek,et,eq,⟨e1,e2,e3⟩,bx⟩,rfl,ax⟩,ai⟩;have ay:Ϟ B M:=(br).trans (ai.mono (br).size);unfold EM.val hdV;dsimp only at ax⊢;go_wp2_with fail;refine u.out _ _ (J.o _ ay) (λq=>?_);clear u K
     try simp only[Act.put,sI,sZ,sSz]
     refine takeB 8 48 q ?_;refine takeB 9 57 q ?_;refine takeB 10 58 q ?_;have b2:=hV0 ax;have bp:Ϟ wr M:=ao.trans ((bT bz ai).mono ao.size);have ag:wr.heap.size<=wq.heap.size:=ao.size;have Q:B.heap.size<=wq.heap.size:=a0.size;have dr:wq.heap.size<wa.heap.size:=bLt _ _ I;replace I:=cLz ai I;replace P:=cLz ai P;replace z2:=cLz ai z2;replace z3:=cLz ai z3;replace z4:=cLz ai z4;replace ae:=Ae ae ai;replace H:∀j,j<5->Ξ M wq j:=λj hj=>(ai.frozen (p:=⟨wq,j,none⟩) dr).trans (H j hj);obtain⟨E,b4⟩:=nM wq.heap.size;have bs:=ay;generalize bq:M=wx at *;rw[b4]at I P z2 z3 z4 H ae ag Q⊢;clear b4 bq;have f0:=H 0 ϟ;have f1:=H 1 ϟ;have f2:=H 2 ϟ;have f3:=H 3 ϟ;have f4:=H 4 ϟ;have bd:∀a b c d e,Ϟ B (φ (φ (φ (φ (φ wx E 0 a) E 1 b) E 2 c) E 3 d) E 4 e):=λa b c d e=>((((bs.setCell Q _).setCell Q _).setCell Q _).setCell Q _).setCell Q _;have be:∀a b c d e,Ϟ wr (φ (φ (φ (φ (φ wx E 0 a) E 1 b) E 2 c) E 3 d) E 4 e):=λa b c d e=>((((bp.setCell ag _).setCell ag _).setCell ag _).setCell ag _).setCell ag _;refine rD 12 λK u=>?_;go_simp;refine u.out _ _ (J.o _ (bd _ _ _ _ _)) (λq=>?_);clear u K
     try simp only[Act.put,sI,sZ,sSz]
     refine takeB 13 17 q ?_;refine wpAnyH_done Ϣ ?_ _;go_wp2;go_meet;exact⟨E,⟨ek,et,eq,(e1,e2,e3),bx⟩,rfl,rfl,FE I P z2 z3 z4 _ _ _ _ _,λz C=>⟨We I P z2 z3 z4 (b2.o z C).1 _ _ _ _ _,λg F=>Ao (Ao (Ao (Ao (Ao ((b2.o z C).2 g F) _ _) _ _) _ _) _ _) _ _⟩,be _ _ _ _ _,ag,Ao (Ao (Ao (Ao (Ao ae _ _) _ _) _ _) _ _) _ _⟩
   case rest=>
    rename World=>w8;obtain⟨E,⟨ek,et,eq,⟨e1,e2,e3⟩,bx⟩,rfl,rfl,eg,ax,dx,ag,fw⟩:=hcut;have cg:=hV0 ax;have c0:Ϟ B w8:=bT b1 dx;have b3:ϝ (MT B w8 u12 L u13 ems ((FL.take k).filter f)):=HM.o.below dx;have ff:=hV0 eg;have d8:ϝ (∀g,u13.ownBlock=some g->g<wr.heap.size):=λg F=>(ch.AM HM.o.gl.own F).2;have fg:ϝ (∀g,u12.ownBlock=some g->g≠E):=λg F e=>by have:=(ch.AM HM.o.cg.own F).2;omega
    obtain⟨m0,m1,m2,m3,m4⟩:=eg;dsimp only at m0 m1 m2 m3 m4;obtain⟨⟨q2,q3⟩,⟨I,P,z2,z3,z4⟩,_,_⟩:=J.o _ c0;clear ax fw KL a0 ao
    cases hok:okO od O with
    |false=>
     have ah:ϝ ((FL.take (k+1)).filter f=(FL.take k).filter f):=by
      show _=_;rw[a3.o,ar.o,hok];simp
     cases od with
     |none=>cases hok
     |some o=>
      have cc:=(cg.o o rfl).1.time;dsimp only at cc;have dv:¬o.time<=O:=of_decide_eq_false hok;have g1:et>O:=ϟ;have g2:O<et:=g1;clear hok dv cc a3 ar;go_wp2;go_roundw
      case rel=>exact⟨k+1,L,ems,ϟ,by go_num,by rw[ah.o];exact b3.o,by rw[ah.o];exact a4.o,by rw[ak.o];omega,λh=>absurd h Ϡ⟩
      case measure=>simp[intOf];omega
    |true=>
     have ah:ϝ ((FL.take (k+1)).filter f=(FL.take k).filter f++[⟨lk,U,aj,lr,lm⟩]):=by
      show _=_;rw[a3.o,ar.o,hok,if_pos rfl]
     have d7:=hV0 hok;clear a3 ar hok;go_upto_region 9 with fail
     go_cut [66] (λc wc=>wc=w8/\c= .bool false)
     case first=>
      cases od with
      |none=>
       go_wp2;go_meet;exact⟨rfl,rfl⟩
      |some o=>
       have cc:=(cg.o o rfl).1.time;dsimp only at cc;have dv:o.time<=O:=of_decide_eq_true d7.o;have g1:¬et>O:=ϟ;have g2:¬O<et:=g1;clear dv cc;go_wp2;go_meet;exact⟨rfl,rfl⟩
     case rest=>
      obtain⟨e8,rfl⟩:=hcut;have fy:=e8.symm;subst fy;clear e8 d7 HM;go_upto_region 11 with(at_builtin;refine wpList_appE rfl (.tmp 67) (.tmp 72) rfl B.heap.size u13 ems lk U aj ab R af lm w8 ems.length rfl b3.o.gl.own ϟ c0.size rfl rfl ?_;intro fk fj G ey a7);obtain⟨ew,aq⟩:=b3.o.met (mv':=vS (τ fk) (ems.length+1) fj) d3.o ey a7;have bh:=hV0 ew;have b0:∀g,u13.ownBlock=some g->g≠E:=λg F e=>by have:=d8.o g F;omega
      have fe:ϝ (Ada G E ⟨ek,et,eq,(e1,e2,e3),bx⟩):=⟨Cr a7 b0 m0,Cr a7 b0 m1,Cr a7 b0 m2,Cr a7 b0 m3,Cr a7 b0 m4⟩;have cl:ϝ (∀z,od=some z->vl.rowAt G e1 z.row/\e2=z.row.length):=λz C=>by
       obtain⟨N,h2⟩:=cg.o z C;exact⟨XM (n:=e2) (c:=e3) N.row (λg F=>Ge a7 (λr hr=>A6 b3.o.gl.own hr) Ϡ (h2 g F)),N.len⟩
      obtain⟨BR,cp⟩:=nM (lr++bb);obtain⟨bn,ef⟩:=nM BR.length;have KJ:ϝ (∀A,Ϟ B A->CT 100 #[vS ab R af,vS ra n0 rc] A λe m=>(∃ad a5,e= .returned (vS ad bn a5)/\A4 m A (vS ad bn a5) BR)/\Ϟ A m):=λA hb=>by
       have N:=d4.o;have h2:=c8.o;have:=KB.o ab ra af rc lr bb A N.2.1 h2.2.2 N.2.2 (vl.Ac cm.o hb) (vl.Ac N.1 (bT co hb));rw[cp,ef,fh.o,h2.1]at this;exact this
      have dg:ϝ (∀z,Sq kf p.right.length lr bb (some z)=[⟨3,lr++z.row⟩,⟨4,BR⟩]):=λz=>by rw[<-cp];rfl
      have ea:ϝ (Sq kf p.right.length lr bb none=if kf=true then [⟨3,lr++bt.AE p.right.length⟩,⟨4,BR⟩]else [⟨1,BR⟩]):=by rw[<-cp];exact rfl
      clear m0 m1 m2 m3 m4 q2 q3 I P z2 z3 z4 ew ey a7 b0 b3 cg ff cp ef d3 d8 dx
      go_cut [18] (λa wc=> ∃D Y Z,a= .pointer (τ D)/\(Δ wc D 0 (vI 4)/\Δ wc D 1 (vS Y bn Z))/\Ξ wc D 0/\A4 wc G (vS Y bn Z) BR/\Ϟ G wc/\G.heap.size<=D/\An wc D 55)
      case first=>
       refine gr.AQ (S:=λm=>(Δ m (w+1+1) 2 (vI O)/\Δ m (w+1+1) 3 (vS ra n0 rc))/\(ό m lb (lo+k * 5) (.string lk) (vI U) (vI aj) (vS ab R af) (.bool lm))/\(AK m (w+1) s y)/\boxP m w p x) 11 rfl bm (J.o _ aq.drew) ?_;intro q;refine Ai 0 74 q ?_;refine Ai 2 76 q ?_;refine Ai 4 78 q ?_;refine takeB 6 80 q ?_;refine wpAnyH_ready (rs:=[7,9]) Ϣ ϡ ?_;refine AllReadyH.cons rfl (λK u=>?_) (AllReadyH.cons rfl (λK u=>?_) AllReadyH.nil)
       ·go_simp;go_at_call 100;refine(KJ.o _ (aq.drew)).mono ?_;rintro e w4 ⟨⟨Y,Z,rfl,du⟩,av⟩;have az:Ϟ B w4:=(aq.drew).trans (av.mono (aq.drew).size);go_wp2_with fail;refine u.out _ _ (J.o _ az) (λq=>?_);clear u K
        try simp only[Act.put,sI,sZ,sSz]
        refine takeB 8 82 q ?_;refine rD 9 λK u=>?_;go_simp;refine u.out _ _ (J.o _ (az.alloc az.size _)) (λq=>?_);clear u K
        try simp only[Act.put,sI,sZ,sSz]
        have HA:=ZV w4;have dm:Ϟ G w4:=bR.drew.trans av;have bo:A4 (ξ w4 #[ω,ψ] 55) G.heap.size (vS Y bn Z) BR:=own_below (World.ownsRow.mono du nR) HA.2.2.2;have bs:Ϟ B (ξ w4 #[ω,ψ] 55):=az.alloc az.size _;have bp:Ϟ G (ξ w4 #[ω,ψ] 55):=dm.alloc dm.size _;have am:G.heap.size<=w4.heap.size:=dm.size;have Q:B.heap.size<=w4.heap.size:=az.size;obtain⟨⟨I,P⟩,H,ae,_⟩:=HA;obtain⟨D,b5⟩:=nM w4.heap.size;generalize bq:w4.alloc (.cells #[ω,ψ] 55)=wx at *;rw[b5]at I P H ae am Q⊢;clear b5 bq;have f0:=H 0 ϟ;have f1:=H 1 ϟ;have bd:∀a b,Ϟ B (φ (φ wx D 0 a) D 1 b):=λa b=>(bs.setCell Q _).setCell Q _;have be:∀a b,Ϟ G (φ (φ wx D 0 a) D 1 b):=λa b=>(bp.setCell am _).setCell am _;refine rD 10 λK u=>?_;go_simp;refine u.out _ _ (J.o _ (bd _ _)) (λq=>?_);clear u K
        try simp only[Act.put,sI,sZ,sSz]
        refine wpAnyH_done Ϣ ?_ _;go_wp2;go_meet;exact⟨D,Y,Z,rfl,⟨cell_far (World.cell?_setCell_same _ _ _ I) ϟ,World.cell?_setCell_same _ _ _ (cell_far P ϟ)⟩,by rw[World.frozen?_setCell,World.frozen?_setCell];exact f0,A2 bo (λg F=>(heap_setCell_other _ _ _ _ (λe=>tyAt_apart (A6 bo F) ae Ϡ e)).trans (heap_setCell_other _ _ _ _ (λe=>tyAt_apart (A6 bo F) ae Ϡ e))),be _ _,am,Ao (Ao ae _ _) _ _⟩
       ·go_simp;refine u.out _ _ (J.o _ (aq.alloc aq.size _).drew) (λq=>?_);clear u K
        try simp only[Act.put,sI,sZ,sSz]
        have HA:=Ab5 G;generalize (World.drew (World.alloc G _))=wa at HA q⊢;obtain⟨⟨I,P⟩,H,ae,bz⟩:=HA;have br:Ϟ B wa:=bT aq bz;refine rD 7 λK u=>?_;go_simp;go_at_call 100;refine(KJ.o _ (br)).mono ?_;rintro e w4 ⟨⟨Y,Z,rfl,du⟩,av⟩;have az:Ϟ B w4:=(br).trans (av.mono (br).size);go_wp2_with fail;refine u.out _ _ (J.o _ az) (λq=>?_);clear u K
        try simp only[Act.put,sI,sZ,sSz]
        refine takeB 8 82 q ?_;have bp:Ϟ G w4:=bT bz av;have bo:A4 w4 G (vS Y bn Z) BR:=World.ownsRow.mono du bz.size;have am:G.heap.size<=G.heap.size:=Nat.le_refl _;have Q:B.heap.size<=G.heap.size:=aq.size;have dr:G.heap.size<wa.heap.size:=bLt _ _ I;replace I:=cLz av I;replace P:=cLz av P;replace ae:=Ae ae av;replace H:∀j,j<2->Ξ w4 G j:=λj hj=>(av.frozen (p:=⟨G,j,none⟩) dr).trans (H j hj);have bs:=az;obtain⟨D,b5⟩:=nM G.heap.size;generalize bq:w4=wx at *;rw[show(some (⟨G,0,none⟩:Addr))=some ⟨D,0,none⟩ by rw[b5]];have am:G.heap.size<=D:=ϟ;rw[b5]at I P H ae;replace Q:B.heap.size<=D:=ϟ;clear bq;have f0:=H 0 ϟ;have f1:=H 1 ϟ;have bd:∀a b,Ϟ B (φ (φ wx D 0 a) D 1 b):=λa b=>(bs.setCell Q _).setCell Q _;have be:∀a b,Ϟ G (φ (φ wx D 0 a) D 1 b):=λa b=>(bp.setCell am _).setCell am _;refine rD 10 λK u=>?_;go_simp;refine u.out _ _ (J.o _ (bd _ _)) (λq=>?_);clear u K
        try simp only[Act.put,sI,sZ,sSz]
        refine wpAnyH_done Ϣ ?_ _;go_wp2;go_meet;exact⟨D,Y,Z,rfl,⟨cell_far (World.cell?_setCell_same _ _ _ I) ϟ,World.cell?_setCell_same _ _ _ (cell_far P ϟ)⟩,by rw[World.frozen?_setCell,World.frozen?_setCell];exact f0,A2 bo (λg F=>(heap_setCell_other _ _ _ _ (λe=>tyAt_apart (A6 bo F) ae Ϡ e)).trans (heap_setCell_other _ _ _ _ (λe=>tyAt_apart (A6 bo F) ae Ϡ e))),be _ _,am,Ao (Ao ae _ _) _ _⟩
      case rest=>
       rename World=>w5;obtain⟨D,Y,Z,rfl,⟨c3,d1⟩,fo,cv,bk,am,fx⟩:=hcut;have cd:Ϟ B w5:=bT aq bk;have db:=hV0 cv;have cj:ϝ (∀g,u12.ownBlock=some g->g≠D):=λg F e=>by have:=(ch.AM bh.o.cg.own F).2;omega
       have fs:D<w5.heap.size:=bLt _ _ c3
       cases od with
       |some o=>
        rw[dg.o o]at au;obtain⟨ez,er⟩:=cl.o o rfl;obtain⟨AR,bj⟩:=nM (lr++o.row);obtain⟨an,b6⟩:=nM AR.length;have m3:=cLz bk fe.o.2.2.2.1;dsimp only at m3;have di:ϝ (∀A,Ϟ w5 A->CT 100 #[vS ab R af,vS e1 e2 e3] A λe m=>(∃ad a5,e= .returned (vS ad an a5)/\A4 m A (vS ad an a5) AR)/\Ϟ A m):=λA hb=>by
         have N:=fi.o o rfl;have h2:=c8.o;have:=KB.o ab e1 af e3 lr o.row A N.1 h2.2.2 N.2 (vl.Ac cm.o (bT cd hb)) (vl.Ac ez (bT bk hb));rw[bj,b6,h2.1,<-er]at this;exact this
        rw[bj]at au;have bv:ϝ (∀m,Ϟ w5 m->((Δ m (w+1+1) 2 (vI O)/\Δ m (w+1+1) 3 (vS ra n0 rc))/\(ό m lb (lo+k * 5) (.string lk) (vI U) (vI aj) (vS ab R af) (.bool lm))/\(AK m (w+1) s y)/\boxP m w p x)/\Δ m E 3 (vS e1 e2 e3)/\Δ m D 0 (vI 4)/\Δ m D 1 (vS Y bn Z)):=λm C=>⟨J.o _ (bT cd C),cLz C m3,cLz C c3,cLz C d1⟩;clear bj b6 ez er cl ea cv;go_upto_region 15 with fail;refine gr.AQ (S:=λm=>((Δ m (w+1+1) 2 (vI O)/\Δ m (w+1+1) 3 (vS ra n0 rc))/\(ό m lb (lo+k * 5) (.string lk) (vI U) (vI aj) (vS ab R af) (.bool lm))/\(AK m (w+1) s y)/\boxP m w p x)/\Δ m E 3 (vS e1 e2 e3)/\Δ m D 0 (vI 4)/\Δ m D 1 (vS Y bn Z)) 14 rfl bm (bv.o _ bR.drew) ?_;intro q;refine Ai 0 90 q ?_;refine Ai 2 92 q ?_;refine Ai 4 94 q ?_;refine Ai 6 96 q ?_;refine takeB 10 100 q ?_;refine rD 8 λK u=>?_;go_simp;go_at_call 100;refine(di.o _ bR.drew).mono ?_;rintro e w7 ⟨⟨aa,ac,rfl,dt⟩,dp⟩;have aw:Ϟ w5 w7:=bR.drew.trans dp;have dz:Ϟ B w7:=bT cd aw;go_wp2_with fail;refine u.out _ _ (bv.o _ aw) (λq=>?_);clear u K
        try simp only[Act.put,sI,sZ,sSz]
        refine takeB 9 99 q ?_;refine rD 11 λK u=>?_;go_simp;refine u.out _ _ (bv.o _ (aw.alloc aw.size _)) (λq=>?_);clear u K
        try simp only[Act.put,sI,sZ,sSz]
        have da:ϝ (w7.ownsRow B 55 2 u12 pn (ch.Ba (L.map CO.pair))):=by
         have h:=((bh.o.below bk).below aw).cg.own;rw[ak.o]at h;exact h
        refine rD 12 λK u=>?_;refine Jv (by rfl) (.tmp 90) (.tmp 101) (by rfl) B.heap.size u12 (L.map CO.pair) 3 (vS aa an ac) 4 (vS Y bn Z) w7 pn dd.o da.o ϟ dz.size rfl rfl (by simp[Act.eval,Act.put]) (by simp[Act.eval,Act.put]) ?_;intro g9 c9 w9 cb ap b7 eu;have bg:=MT.two bh.o (k:=3) (k2:=4) bk db.o aw (World.ownsRow.mono dt nR) (rv:=vS aa an ac) (row:=AR) (ov':=vS (τ g9) (pn+2) c9) ap (by rw[ak.o];exact cb) (λg' ca=>by cases ca;rcases b7 with h|h;exact .inl h;exact .inr (by show _<=g9;omega));refine u.out _ _ ⟨J.o _ bg.2,Cr ap fg.o (bv.o _ aw).2.1,Cr ap cj.o (bv.o _ aw).2.2.1,Cr ap cj.o (bv.o _ aw).2.2.2⟩ (λq=>?_);clear u K
        try simp only[Act.put,sI,sZ,sSz]
        refine takeB 13 12 q ?_;refine wpAnyH_done Ϣ ?_ _;go_wp2;go_roundw
        case rel=>exact⟨k+1,_,_,ϟ,by go_num,by rw[ah.o];exact bg.1,by rw[ah.o,flatMap_append,<-a4.o,map_append,flatMap_cons,flatMap_nil,append_nil,au.o];rfl,by rw[lAp,ak.o];simp only[length_cons,length_nil];omega,λh=>absurd h Ϡ⟩
        case measure=>simp[intOf];omega
       |none=>
        rw[ea.o]at au;obtain⟨⟨q2,q3⟩,⟨I,P,z2,z3,z4⟩,⟨j0,j1,j2,j3,j4,j5,j6,j7,j8⟩,v0,v1,v2,v3,v4,v5,v6,v7,v8,v9,fb,fc,fd⟩:=J.o _ cd
        cases kf with
        |true=>
         rw[if_pos rfl]at au;obtain⟨AR,bj⟩:=nM (lr++bt.AE p.right.length);obtain⟨an,b6⟩:=nM AR.length;have di:ϝ (∀(A M:ϛ),Ϟ B M->vl.rowAt M (τ A) (bt.AE p.right.length)->CT 100 #[vS ab R af,vS (τ A) p.right.length p.right.length] M λe m=>(∃ad a5,e= .returned (vS ad an a5)/\A4 m M (vS ad an a5) AR)/\Ϟ M m):=λA M hb hn=>by
          have N:=d6.o;have h2:=c8.o;have:=KB.o ab (τ A) af p.right.length lr (bt.AE p.right.length) M (by rw[N.1];exact N.2.1) h2.2.2 (by rw[N.1];exact N.2.2) (vl.Ac cm.o hb) hn;rw[bj,b6,h2.1,N.1]at this;exact this
         rw[bj]at au;clear bj b6 cl dg cv;go_upto_region 17 with(go_at_call 101;(with_reducible refine(KK.o _).mono ?_);rintro e w6 ⟨rfl,al⟩);have ee:Ϟ G w6:=bT bk al;have cf:Ϟ B w6:=bT cd al;have dc:ϝ (A4 w6 G (vS Y bn Z) BR):=own_below db.o al;have bw:ϝ (∀m,Ϟ w6 m->((Δ m (w+1+1) 2 (vI O)/\Δ m (w+1+1) 3 (vS ra n0 rc))/\(ό m lb (lo+k * 5) (.string lk) (vI U) (vI aj) (vS ab R af) (.bool lm))/\(AK m (w+1) s y)/\boxP m w p x)/\Δ m D 0 (vI 4)/\Δ m D 1 (vS Y bn Z)):=λm C=>⟨J.o _ (bT cf C),cLz C (cLz al c3),cLz C (cLz al d1)⟩;clear q2 q3 I P z2 z3 z4 j0 j1 j2 j3 j4 j5 j6 j7 j8 v0 v1 v2 v3 v4 v5 v6 v7 v8 v9 fb fc fd;refine gr.AQ (S:=λm=>((Δ m (w+1+1) 2 (vI O)/\Δ m (w+1+1) 3 (vS ra n0 rc))/\(ό m lb (lo+k * 5) (.string lk) (vI U) (vI aj) (vS ab R af) (.bool lm))/\(AK m (w+1) s y)/\boxP m w p x)/\Δ m D 0 (vI 4)/\Δ m D 1 (vS Y bn Z)) 16 rfl bm (bw.o _ bR.drew) ?_;intro q;refine Ai 0 106 q ?_;refine Ai 2 108 q ?_;refine Ai 4 110 q ?_;refine Ai 6 112 q ?_;refine takeB 8 114 q ?_;refine takeB 12 118 q ?_;refine rD 9 λK u=>?_;go_simp;go_at_call 23;refine(KN.o _).mono ?_;rintro e w7 ⟨⟨rfl,ft⟩,dp⟩;have cr:Ϟ w6 w7:=bR.drew.trans dp;have dz:Ϟ B w7:=bT cf cr;go_wp2_with fail;refine u.out _ _ (bw.o _ cr) (λq=>?_);clear u K
         try simp only[Act.put,sI,sZ,sSz]
         refine rD 10 λK u=>?_;go_simp;go_at_call 100;refine(di.o _ _ dz ft).mono ?_;rintro e w8 ⟨⟨aa,ac,rfl,dt⟩,fm⟩;have a6:Ϟ w6 w8:=bT cr fm;have c0:Ϟ B w8:=bT cf a6;go_wp2_with fail;refine u.out _ _ (bw.o _ a6) (λq=>?_);clear u K
         try simp only[Act.put,sI,sZ,sSz]
         refine takeB 11 117 q ?_;refine rD 13 λK u=>?_;go_simp;refine u.out _ _ (bw.o _ (a6.alloc a6.size _)) (λq=>?_);clear u K
         try simp only[Act.put,sI,sZ,sSz]
         have da:ϝ (w8.ownsRow B 55 2 u12 pn (ch.Ba (L.map CO.pair))):=by
          have h:=((bh.o.below ee).below a6).cg.own;rw[ak.o]at h;exact h
         refine rD 14 λK u=>?_;refine Jv (by rfl) (.tmp 106) (.tmp 119) (by rfl) B.heap.size u12 (L.map CO.pair) 3 (vS aa an ac) 4 (vS Y bn Z) w8 pn dd.o da.o ϟ c0.size rfl rfl (by simp[Act.eval,Act.put]) (by simp[Act.eval,Act.put]) ?_;intro g9 c9 w9 cb ap b7 eu;have bg:=MT.two bh.o (k:=3) (k2:=4) ee dc.o a6 (World.ownsRow.mono dt cr.size) (rv:=vS aa an ac) (row:=AR) (ov':=vS (τ g9) (pn+2) c9) ap (by rw[ak.o];exact cb) (λg' ca=>by cases ca;rcases b7 with h|h;exact .inl h;exact .inr (by show _<=g9;omega));refine u.out _ _ ⟨J.o _ bg.2,Cr ap cj.o (bw.o _ a6).2.1,Cr ap cj.o (bw.o _ a6).2.2⟩ (λq=>?_);clear u K
         try simp only[Act.put,sI,sZ,sSz]
         refine takeB 15 12 q ?_;refine wpAnyH_done Ϣ ?_ _;go_wp2;go_roundw
         case rel=>exact⟨k+1,_,_,ϟ,by go_num,by rw[ah.o];exact bg.1,by rw[ah.o,flatMap_append,<-a4.o,map_append,flatMap_cons,flatMap_nil,append_nil,au.o];rfl,by rw[lAp,ak.o];simp only[length_cons,length_nil];omega,λh=>absurd h Ϡ⟩
         case measure=>simp[intOf];omega
        |false=>
         rw[if_neg Ϡ]at au;clear cl dg cv;go_upto_region 13 with(go_at_call 101;(with_reducible refine(KK.o _).mono ?_);rintro e w6 ⟨rfl,al⟩;have y0:=cLz al c3;have yf:=(al.frozen (p:=⟨D,0,none⟩) fs).trans fo);generalize hX:(World.setCell w6 _ _)=X;have y1:Δ X D 0 (vI 1):=by rw[<-hX];exact World.cell?_setCell_same _ _ _ y0
         have y2:Δ X D 1 (vS Y bn Z):=by rw[<-hX];exact cell_far (cLz al d1) ϟ
         have dl:Ϟ G X:=by rw[<-hX];exact(bT bk al).setCell am _
         have cf:Ϟ B X:=bT aq dl;have dc:ϝ (A4 X G (vS Y bn Z) BR):=by
          rw[<-hX];have N:=own_below db.o al;exact A2 N (λg F=>heap_setCell_other _ _ _ _ (λe=>tyAt_apart (A6 N F) (Ae fx al) Ϡ e))
         have fu:X.ownsRow B 55 2 u12 pn (ch.Ba (L.map CO.pair)):=by
          have h:=(bh.o.below dl).cg.own;rw[ak.o]at h;exact h
         clear hX y0 yf q2 q3 I P z2 z3 z4 j0 j1 j2 j3 j4 j5 j6 j7 j8 v0 v1 v2 v3 v4 v5 v6 v7 v8 v9 fb fc fd;go_wp2_with (at_builtin;refine Gl rfl (.tmp 84) (.tmp 86) rfl B.heap.size u12 (L.map CO.pair) 1 Y bn Z X pn dd.o fu ϟ cf.size rfl rfl ?_;intro g9 c9 w9 cb ap b7 eu);have bg:=MT.one bh.o (k:=1) dl dc.o (rv:=vS Y bn Z) (row:=BR) (ov':=vS (τ g9) (pn+1) c9) ap (by rw[ak.o];exact cb) (λg' ca=>by cases ca;rcases b7 with h|h;exact .inl h;exact .inr (by show _<=g9;omega));go_roundw
         case rel=>exact⟨k+1,_,_,ϟ,by go_num,by rw[ah.o];exact bg.1,by rw[ah.o,flatMap_append,<-a4.o,map_append,flatMap_cons,flatMap_nil,append_nil,au.o];rfl,by rw[lAp,ak.o];simp only[length_cons,length_nil];omega,λh=>absurd h Ϡ⟩
         case measure=>simp[intOf];omega
  ·have d9:ϝ ((FL.take k).filter f=PR):=by
    show _=_;rw[HP.o]
    cases hs with
    |false=>
     rw[d0 rfl];rfl
    |true=>
     have:k=FL.length:=by
      rw[HN.o];have:¬k<n:=λh=>a8 ⟨h,rfl⟩;omega
     rw[this,take_length];rfl
   rw[d9.o]at HM a4;have fn:(hs=true/\k=n)\/(hs=false/\k=0/\0<n)\/(hs=false/\k=0/\n=0):=by
    cases hs with
    |false=>
     have:=d0 rfl;by_cases h0:0<n
     ·exact .inr (.inl ⟨rfl,this,h0⟩)
     ·exact .inr (.inr ⟨rfl,this,ϟ⟩)
    |true=>
     have:¬k<n:=λh=>a8 ⟨h,rfl⟩;exact .inl ⟨rfl,ϟ⟩
   obtain⟨ma,mc,e7,eh⟩:=HM.o.gl.at;have c6:=hV0 eh;have dj:Ϟ w wr:=bT co b1;obtain⟨pr,dw⟩:=nM PR.length;have de:=hV0 dw;have c5:ϝ (CG wr w u12 L):=Ds HM.o.cg co.size;have dh:ϝ (L.map CO.chg=T):=a4.o.trans HT.o.symm;rw[dw]at e7;subst e7;clear eh d9 HM dw a8 d0 d5 df bu bi KK KB KN d6 cn ck;rcases fn with⟨rfl,rfl⟩|⟨rfl,rfl,h0⟩|⟨rfl,rfl,rfl⟩
   all_goals
    (try have i3:((0:Nat):Int)<(n:Int):=by omega)
    go_wp2;refine bodyPost_ret (v:=.tuple #[u12,vS ma pr mc]) (by simp[results,results102,go_sem]) rfl ?_
    first
     |exact⟨⟨u12,L,ma,mc,by rw[de.o],c5.o,dh.o,c6.o⟩,dj⟩
     |exact⟨⟨u12,L,ma,⟨mc,by rw[de.o]⟩,c5.o,dh.o,c6.o⟩,dj⟩
     |exact⟨⟨u12,L,⟨c5.o,dh.o⟩,ma,⟨mc,by rw[de.o]⟩,c6.o⟩,dj⟩
end jn
end Go.Proofs.YtdohnkkbkfhphaaGreat
