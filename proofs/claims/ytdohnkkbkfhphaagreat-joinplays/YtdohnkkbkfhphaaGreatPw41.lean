import Derived.Test.YtdohnkkbkfhphaaGreatPw35
import Derived.Test.YtdohnkkbkfhphaaGreatPw40
set_option linter.all false
set_option maxHeartbeats 8000000
set_option maxRecDepth 100000
open Go.ChangeShapes Go.WideShapes Go.ChangeAt Go.RowKit List
namespace Go.Proofs.YtdohnkkbkfhphaaGreat
open Go.Proofs.Tryz
namespace jn
open vl bf
attribute [local go_sem] Oper.semAt_some
theorem J3(s:Jn)(y:JX)(side:Int)(w:ϛ)(n:side=1\/side=2):
 η 92 #[joinV s y,vI side] w (θ w (.tuple #[AF (bufOf s side) (Bl y side),vI (Bs s side)])):=by
 have o:Tryz.prog.follows .mixedOrders=true:=rfl;rw[A0];go_enter func92,ntmps92;rcases n with rfl|rfl
 ·go_upto_region 2 with fail;generalize d:(World.alloc (World.alloc w _) _)=V;have j:Ϟ w V:=by rw[<-d];exact Ϫ.alloc ϡ _
  have i:ϝ (AK V w s y):=by
   subst d;exact Ah (AL ..) Ϫ
  have e:Δ V (w+1) 0 (vI 0):=by subst d;go_simp
  have f:Δ V (w+1) 1 (vS none 0 0):=by subst d;go_simp
  have g:Δ V (w+1) 2 (vS none 0 0):=by subst d;go_simp
  have k:Ξ V (w+1) 0:=by subst d;go_simp
  have l:Ξ V (w+1) 1:=by subst d;go_simp
  have m:Ξ V (w+1) 2:=by subst d;go_simp
  clear d;obtain⟨u0,u1,u2,u3,u4,u5,u6,u7,u8⟩:=i.o;have h:∀a b c,Ϟ w (φ (φ (φ V (w+1) 0 a) (w+1) 1 b) (w+1) 2 c):=λa b c=>((j.setCell (Nat.le_succ _) _).setCell (Nat.le_succ _) _).setCell (Nat.le_succ _) _
  go_region
  all_goals (go_wp2;exact bodyPost_ret (v:=.tuple #[.agg (Ω s.L y.l),vI s.lm]) (by simp[results,results92,go_sem,VC e f g,VD e f g,VE e f g]) rfl ⟨rfl,(h _ _ _).drew⟩)
 ·go_upto_region 3 with fail;generalize d:(World.alloc (World.alloc w _) _)=V;have j:Ϟ w V:=by rw[<-d];exact Ϫ.alloc ϡ _
  have i:ϝ (AK V w s y):=by
   subst d;exact Ah (AL ..) Ϫ
  have e:Δ V (w+1) 0 (vI 0):=by subst d;go_simp
  have f:Δ V (w+1) 1 (vS none 0 0):=by subst d;go_simp
  have g:Δ V (w+1) 2 (vS none 0 0):=by subst d;go_simp
  have k:Ξ V (w+1) 0:=by subst d;go_simp
  have l:Ξ V (w+1) 1:=by subst d;go_simp
  have m:Ξ V (w+1) 2:=by subst d;go_simp
  clear d;obtain⟨u0,u1,u2,u3,u4,u5,u6,u7,u8⟩:=i.o;have h:∀a b c,Ϟ w (φ (φ (φ V (w+1) 0 a) (w+1) 1 b) (w+1) 2 c):=λa b c=>((j.setCell (Nat.le_succ _) _).setCell (Nat.le_succ _) _).setCell (Nat.le_succ _) _
  go_region
  all_goals (go_wp2;exact bodyPost_ret (v:=.tuple #[.agg (Ω s.R y.r),vI s.rm]) (by simp[results,results92,go_sem,VC e f g,VD e f g,VE e f g]) rfl ⟨rfl,(h _ _ _).drew⟩)
theorem XN(n:Int):bf.A8 n 1 2=decide (n=1\/n=2):=by
 unfold bf.A8;by_cases h:n=1\/n=2
 ·rw[decide_eq_true h];simp only[Bool.and_eq_true,decide_eq_true_eq];omega
 ·rw[decide_eq_false h];simp only[Bool.and_eq_false_iff,decide_eq_false_iff_not];omega
theorem XP(n:Int):pl.Bz n=decide (n=1\/n=2):=rfl
theorem N8(p:pl.Pln)(x:pl.PA)(s:Jn)(y:JX)(v:Ev)(ra:Ϝ)(rc:Nat)(w:ϛ)(hw:pl.wfPlan p)(hp:pl.planAt w p x)(h:joinAt w s y)(h0:pl.Al p=0)(ok:okJ p s)(Q:evAt w v ra):
 η 50 #[pl.Ak p x,joinV s y,evV v ra rc] w (θ w (vI (AB p s v))):=by
 have o:ϝ (∀b,CT 29 #[vI v.kind,vI 1,vI 2] b λe f=>e= .returned (.bool (bf.A8 v.kind 1 2))/\f=b):=λb=>bf.Ar _ _ _ b;have E:ϝ (∀b,CT 29 #[vI v.side,vI 1,vI 2] b λe f=>e= .returned (.bool (bf.A8 v.side 1 2))/\f=b):=λb=>bf.Ar _ _ _ b;have N:ϝ (∀b,CT 66 #[vI v.time] b λe f=>e= .returned (.bool (tm.Bc v.time))/\f=b):=λb=>tm.B7 v.time b;have D:ϝ ((v.side=1\/v.side=2)->∀b,CT 92 #[joinV s y,vI v.side] b (θ b (.tuple #[.agg #[vI (bufOf s v.side).lim,vS (Bl y v.side).m.1.1 (Bl y v.side).m.1.2.1 (Bl y v.side).m.1.2.2,vS (Bl y v.side).ra (Bl y v.side).rs.length (Bl y v.side).rc],vI (Bs s v.side)]))):=λhs b=>J3 s y v.side b hs;have J:ϝ (∀b,Ϟ w b->CT 44 #[pl.Ak p x,vI v.side,vS ra v.row.length rc] b (θ b (vI (pl.Be p v.side v.row)))):=λb M=>by
  have:=pl.Ki p x v.side ra rc v.row b hw (pl.Aj hp M) h0 (vl.Ac Q.row M) Q.wf Q.len;rwa[show pl.Uy p v.side v.row=pl.Be p v.side v.row from(if_pos h0).symm]at this
 have I:ϝ (∀b,Ϟ w b->CT 43 #[.agg #[vI (bufOf s v.side).lim,vS (Bl y v.side).m.1.1 (Bl y v.side).m.1.2.1 (Bl y v.side).m.1.2.2,vS (Bl y v.side).ra (Bl y v.side).rs.length (Bl y v.side).rc]] b λe f=>(∃a c,e= .returned (vS a (Aa (bufOf s v.side)).length c))/\Ϟ b f):=λb M=>by
  have P:bf.bufAt b (bufOf s v.side) (Bl y v.side):=by
   unfold bufOf Bl;split
   ·exact Ag h.r M
   ·exact Ag h.l M
  have ah:okB (bufOf s v.side):=by
   unfold bufOf;split
   ·exact ok.R
   ·exact ok.L
  refine(FG _ _ b P ah).mono ?_;rintro e f ⟨⟨hh,es,l,A,ho,ai,hr⟩,ag⟩;obtain⟨g1,g2,g3⟩:=hh;have hg:=(OE.entsAt ho).1;dsimp only at hg;subst hg;rw[ai.length_eq]at A;exact⟨⟨g1,g3,A⟩,ag⟩
 have X:ϝ ((Aa (bufOf s v.side)).length<=4096):=by
  show _<=_;unfold bufOf;split
  ·exact ok.R.all
  ·exact ok.L.all
 obtain⟨R,hR⟩:=nM (AB p s v);have d:=hV0 hR;rw[hR];clear hR hw hp h h0 ok Q;unfold AB at d;rw[XN]at o E;obtain⟨FB,h2⟩:=nM (tm.Bc v.time);obtain⟨E2,h4⟩:=nM (pl.Be p v.side v.row);obtain⟨U,Z⟩:=nM (bufOf s v.side);obtain⟨q,h6⟩:=nM (Bl y v.side);obtain⟨Y,h7⟩:=nM (Bs s v.side);rw[h2]at N d;rw[h4]at J d;rw[Z]at I X d;rw[h6]at I;rw[Z,h6,h7]at D;rw[h7]at d;clear h2 h4 Z h6 h7;obtain⟨m,B⟩:=nM ((Aa U).length);rw[B]at I X d;clear B;unfold pl.Ak at J⊢;rw[A0]at D⊢;unfold evV;obtain⟨kd,T,tm,aj⟩:=v;dsimp only at *;obtain⟨n,hn⟩:=nM aj.length;rw[hn]at J d⊢;clear hn;rw[XP]at d;go_enter func50,ntmps50;by_cases k:kd=1\/kd=2
 case neg=>
  have H:ϝ ((4:Int)=R):=by show _=_;rw[<-d.o,if_pos (.inl k)]
  rw[decide_eq_false k]at o;clear d k;go_wp2_with (go_at_call 29;(with_reducible refine(o.o _).mono ?_);rintro e f ⟨rfl,i⟩;have j:=i.symm;subst j);go_ret;exact⟨bf.Af H.o,(Ϫ.alloc ϡ _).alloc Ϥ _⟩
 rw[decide_eq_true k]at o;by_cases u:T=1\/T=2
 case neg=>
  have H:ϝ ((4:Int)=R):=by show _=_;rw[<-d.o,if_pos (.inr (decide_eq_false u))]
  rw[decide_eq_false u]at E;clear d k u;go_wp2_with (go_at_call 29;first|((with_reducible refine(E.o _).mono ?_);rintro e f ⟨rfl,i⟩;have j:=i.symm;subst j)|((with_reducible refine(o.o _).mono ?_);rintro e f ⟨rfl,i⟩;have j:=i.symm;subst j));go_ret;exact⟨bf.Af H.o,(Ϫ.alloc ϡ _).alloc Ϥ _⟩
 rw[decide_eq_true u]at E;rw[if_neg (by rintro (h|h);exact h k;rw[decide_eq_true u]at h;cases h)]at d;replace D:=D.o u;have ab:ϝ (∀b,CT 92 #[.agg (Ψ s y),vI T] b (θ b (.tuple #[.agg (Ω U q),vI Y]))):=D;clear D u;go_upto_region 3 with(go_at_call 29;first|((with_reducible refine(E.o _).mono ?_);rintro e f ⟨rfl,i⟩;have j:=i.symm;subst j)|((with_reducible refine(o.o _).mono ?_);rintro e f ⟨rfl,i⟩;have j:=i.symm;subst j));clear o E;generalize g:(World.alloc (World.alloc (World.alloc w _) _) _)=V;have ac:Ϟ w V:=by rw[<-g];exact(Ϫ.alloc ϡ _).alloc Ϥ _
 have HP:ϝ (boxP V w p x):=by
  subst g;exact Ad (Ad (BL ..) Ϫ) Ϫ
 have HJ:ϝ (AK V (w+1) s y):=by
  subst g;have:=AL (ξ w (Φ p x) 25) s y 31;rw[World.size_alloc]at this;exact Ah this Ϫ
 have q0:Δ V (w+1+1) 0 (vI kd):=by subst g;go_simp
 have q1:Δ V (w+1+1) 1 (vI T):=by subst g;go_simp
 have S:Δ V (w+1+1) 2 (vI tm):=by subst g;go_simp
 have q3:Δ V (w+1+1) 3 (vS ra n rc):=by subst g;go_simp
 clear g
 cases FB with
 |false=>
  have H:ϝ ((3:Int)=R):=by show _=_;rw[<-d.o,if_pos rfl]
  clear d k;go_wp2_with (go_at_call 66;(with_reducible refine(N.o _).mono ?_);rintro e f ⟨rfl,i⟩;have j:=i.symm;subst j);go_ret;exact⟨bf.Af H.o,ac⟩
 |true=>
 rw[if_neg Ϡ]at d;go_upto_region 5 with(go_at_call 66;(with_reducible refine(N.o _).mono ?_);rintro e f ⟨rfl,i⟩;have j:=i.symm;subst j);clear N;obtain⟨u0,u1,u2,u3,u4,u5,u6,u7,u8⟩:=HJ.o;go_upto_region 6 with(go_at_call 92;(with_reducible refine(ab.o _).mono ?_);rintro e b ⟨rfl,P⟩);clear u0 u1 u2 u3 u4 u5 u6 u7 u8 ab;generalize g:(World.alloc b _)=W;have z:Ϟ V W:=by rw[<-g];exact P.alloc P.size _
 have K:Ϟ w W:=bT ac z;have b0:Δ W b 0 (vI U.lim):=by subst g;go_simp
 have b1:Δ W b 1 (vS q.m.1.1 q.m.1.2.1 q.m.1.2.2):=by subst g;go_simp
 have b2:Δ W b 2 (vS q.ra q.rs.length q.rc):=by subst g;go_simp
 clear g;replace q0:=cLz z q0;replace q1:=cLz z q1;replace S:=cLz z S;replace q3:=cLz z q3;rcases k with rfl|rfl
 ·rw[if_neg ϟ]at d;obtain⟨v0,v1,v2,v3,v4,v5,v6,v7,v8,v9,ak,al,am⟩:=Ad HP.o z;go_upto_region 13 with(go_at_call 44;(with_reducible refine(J.o _ K).mono ?_);rintro e w3 ⟨rfl,G⟩);clear v0 v1 v2 v3 v4 v5 v6 v7 v8 v9 ak al am J;have r:Ϟ w w3:=bT K G;by_cases A:E2=0
  case neg=>
   rw[if_pos A]at d;have ao:(E2 !=0)=true:=by simpa using A
   clear A;go_wp2;go_ret;exact⟨bf.Af d.o,r⟩
  subst A;rw[if_neg Ϡ]at d;replace S:=cLz G S;by_cases hl:tm<=Y
  case pos=>
   rw[if_pos hl]at d;go_wp2;go_ret;exact⟨bf.Af d.o,r⟩
  rw[if_neg hl]at d;have u8:=(Ah HJ.o (bT z G)).2.2.2.2.2.2.2.2;obtain⟨sq,ad⟩:=nM s.seq;rw[ad]at u8 d;clear ad;by_cases F:sq=1099511627776
  case pos=>
   rw[if_pos (.inl F)]at d;have af:(sq==1099511627776)=true:=by simpa using F
   clear F;go_wp2;go_ret;exact⟨bf.Af d.o,r⟩
  have af:(sq==1099511627776)=false:=by simpa using F
  replace b0:=cLz G b0;replace b1:=cLz G b1;replace b2:=cLz G b2;by_cases B:m=4096
  ·rw[if_pos (.inr B)]at d;subst B;go_wp2_with (go_at_call 43;(with_reducible refine(I.o _ r).mono ?_);rintro e w4 ⟨⟨a4,c4,rfl⟩,aa⟩);go_ret;exact⟨bf.Af d.o,bT r aa⟩
  ·rw[if_neg (by rintro (h|h);exact F h;exact B h)]at d;have an:¬((4096:Int)<=(m:Int)):=by have:=X.o;omega
   clear F B;go_wp2_with (go_at_call 43;(with_reducible refine(I.o _ r).mono ?_);rintro e w4 ⟨⟨a4,c4,rfl⟩,aa⟩);go_ret;exact⟨bf.Af d.o,bT r aa⟩
 ·rw[if_pos rfl]at d;by_cases O:0<n
  ·rw[if_pos O]at d;have ae:(0:Int)<(n:Int):=ϟ;clear O;go_wp2;go_ret;exact⟨bf.Af d.o,K⟩
  ·rw[if_neg O]at d;have ae:¬(0:Int)<(n:Int):=ϟ;clear O;by_cases h8:tm<Y
   ·rw[if_pos h8]at d;go_wp2;go_ret;exact⟨bf.Af d.o,K⟩
   ·rw[if_neg h8]at d;go_wp2;go_ret;exact⟨bf.Af d.o,K⟩
end jn
namespace jn
open vl bf
def Hv(W:World)(b:Nat)(v:Ev)(ra:Option Addr)(rc:Nat):Prop:=ϐ W b (vI v.kind) (vI v.side) (vI v.time) (vS ra v.row.length rc)
theorem De{W W':ϛ}{b:Nat}{v:Ev}{ra:Ϝ}{rc:Nat}(h:Hv W b v ra rc)(a:Ϟ W W'):Hv W' b v ra rc:=⟨cLz a h.1,cLz a h.2.1,cLz a h.2.2.1,cLz a h.2.2.2⟩
structure DSt(w W:World)(p:pl.Pln)(x:pl.PA)(s0:Jn)(y0:JX)(v:Ev)(ra:Option Addr)(rc NB:Nat)(s:Jn)(y:JX):Prop where
 box:AK W NB s y
 room:W.there NB 0 9
 ty:An W NB 31
 l:OB W w.heap.size y.l s.L
 r:OB W w.heap.size y.r s.R
 bl:Ϟ w W
 plan:boxP W w.heap.size p x
 old:AK W (w.heap.size+1) s0 y0
 ev:Hv W (w.heap.size+1+1) v ra rc
 res:noJ W (w.heap.size+1+1+1)
 rty:An W (w.heap.size+1+1+1) 31
 up:w.heap.size+1+1+1<NB
section
variable {w W W' : ϛ} {p : pl.Pln} {x : pl.PA} {s0 s : Jn} {y0 y : JX} {v : Ev} {ra : Ϝ} {rc NB : Nat}
theorem DSt.below(h:DSt w W p x s0 y0 v ra rc NB s y)(a:Ϟ W W'):DSt w W' p x s0 y0 v ra rc NB s y:=
 ⟨Ah h.box a,Cu h.room a,Ae h.ty a,h.l.below a,h.r.below a,h.bl.trans (a.mono h.bl.size),Ad h.plan a,Ah h.old a,De h.ev a,Ay h.res a,Ae h.rty a,h.up⟩
theorem GI{b N k:Nat}(h:boxP W b p x)(a:N≠b)(u:Value):boxP (φ W N k u) b p x:=by
 have ne:∀i,(⟨N,k,none⟩:Addr)≠⟨b,i,none⟩:=λi e=>a (by injection e);obtain⟨c,d,l,m,n,o,q,r,z,A,f,g,j⟩:=h;refine⟨?_,?_,?_,?_,?_,?_,?_,?_,?_,?_,?_,?_,?_⟩<;>(rw[World.cell?_setCell_other _ _ _ _ (ne _)];assumption)
theorem GJ{b N k:Nat}(h:AK W b s y)(a:N≠b)(u:Value):AK (φ W N k u) b s y:=by
 have ne:∀i,(⟨N,k,none⟩:Addr)≠⟨b,i,none⟩:=λi e=>a (by injection e);obtain⟨c,d,f,g,j,l,m,n,o⟩:=h;refine⟨?_,?_,?_,?_,?_,?_,?_,?_,?_⟩<;>(rw[World.cell?_setCell_other _ _ _ _ (ne _)];assumption)
theorem GK{b N k:Nat}(h:Hv W b v ra rc)(a:N≠b)(u:Value):Hv (φ W N k u) b v ra rc:=by
 have ne:∀i,(⟨N,k,none⟩:Addr)≠⟨b,i,none⟩:=λi e=>a (by injection e);obtain⟨c,d,f,g⟩:=h;refine⟨?_,?_,?_,?_⟩<;>(rw[World.cell?_setCell_other _ _ _ _ (ne _)];assumption)
theorem DSt.mark(h:DSt w W p x s0 y0 v ra rc NB s y)(side time:Int):DSt w (φ W NB (BC side) (vI time)) p x s0 y0 v ra rc NB (BS s side time) y:=by
 have b:=h.up;have a:BC side=6\/BC side=7:=by unfold BC;split<;>simp
 have e:(BS s side time).L=s.L/\(BS s side time).R=s.R:=by unfold BS;split<;>exact⟨rfl,rfl⟩
 refine⟨?_,Dx h.room _ _,Ao h.ty _ _,by rw[e.1];exact DR h.l h.ty Dn _ _,by rw[e.2];exact DR h.r h.ty Dn _ _,h.bl.setCell (by show _<=NB;omega) _,GI h.plan ϟ _,GJ h.old ϟ _,GK h.ev ϟ _,Dx h.res _ _,Ao h.rty _ _,h.up⟩;obtain⟨u0,u1,u2,u3,u4,u5,u6,u7,u8⟩:=h.box;unfold BS BC;by_cases c:side=2
 ·rw[if_pos c,if_pos c];exact⟨cell_far u0 ϟ,cell_far u1 ϟ,cell_far u2 ϟ,cell_far u3 ϟ,cell_far u4 ϟ,cell_far u5 ϟ,cell_far u6 ϟ,World.cell?_setCell_same _ _ _ u7,cell_far u8 ϟ⟩
 ·rw[if_neg c,if_neg c];exact⟨cell_far u0 ϟ,cell_far u1 ϟ,cell_far u2 ϟ,cell_far u3 ϟ,cell_far u4 ϟ,cell_far u5 ϟ,World.cell?_setCell_same _ _ _ u6,cell_far u7 ϟ,cell_far u8 ϟ⟩
theorem DSt.buf(h:DSt w W p x s0 y0 v ra rc NB s y)(side:Int){B:Buf}{X:BX}(l:OB W w X B)(k:Nat)(a:A1 side=k):
 DSt w (φ (φ (φ W NB k (vI B.lim)) NB (k+1) (hdV X.m.1)) NB (k+1+1) (vS X.ra X.rs.length X.rc)) p x s0 y0 v ra rc NB (Av s side B) (GB y side X):=by
 have z:=h.up;have q:=h.ty;have r:=Ao q ⟨NB,k,none⟩ (vI B.lim);have f:=Ao r ⟨NB,k+1,none⟩ (hdV X.m.1);have c:∀{g:Nat} {Z:BX} {C:Buf},OB W g Z C->OB (φ (φ (φ W NB k (vI B.lim)) NB (k+1) (hdV X.m.1)) NB (k+1+1) (vS X.ra X.rs.length X.rc)) g Z C:=λb=>DR (DR (DR b q Dn _ _) r Dn _ _) f Dn _ _;have d:w.heap.size<=NB:=ϟ;have u:=h.bl.setCell (p:=⟨NB,k,none⟩) d (vI B.lim);have i:=(u.setCell (p:=⟨NB,k+1,none⟩) d (hdV X.m.1)).setCell (p:=⟨NB,k+1+1,none⟩) d (vS X.ra X.rs.length X.rc);have m:=GI (N:=NB) (k:=k+1+1) (GI (N:=NB) (k:=k+1) (GI (N:=NB) (k:=k) h.plan ϟ (vI B.lim)) ϟ (hdV X.m.1)) ϟ (vS X.ra X.rs.length X.rc);have j:=GJ (N:=NB) (k:=k+1+1) (GJ (N:=NB) (k:=k+1) (GJ (N:=NB) (k:=k) h.old ϟ (vI B.lim)) ϟ (hdV X.m.1)) ϟ (vS X.ra X.rs.length X.rc);have o:=GK (N:=NB) (k:=k+1+1) (GK (N:=NB) (k:=k+1) (GK (N:=NB) (k:=k) h.ev ϟ (vI B.lim)) ϟ (hdV X.m.1)) ϟ (vS X.ra X.rs.length X.rc);have n:=Dx (Dx (Dx h.room NB (vI B.lim) (k:=k)) NB (hdV X.m.1) (k:=k+1)) NB (vS X.ra X.rs.length X.rc) (k:=k+1+1);have b:noJ _ _:=Dx (Dx (Dx h.res NB (vI B.lim) (k:=k)) NB (hdV X.m.1) (k:=k+1)) NB (vS X.ra X.rs.length X.rc) (k:=k+1+1);obtain⟨u0,u1,u2,u3,u4,u5,u6,u7,u8⟩:=h.box;unfold A1 at a;unfold Av GB;by_cases e:side=2
 ·rw[if_pos e]at a;subst a;rw[if_pos e,if_pos e];exact⟨⟨AY u0 ϟ ϟ ϟ _ _ _,AY u1 ϟ ϟ ϟ _ _ _,AY u2 ϟ ϟ ϟ _ _ _,Mo u3 _ _ _,Mp u4 _ _ _,Mq u5 _ _ _,AY u6 ϟ ϟ ϟ _ _ _,AY u7 ϟ ϟ ϟ _ _ _,AY u8 ϟ ϟ ϟ _ _ _⟩,n,Ao f _ _,c h.l,c l,i,m,j,o,b,Ao (Ao (Ao h.rty _ _) _ _) _ _,h.up⟩
 ·rw[if_neg e]at a;subst a;rw[if_neg e,if_neg e];exact⟨⟨Mo u0 _ _ _,Mp u1 _ _ _,Mq u2 _ _ _,AY u3 ϟ ϟ ϟ _ _ _,AY u4 ϟ ϟ ϟ _ _ _,AY u5 ϟ ϟ ϟ _ _ _,AY u6 ϟ ϟ ϟ _ _ _,AY u7 ϟ ϟ ϟ _ _ _,AY u8 ϟ ϟ ϟ _ _ _⟩,n,Ao f _ _,c l,c h.r,i,m,j,o,b,Ao (Ao (Ao h.rty _ _) _ _) _ _,h.up⟩
theorem Ly{b N:Nat}(a:N≠b):∀(l:List Value) (o:Nat) (W:ϛ),boxP W b p x->boxP (W.setCells N o l) b p x
 |[],_,_,h=>h
 |u::l,o,W,h=>Ly a l (o+1) _ (GI h a u)
theorem Dk{b N:Nat}(a:N≠b):∀(l:List Value) (o:Nat) (W:ϛ),AK W b s y->AK (W.setCells N o l) b s y
 |[],_,_,h=>h
 |u::l,o,W,h=>Dk a l (o+1) _ (GJ h a u)
theorem Pz{b N:Nat}(a:N≠b):∀(l:List Value) (o:Nat) (W:ϛ),Hv W b v ra rc->Hv (W.setCells N o l) b v ra rc
 |[],_,_,h=>h
 |u::l,o,W,h=>Pz a l (o+1) _ (GK h a u)
theorem F1{z1 z2:BX}(h:noJ W NB):AK (W.setCells NB 0 [vI s.L.lim,vS z1.m.1.1 z1.m.1.2.1 z1.m.1.2.2,vS z1.ra z1.rs.length z1.rc,vI s.R.lim,vS z2.m.1.1 z2.m.1.2.1 z2.m.1.2.2,vS z2.ra z2.rs.length z2.rc,vI s.lm,vI s.rm,vI s.seq]) NB s ⟨z1,z2⟩:=by
 have a:=CX h (l:=[vI s.L.lim,vS z1.m.1.1 z1.m.1.2.1 z1.m.1.2.2,vS z1.ra z1.rs.length z1.rc,vI s.R.lim,vS z2.m.1.1 z2.m.1.2.1 z2.m.1.2.2,vS z2.ra z2.rs.length z2.rc,vI s.lm,vI s.rm,vI s.seq]) rfl;have y0:=a 0 _ rfl;have b:=a 1 _ rfl;have c:=a 2 _ rfl;have d:=a 3 _ rfl;have e:=a 4 _ rfl;have f:=a 5 _ rfl;have g:=a 6 _ rfl;have i:=a 7 _ rfl;have j:=a 8 _ rfl;simp only[Nat.zero_add]at y0 b c d e f g i j;exact⟨y0,b,c,d,e,f,g,i,j⟩
theorem Fu{z1 z2:BX}(f:boxP W w p x)(d:AK W (w+1) s0 y0)(c:Hv W (w+1+1) v ra rc)(a:noJ W (w+1+1+1)/\An W (w+1+1+1) 31)(b:noJ W NB)(ht:An W NB 31)(e:OB W w z1 s.L)(g:OB W w z2 s.R)(h:Ϟ w W)(i:w.heap.size+1+1+1<NB):
 DSt w (W.setCells NB 0 [vI s.L.lim,vS z1.m.1.1 z1.m.1.2.1 z1.m.1.2.2,vS z1.ra z1.rs.length z1.rc,vI s.R.lim,vS z2.m.1.1 z2.m.1.2.1 z2.m.1.2.2,vS z2.ra z2.rs.length z2.rc,vI s.lm,vI s.rm,vI s.seq]) p x s0 y0 v ra rc NB s ⟨z1,z2⟩:=
 ⟨F1 b,World.there_setCells b _ _ _,DT _ _ _ ht,Bm Dn _ _ _ e ht,Bm Dn _ _ _ g ht,below_setCells ϟ _ _ _ h,Ly ϟ _ _ _ f,Dk ϟ _ _ _ d,Pz ϟ _ _ _ c,World.there_setCells a.1 _ _ _,DT _ _ _ a.2,i⟩
end
end jn
namespace jn
open vl bf
attribute [local go_sem] Oper.semAt_some
variable {p : pl.Pln} {W : ϛ} {C : Nat}
theorem Sr(side:Int)(g h:Ϝ)(i j:Nat)(a b:List Cel)(w:ϛ)(z:side=1\/side=2)(A:0<a.length)(B:0<b.length)(r:a.length<=400)(u:b.length<=400)(h1:vl.rowAt w g a)(q:vl.rowAt w h b):
 η 150 #[vI side,vS g a.length i,vS h b.length j] w λe f=>(∃c d,e= .returned (vS c (AJ side a b).length d)/\A4 f w (vS c (AJ side a b).length d) (AJ side a b))/\Ϟ w f:=by
 have n:ϝ (CT 100 #[vS g a.length i,vS h b.length j] w λe f=>(∃c d,e= .returned (vS c (a++b).length d)/\A4 f w (vS c (a++b).length d) (a++b))/\Ϟ w f):=bt.Kz g h i j a b w B r u h1 q;have o:ϝ (CT 100 #[vS h b.length j,vS g a.length i] w λe f=>(∃c d,e= .returned (vS c (b++a).length d)/\A4 f w (vS c (b++a).length d) (b++a))/\Ϟ w f):=bt.Kz h g j i b a w A u r q h1;rcases z with rfl|rfl
 ·have k:AJ 1 a b=a++b:=rfl;rw[k];generalize a++b=L at n⊢;go_enter func150,ntmps150;go_wp2_with (go_at_call 100;refine n.o.mono ?_;rintro e D ⟨⟨c,d,rfl,m⟩,l⟩);go_ret;exact⟨⟨c,d,rfl,m⟩,l⟩
 ·have k:AJ 2 a b=b++a:=rfl;rw[k];generalize b++a=L at o⊢;go_enter func150,ntmps150;go_wp2_with (go_at_call 100;refine o.o.mono ?_;rintro e D ⟨⟨c,d,rfl,m⟩,l⟩);go_ret;exact⟨⟨c,d,rfl,m⟩,l⟩
theorem P0(p:pl.Pln)(x:pl.PA)(side:Int)(w:ϛ)(b:side=1\/side=2):
 η 152 #[pl.Ak p x,vI side] w (θ w (vI ((pl.As p side).length:Int))):=by
 unfold pl.Ak;rcases b with rfl|rfl
 ·have a:pl.As p 1=p.left:=rfl;rw[a];go_enter func152,ntmps152;go_wp2;go_ret;exact⟨rfl,Ϫ⟩
 ·have a:pl.As p 2=p.right:=rfl;rw[a];go_enter func152,ntmps152;go_wp2;go_ret;exact⟨rfl,Ϫ⟩
theorem Q7(h:p.mode=1\/p.mode=2\/p.mode=3\/p.mode=4):bt.Q4 p=keepsJ p.mode 1:=by
 unfold bt.Q4 keepsJ;rcases h with h|h|h|h<;>rw[h]<;>rfl
theorem Ab6(h:p.mode=1\/p.mode=2\/p.mode=3\/p.mode=4):bt.Q5 p=keepsJ p.mode 2:=by
 unfold bt.Q5 keepsJ;rcases h with h|h|h|h<;>rw[h]<;>rfl
theorem N9(p:pl.Pln)(x:pl.PA)(side:Int)(w:ϛ)(g:side=1\/side=2)(f:p.mode=1\/p.mode=2\/p.mode=3\/p.mode=4):
 η 151 #[pl.Ak p x,vI side] w (θ w (.bool (keepsJ p.mode side))):=by
 have b:ϝ (∀a,CT 101 #[pl.Ak p x] a (θ a (.bool (keepsJ p.mode 1)))):=λa=>by rw[<-Q7 f];exact bt.Iy p x a
 have c:ϝ (∀a,CT 190 #[pl.Ak p x] a (θ a (.bool (keepsJ p.mode 2)))):=λa=>by rw[<-Ab6 f];exact bt.SI p x a
 unfold pl.Ak at b c⊢;rcases g with rfl|rfl
 ·generalize keepsJ p.mode 1=R at b⊢;go_enter func151,ntmps151;go_wp2_with (go_at_call 101;refine(b.o _).mono ?_;rintro e a ⟨rfl,d⟩);go_ret;exact⟨rfl,Ϫ.trans (d.mono ϡ)⟩
 ·generalize keepsJ p.mode 2=R at c⊢;go_enter func151,ntmps151;go_wp2_with (go_at_call 190;refine(c.o _).mono ?_;rintro e a ⟨rfl,d⟩);go_ret;exact⟨rfl,Ϫ.trans (d.mono ϡ)⟩
theorem FE{a b c d e:Value}(h0:Δ W C 0 a)(h1:Δ W C 1 b)(f:Δ W C 2 c)(g:Δ W C 3 d)(h:Δ W C 4 e)(u0 u1 u2 u3 u4:Value):
 Ϗ (φ (φ (φ (φ (φ W C 0 u0) C 1 u1) C 2 u2) C 3 u3) C 4 u4) C u0 u1 u2 u3 u4:=
 ⟨cell_far (cell_far (cell_far (cell_far (World.cell?_setCell_same _ _ _ h0) ϟ) ϟ) ϟ) ϟ,
  cell_far (cell_far (cell_far (World.cell?_setCell_same _ _ _ (cell_far h1 ϟ)) ϟ) ϟ) ϟ,
  cell_far (cell_far (World.cell?_setCell_same _ _ _ (cell_far (cell_far f ϟ) ϟ)) ϟ) ϟ,
  cell_far (World.cell?_setCell_same _ _ _ (cell_far (cell_far (cell_far g ϟ) ϟ) ϟ)) ϟ,
  World.cell?_setCell_same _ _ _ (cell_far (cell_far (cell_far (cell_far h ϟ) ϟ) ϟ) ϟ)⟩
theorem NA{b o:Nat}{v:Value}(h:Δ W b o v)(d:b=C->5<=o)(u0 u1 u2 u3 u4:Value):Δ (φ (φ (φ (φ (φ W C 0 u0) C 1 u1) C 2 u2) C 3 u3) C 4 u4) b o v:=by
 have a:∀(X:ϛ) (j:Nat) (u:Value),j<5->Δ X b o v->Δ (φ X C j u) b o v:=λX j u i f=>by
  rw[World.cell?_setCell_other _ _ _ _ (λe=>by
   injection e with c g
   have:=d c.symm;omega)]
  exact f
 exact a _ _ _ ϟ (a _ _ _ ϟ (a _ _ _ ϟ (a _ _ _ ϟ (a _ _ _ ϟ h))))
theorem NC{A:ByteArray}{D E:Int}{m:Ϝ}{B q:Nat}{n:Bool}(h0:Δ W C 0 (.string A))(h1:Δ W C 1 (vI D))(F:Δ W C 2 (vI E))(j:Δ W C 3 (vS m B q))(u:Δ W C 4 (.bool n)){a:Ϝ}{r:List Cel}(h:vl.rowAt W a r)(u0 u1 u2 u3 u4:Value):vl.rowAt (φ (φ (φ (φ (φ W C 0 u0) C 1 u1) C 2 u2) C 3 u3) C 4 u4) a r:=λi z=>by
 obtain⟨b,l,e,c,f,g⟩:=h i z;have k:b=C->5<=l+i * 3:=λd=>by
  subst d;generalize l+i * 3=o at c f g
  match o with
  |0=>rw[h0]at c;cases c
  |1=>rw[show 1+1+1=3 from rfl,j]at g;cases g
  |2=>rw[show 2+1=3 from rfl,j]at f;cases f
  |3=>rw[j]at c;cases c
  |4=>rw[u]at c;cases c
  |o+5=>omega
 exact⟨b,l,e,NA c k _ _ _ _ _,NA f (λd=>by have:=k d;omega) _ _ _ _ _,NA g (λd=>by have:=k d;omega) _ _ _ _ _⟩
def CZ(s:Jn)(key:ByteArray)(time:Int):List Ent:=AP ((Aa s.R).filter (CH key (-1099511627777) time))
theorem LQ(s:Jn)(y:JX)(f:ByteArray)(time:Int)(w:ϛ)(h:joinAt w s y)(ok:okB s.R):
 η 99 #[joinV s y,.string f,vI time] w λe i=>(∃B:EM,e= .returned (.tuple #[B.val,.bool (CZ s f time).getLast?.isSome])/\∀z,(CZ s f time).getLast? =some z->ER i B z/\∀g,(hdV B.row).ownBlock=some g->An i g 103)/\Ϟ w i:=by
 have K:ϝ (∀a,Ϟ w a->CT 153 #[.agg (Ω s.R y.r),.string f,vI (-1099511627777),vI time] a λe i=>(∃(A:Ϝ) (M:Nat) (k:List EM),e= .returned (vS A (CZ s f time).length M)/\BG i A k/\ERs i k (CZ s f time)/\∀e∈k,∀g,(hdV e.row).ownBlock=some g->An i g 103)/\Ϟ a i):=λa hb=>by
  refine(XT s.R y.r f (-1099511627777) time a (Ag h.r hb) ok).mono ?_;rintro e i ⟨⟨A,M,k,l,he,ha,hr,⟨ao,ap⟩,N⟩,an⟩;have E:(((Aa s.R).filter (CH f (-1099511627777) time)).map Az).Nodup:=ok.once.sublist (filter_sublist.map _);have:l=CZ s f time:=Ec ao (FZ ap) E;rw[this]at he hr;exact⟨⟨A,M,k,he,ha,hr,N⟩,an⟩
 have aj:(CZ s f time).length<=4096:=by
  unfold CZ;rw[(A9 _).length_eq];exact Nat.le_trans (length_filter_le _ _) ok.all
 obtain⟨L,hL⟩:=nM (CZ s f time);rw[hL]at K aj⊢;clear h ok hL;obtain⟨n,E⟩:=nM L.length;have O:=hV0 E;rw[E]at K aj;clear E;rw[A0];go_enter func99,ntmps99;go_wp2_with fail;generalize o:(World.alloc (World.alloc w _) _)=V;have ah:Ϟ w V:=by rw[<-o];exact Ϫ.alloc ϡ _
 have u:Δ V (w+1) 0 (.string ⟨#[]⟩):=by subst o;go_simp
 have G:Δ V (w+1) 1 (vI 0):=by subst o;go_simp
 have H:Δ V (w+1) 2 (vI 0):=by subst o;go_simp
 have I:Δ V (w+1) 3 (vS none 0 0):=by subst o;go_simp
 have J:Δ V (w+1) 4 (.bool false):=by subst o;go_simp
 have q:ϝ (∀j,j<5->Ξ V (w+1) j):=λj hj=>by
  subst o
  match j,hj with
  |0,_|1,_|2,_|3,_|4,_=>go_simp
 clear o;refine(K.o _ ah).mono ?_;rintro e a ⟨⟨A,M,k,rfl,ag,r,N⟩,c⟩;have am:=hV0 N;clear N;have bw:Ϟ w a:=bT ah c;have D:w.heap.size+1<V.heap.size:=bLt _ _ u;replace u:=cLz c u;replace G:=cLz c G;replace H:=cLz c H;replace I:=cLz c I;replace J:=cLz c J;have f0:Ξ a (w+1) 0:=(c.frozen D).trans (q.o 0 ϟ);have f1:Ξ a (w+1) 1:=(c.frozen D).trans (q.o 1 ϟ);have f2:Ξ a (w+1) 2:=(c.frozen D).trans (q.o 2 ϟ);have f3:Ξ a (w+1) 3:=(c.frozen D).trans (q.o 3 ϟ);have f4:Ξ a (w+1) 4:=(c.frozen D).trans (q.o 4 ϟ);have ac:=hV0 r;clear r K q;by_cases h0:n=0
 ·subst h0;have ae:ϝ (L=[]):=length_eq_zero_iff.1 O.o;obtain⟨r0,r1,r2,r3,r4⟩:=FE u G H I J (.string ⟨#[]⟩) (vI 0) (vI 0) (vS none 0 0) (.bool false);have Y:∀u0 u1 u2 u3 u4,Ϟ w (φ (φ (φ (φ (φ a (w+1) 0 u0) (w+1) 1 u1) (w+1) 2 u2) (w+1) 3 u3) (w+1) 4 u4):=λu0 u1 u2 u3 u4=>((((bw.setCell (Nat.le_succ _) _).setCell (Nat.le_succ _) _).setCell (Nat.le_succ _) _).setCell (Nat.le_succ _) _).setCell (Nat.le_succ _) _;go_wp2;exact bodyPost_ret (v:=.tuple #[.agg #[ϊ,ω,ω,ψ,ϋ],ϋ]) (by simp[results,results99,go_sem,r0,r1,r2,r3,r4]) rfl ⟨⟨⟨⟨#[]⟩,0,0,(none,0,0),false⟩,by rw[ae.o];rfl,λz F=>by rw[ae.o]at F;cases F⟩,Y _ _ _ _ _⟩
 ·obtain⟨m,hm⟩:∃m:Nat,(n:Int) - 1=(m:Int):=⟨n - 1,ϟ⟩;have Z:m<L.length:=by have:=O.o;omega
  have aa:m<k.length:=by have:=ac.o.1;omega
  obtain⟨b,ar,rfl,x0,x1,x2,x3,x4⟩:=ag m aa;have r:=ac.o.2 m Z;have af:ϝ (L.getLast? =some (L.getD m default)):=by
   show _=_;rw[getLast?_eq_getElem?,O.o,show n - 1=m by omega,gDe,gEe Z];rfl
  obtain⟨B,ai⟩:=nM (k.getD m default);have ab:=am.o _ (AD (d:=default) aa);rw[ai]at x0 x1 x2 x3 x4 r ab;obtain⟨T,X,eq,⟨P,Q,S⟩,U⟩:=B;unfold hdV at x3;dsimp only at x0 x1 x2 x3 x4;have ak:=hV0 r;have al:=hV0 ab;have i1:(0:Int)<=(m:Int):=ϟ;have i2:(m:Int)<(n:Int):=ϟ;have i3:((n:Int)==0)=false:=by rw[beq_eq_false_iff_ne];omega
  obtain⟨r0,r1,r2,r3,r4⟩:=FE u G H I J (.string T) (vI X) (vI eq) (vS P Q S) (.bool U);have Y:∀u0 u1 u2 u3 u4,Ϟ w (φ (φ (φ (φ (φ a (w+1) 0 u0) (w+1) 1 u1) (w+1) 2 u2) (w+1) 3 u3) (w+1) 4 u4):=λu0 u1 u2 u3 u4=>((((bw.setCell (Nat.le_succ _) _).setCell (Nat.le_succ _) _).setCell (Nat.le_succ _) _).setCell (Nat.le_succ _) _).setCell (Nat.le_succ _) _;have aq:IntKind.i64.wrap ((n:Int) - 1)=(m:Int):=by rw[ch.BA];omega
  clear r ai h0 ag Z aa hm ab;go_wp2;exact bodyPost_ret (v:=.tuple #[.agg (ζ T X eq P Q S U),.bool true]) (by simp[results,results99,go_sem,r0,r1,r2,r3,r4]) rfl ⟨⟨⟨T,X,eq,(P,Q,S),U⟩,by rw[af.o];rfl,λz F=>by
   rw[af.o]at F
   cases F
   have:=ak.o;exact⟨⟨this.key,this.time,this.seq,this.met,this.len,NC u G H I J this.row _ _ _ _ _⟩,λg hg=>Ao (Ao (Ao (Ao (Ao (al.o g hg) _ _) _ _) _ _) _ _) _ _⟩⟩,Y _ _ _ _ _⟩
end jn
namespace jn
open vl bf
section
variable {w W : ϛ} {s : Jn} {y : JX} {R : Nat} {t : Value} {L : List CO}
theorem It(b:w.heap.size<=R)(d:noJ W R)(a:An W R 31)(h:stepAt w W s y t L)(c:Ϟ w W):AK (W.setCells R 0 (Γ s y)) R s y/\stepAt w (W.setCells R 0 (Γ s y)) s y t L/\Ϟ w (W.setCells R 0 (Γ s y)):=
 ⟨F1 (z1:=y.l) (z2:=y.r) d,⟨Bm Dn _ _ _ h.l a,Bm Dn _ _ _ h.r a,F4 _ _ _ h.cg a⟩,below_setCells b _ _ _ c⟩
def Adb(W:World)(R:Nat):Prop:=ϒ W R (vI 0) (vS none 0 0) (vS none 0 0) (vI 0) (vS none 0 0) (vS none 0 0) (vI 0) (vI 0) (vI 0)
theorem Ss(a:w.heap.size<=R)(c:noJ W R)(b:Ϟ w W):Adb (W.setCells R 0 [ω,ψ,ψ,ω,ψ,ψ,ω,ω,ω]) R/\stepAt w (W.setCells R 0 [ω,ψ,ψ,ω,ψ,ψ,ω,ω,ω]) j0 jx0 (vS none 0 0) []/\Ϟ w (W.setCells R 0 [ω,ψ,ψ,ω,ψ,ψ,ω,ω,ω]):=by
 have h:=below_setCells a [ω,ψ,ψ,ω,ψ,ψ,ω,ω,ω] 0 _ b;exact⟨F1 (s:=j0) (z1:=jx0.l) (z2:=jx0.r) c,⟨Bg (BD h.size),Bg (BD h.size),CG.start h.size⟩,h⟩
end
end jn
end Go.Proofs.YtdohnkkbkfhphaaGreat
