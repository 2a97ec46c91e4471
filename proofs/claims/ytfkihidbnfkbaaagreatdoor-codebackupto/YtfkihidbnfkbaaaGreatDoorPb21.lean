import Derived.Test.YtfkihidbnfkbaaaGreatDoorPb18
set_option linter.all false
set_option maxHeartbeats 8000000
set_option maxRecDepth 100000
open Go.ChangeShapes Go.WideShapes Go.ChangeAt Go.RowKit List
open Inhabited renaming default->ϰ
namespace Go.Proofs.YtfkihidbnfkbaaaGreatDoor
open Go.Proofs.Tryz
namespace jn
open vl
attribute [local go_sem] Oper.semAt_some
variable {U U' : ϙ} {b : Nat} {s : Jn} {y : JX} {p : pl.Pln} {x : pl.PA} {t : Value}
theorem AaB(p:pl.Pln)(s:Jn)(v:Ev):A8 p s v=if¬(v.kind=1\/v.kind=2)\/pl.Bm v.side=false then 4 else if tm.Br v.time=false then 3 else if v.kind=2 then Is s v else Gh p s v:=rfl
theorem NI(p:pl.Pln)(x:pl.PA)(s:Jn)(y:JX)(v:Ev)(u:Ϛ)(A:Nat)(w:ϙ)(hw:pl.wfPlan p)(hp:pl.planAt w p x)(h:joinAt w s y)(aa:wfJ s)(hv:evAt w v u):
 η 153 #[pl.Ap p x,joinV s y,evV v u A] w (θ w (vI (A8 p s v))):=by
 have F:ϛ (∀w1,CT 210 #[vI v.side] w1 λe w'=>e= .returned (.bool (pl.Bm v.side))/\w'=w1):=λw1=>pl.CS _ w1;have D:ϛ (∀w1,CT 197 #[vI v.time] w1 λe w'=>e= .returned (.bool (tm.Br v.time))/\w'=w1):=λw1=>tm.CF _ w1;have z:=hIz (λ(w1:ϙ)=>Ob s y v u A w1);have r:=hIz (λ(w1:ϙ) (J:Ϝ w w1)=>PR p x s y v u A w1 hw (pl.Ae hp J) (h.below J) aa (hv.below J));obtain⟨R,I⟩:=nM (A8 p s v);have d:=hqz I;rw[I];clear I hw hp h aa hv;rw[AaB]at d;obtain⟨SB,i⟩:=nM (pl.Bm v.side);obtain⟨q,j⟩:=nM (tm.Br v.time);obtain⟨E1,h3⟩:=nM (Is s v);obtain⟨E2,h4⟩:=nM (Gh p s v);rw[i]at F d;rw[j]at D d;rw[h3]at z d;rw[h4]at r d;clear i j h3 h4;unfold pl.Ap at r⊢;rw[AK]at z r⊢;unfold evV at z r⊢;obtain⟨c,sd,tm,row⟩:=v;dsimp only at *;obtain⟨n,hn⟩:=nM row.length;rw[hn]at z r⊢;clear hn;go_enter func153,ntmps153;by_cases g:c=1
 ·have k1:(c==1)=true:=by simpa using g
  have k2:(c !=1)=false:=by simpa using g
  have k3:(c==2)=false:=by rw[beq_eq_false_iff_ne];omega
  have M:ϛ (SB=false->(4:Int)=R):=λh=>by rw[<-d.o,if_pos (.inr h)]
  have L:ϛ (SB=true->q=false->(3:Int)=R):=λi j=>by rw[<-d.o,if_neg (by simp[g,i]),if_pos j]
  have O:ϛ (SB=true->q=true->E2=R):=λi j=>by rw[<-d.o,if_neg (by simp[g,i]),if_neg (by simp[j]),if_neg ϝ]
  clear g d;go_wp2_with fail;generalize a:(World.alloc (World.alloc (World.alloc w _) _) _)=V;have m:Ϝ w V:=by rw[<-a];exact(Ϩ.alloc ϟ _).alloc Ϣ _
  have C:ϛ (Bh V w p x):=by
   subst a;exact Ah (Ah (Cg ..) Ϩ) Ϩ
  have B:ϛ (Cb V (w+1) s y):=by
   subst a;have:=Cs (ξ w (Φ p x) 32) s y 38;rw[World.size_alloc]at this;exact Az this Ϩ
  have q0:Δ V (w+1+1) 0 (vI c):=by subst a;go_simp
  have q1:Δ V (w+1+1) 1 (vI sd):=by subst a;go_simp
  have q2:Δ V (w+1+1) 2 (vI tm):=by subst a;go_simp
  have q3:Δ V (w+1+1) 3 (vS u n A):=by subst a;go_simp
  clear a;refine(F.o _).mono ?_;rintro e w1 ⟨rfl,G⟩;obtain rfl:V=w1:=G.symm
  cases SB with
  |false=>
   have f:ϛ ((4:Int)=R):=M.o ϥ;go_wp2;go_ret;exact⟨Aj f.o,m⟩
  |true=>
   go_wp2_with fail;refine(D.o _).mono ?_;rintro e w2 ⟨rfl,H⟩;obtain rfl:V=w2:=H.symm
   cases q with
   |false=>
    have f:ϛ ((3:Int)=R):=L.o ϥ ϥ;go_wp2;go_ret;exact⟨Aj f.o,m⟩
   |true=>
    obtain⟨u0,u1,u2,u3,u4,u5,u6,u7,u8⟩:=B.o;obtain⟨P,Q,Z,v3,v4,v5,v6,v7,v8,v9,S,X,Y⟩:=C.o;go_wp2_with fail;refine(r.o _ m).mono ?_;rintro e w3 ⟨rfl,K⟩;have f:ϛ (E2=R):=O.o ϥ ϥ;clear u0 u1 u2 u3 u4 u5 u6 u7 u8 P Q Z v3 v4 v5 v6 v7 v8 v9 S X Y;go_wp2;go_ret;exact⟨Aj f.o,bT m K⟩
 ·by_cases l:c=2
  ·have k1:(c==1)=false:=by rw[beq_eq_false_iff_ne];omega
   have k2:(c !=1)=true:=by simpa using g
   have k3:(c==2)=true:=by simpa using l
   have k5:(c !=2)=false:=by simpa using l
   have M:ϛ (SB=false->(4:Int)=R):=λh=>by rw[<-d.o,if_pos (.inr h)]
   have L:ϛ (SB=true->q=false->(3:Int)=R):=λi j=>by rw[<-d.o,if_neg (by simp[l,i]),if_pos j]
   have O:ϛ (SB=true->q=true->E1=R):=λi j=>by rw[<-d.o,if_neg (by simp[l,i]),if_neg (by simp[j]),if_pos l]
   clear g l d;go_wp2_with fail;generalize a:(World.alloc (World.alloc (World.alloc w _) _) _)=V;have m:Ϝ w V:=by rw[<-a];exact(Ϩ.alloc ϟ _).alloc Ϣ _
   have C:ϛ (Bh V w p x):=by
    subst a;exact Ah (Ah (Cg ..) Ϩ) Ϩ
   have B:ϛ (Cb V (w+1) s y):=by
    subst a;have:=Cs (ξ w (Φ p x) 32) s y 38;rw[World.size_alloc]at this;exact Az this Ϩ
   have q0:Δ V (w+1+1) 0 (vI c):=by subst a;go_simp
   have q1:Δ V (w+1+1) 1 (vI sd):=by subst a;go_simp
   have q2:Δ V (w+1+1) 2 (vI tm):=by subst a;go_simp
   have q3:Δ V (w+1+1) 3 (vS u n A):=by subst a;go_simp
   clear a;refine(F.o _).mono ?_;rintro e w1 ⟨rfl,G⟩;obtain rfl:V=w1:=G.symm
   cases SB with
   |false=>
    have f:ϛ ((4:Int)=R):=M.o ϥ;go_wp2;go_ret;exact⟨Aj f.o,m⟩
   |true=>
    go_wp2_with fail;refine(D.o _).mono ?_;rintro e w2 ⟨rfl,H⟩;obtain rfl:V=w2:=H.symm
    cases q with
    |false=>
     have f:ϛ ((3:Int)=R):=L.o ϥ ϥ;go_wp2;go_ret;exact⟨Aj f.o,m⟩
    |true=>
     obtain⟨u0,u1,u2,u3,u4,u5,u6,u7,u8⟩:=B.o;obtain⟨P,Q,Z,v3,v4,v5,v6,v7,v8,v9,S,X,Y⟩:=C.o;go_wp2_with fail;refine(z.o _).mono ?_;rintro e w3 ⟨rfl,K⟩;have f:ϛ (E1=R):=O.o ϥ ϥ;clear u0 u1 u2 u3 u4 u5 u6 u7 u8 P Q Z v3 v4 v5 v6 v7 v8 v9 S X Y;go_wp2;go_ret;exact⟨Aj f.o,bT m K⟩
  ·have ab:(c==1)=false:=by simpa using g
   have ad:(c==2)=false:=by simpa using l
   have ac:(c !=1)=true:=by simpa using g
   have ae:(c !=2)=true:=by simpa using l
   have f:ϛ ((4:Int)=R):=by show _=_;rw[<-d.o,if_pos (.inl (λk=>k.elim g l))]
   go_wp2;go_ret;exact⟨Aj f.o,(Ϩ.alloc ϟ _).alloc Ϣ _⟩
theorem I6(side:Int)(w:ϙ)(h:pl.Bm side=true):η 348 #[vI side] w λe c=>e= .returned (vI (3 - side))/\c=w:=by
 have a:side=1\/side=2:=by unfold pl.Bm at h;simpa using h
 rcases a with rfl|rfl<;>
 ·go_enter func348,ntmps348;go_wp2;go_ret;exact⟨rfl,rfl⟩
theorem Pb(b o:Nat)(side:Int)(w:ϙ):η 250 #[.pointer (some ⟨b,o,none⟩),vI side] w λe a=>e= .returned (.pointer (some ⟨b,o+BD side,none⟩))/\a=w:=by
 unfold BD;by_cases h:side=2
 ·subst h;go_enter func250,ntmps250;go_wp2;go_ret;exact⟨rfl,rfl⟩
 ·have c:(side==2)=false:=by simpa using h
  rw[if_neg h];go_enter func250,ntmps250;go_wp2;go_ret;exact⟨rfl,rfl⟩
theorem FJ(b o:Nat)(side:Int)(w:ϙ):η 252 #[.pointer (some ⟨b,o,none⟩),vI side] w λe a=>e= .returned (.pointer (some ⟨b,o+Au side,none⟩))/\a=w:=by
 unfold Au;by_cases h:side=2
 ·subst h;go_enter func252,ntmps252;go_wp2;go_ret;exact⟨rfl,rfl⟩
 ·have c:(side==2)=false:=by simpa using h
  rw[if_neg h];go_enter func252,ntmps252;go_wp2;go_ret;exact⟨rfl,rfl⟩
def jnC(U:World)(b:Nat)(s:Jn)(y:JX):Prop:=Δ U b 13 (vI s.L.lim)/\Δ U b 14 (vS y.l.m.1.1 y.l.m.1.2.1 y.l.m.1.2.2)/\Δ U b 15 (vS y.l.ra y.l.rs.length y.l.rc)/\Δ U b 16 (vI s.R.lim)/\Δ U b 17 (vS y.r.m.1.1 y.r.m.1.2.1 y.r.m.1.2.2)/\Δ U b 18 (vS y.r.ra y.r.rs.length y.r.rc)/\Δ U b 19 (vI s.lm)/\Δ U b 20 (vI s.rm)/\Δ U b 21 (vI s.seq)
structure boxC(U:World)(b:Nat)(p:pl.Pln)(x:pl.PA)(s:Jn)(y:JX)(t:Value):Prop where
 plan:Bh U b p x
 join:jnC U b s y
 told:Δ U b 22 t
 room:U.there b 0 23
theorem Yg(h:jnC U b s y)(a:Ϝ U U'):jnC U' b s y:=by
 obtain⟨u0,u1,u2,u3,u4,u5,u6,u7,u8⟩:=h;exact⟨cLz a u0,cLz a u1,cLz a u2,cLz a u3,cLz a u4,cLz a u5,cLz a u6,cLz a u7,cLz a u8⟩
theorem boxC.later(h:boxC U b p x s y t)(a:Ϝ U U'):boxC U' b p x s y t:=⟨Ah h.plan a,Yg h.join a,cLz a h.told,BQ h.room a⟩
theorem boxC.lt(h:boxC U b p x s y t):b<U.heap.size:=PM h.plan
theorem Qs(h:jnC U b s y)(side:Int):Δ U b (13+BD side) (vI (B8 s side)):=by
 obtain⟨u0,u1,u2,u3,u4,u5,u6,u7,u8⟩:=h;unfold BD B8;split
 ·exact u7
 ·exact u6
theorem Ff(h:jnC U b s y)(side:Int):Δ U b (13+Au side) (vI (Ak s side).lim)/\Δ U b (13+Au side+1) (vS (B7 y side).m.1.1 (B7 y side).m.1.2.1 (B7 y side).m.1.2.2)/\Δ U b (13+Au side+2) (vS (B7 y side).ra (B7 y side).rs.length (B7 y side).rc):=by
 obtain⟨u0,u1,u2,u3,u4,u5,u6,u7,u8⟩:=h;unfold Au Ak B7;split
 ·exact⟨u3,u4,u5⟩
 ·exact⟨u0,u1,u2⟩
def C8(p:pl.Pln)(s:Jn)(side:Int):Int:=if B8 s (3 - side)=noMark then noMark else pl.O4 p side (B8 s (3 - side))
theorem JJ(b:Nat)(p:pl.Pln)(x:pl.PA)(s:Jn)(y:JX)(t:Value)(side:Int)(w:ϙ)(D:pl.wfPlan p)(B:pl.planAt w p x)(h:boxC w b p x s y t)(C:pl.Bm side=true):
 η 344 #[μ b,vI side] w (θ w (vI (C8 p s side))):=by
 have l:=hIz (λ(w1:ϙ)=>I6 side w1 C);have g:ϛ (∀w1,CT 250 #[.pointer (some ⟨b,13,none⟩),vI (3 - side)] w1 λe c=>e= .returned (.pointer (some ⟨b,13+BD (3 - side),none⟩))/\c=w1):=λw1=>Pb b 13 (3 - side) w1;have j:=hIz (λm (w1:ϙ) (G:Ϝ w w1)=>pl.JJ p x side m w1 D (pl.Ae B G));have d:=Qs h.join (3 - side);have q:ϛ (Bh w b p x):=h.plan;obtain⟨R,n⟩:=nM (C8 p s side);have f:=hqz n;rw[n];clear n D B h C;unfold C8 at f;obtain⟨k,z⟩:=nM (13+BD (3 - side));obtain⟨M,r⟩:=nM (B8 s (3 - side));obtain⟨I,A⟩:=nM (3 - side);rw[z]at g d;rw[r]at d f;rw[A]at l g;clear z r A;unfold pl.Ap at j;go_enter func344,ntmps344;by_cases a:M=noMark
 ·have F:(M== -1099511627777)=true:=by unfold noMark at a;simpa using a
  have i:ϛ ((-1099511627777:Int)=R):=by show _=_;rw[<-f.o,if_pos a];rfl
  clear j q;go_wp2
  go_region_held3 (λc=>Δ c b k (vI M)) (first|go_keep|exact d) (first
   |(go_at_call 250;refine(g.o _).mono ?_;rintro e H ⟨rfl,rfl⟩)
   |(go_at_call 348;refine(l.o _).mono ?_;rintro e w2 ⟨rfl,rfl⟩))
  all_goals
   go_wp2;go_ret;exact⟨Aj i.o,by first|exact bR|exact bR.drew⟩
 ·have F:(M== -1099511627777)=false:=by unfold noMark at a;simpa using a
  have i:ϛ (pl.O4 p side M=R):=by show _=_;rw[<-f.o,if_neg a]
  obtain⟨J,K,Q,S,V,X,Y,Z,v8,v9,L,O,P⟩:=q.o;go_wp2
  go_region_held3 (λc=>Δ c b k (vI M)) (first|go_keep|exact d) (first
   |(go_at_call 250;refine(g.o _).mono ?_;rintro e H ⟨rfl,rfl⟩)
   |(go_at_call 348;refine(l.o _).mono ?_;rintro e w2 ⟨rfl,rfl⟩))
  all_goals
   go_wp2_with (go_at_call 349;refine(j.o _ _ (by first|exact bR|exact bR.drew)).mono ?_;rintro e w4 ⟨rfl,u⟩);go_ret;exact⟨Aj i.o,by first|exact u|exact bR.drew.trans u⟩
end jn
namespace jn
open vl bf
attribute [local go_sem] Oper.semAt_some
variable {W w : ϙ} {N b base : Nat} {T : TypeId} {v : Value} {x : BX} {s : Jn} {y : JX}
structure calmT(T:TypeId):Prop where
 e:T≠166
 v:T≠119
 h:T≠33
theorem VF{c:List EM}{l:List Ent}(h:OE w base v c l)(d:Ai w N T)(e:calmT T)(k:Nat)(u:Value):OE (φ w N k u) base v c l:=
 h.other (by simp[World.setCell]) (λg a=>heap_setCell_other _ _ _ _ (by
  rcases a with a|a
  ·exact tyAt_apart a d e.e.symm
  ·exact tyAt_apart a d e.v.symm))
theorem FK{b:Buf}(h:OB w base x b)(a:Ai w N T)(c:calmT T)(k:Nat)(u:Value):OB (φ w N k u) base x b:=
 ⟨by simp[World.setCell];exact h.low,VF h.mem a c k u,A4 h.hds (λg d=>heap_setCell_other _ _ _ _ (tyAt_apart (Av h.hds d) a c.h.symm)),h.rlen,λi e=>VF (h.runs i e) a c k u,h.two⟩
theorem Bt{base N:Nat}{T:TypeId}{x:BX}{b:Buf}(a:calmT T):∀(l:List Value) (o:Nat) (w:ϙ),OB w base x b->Ai w N T->OB (w.setCells N o l) base x b
 |[],_,_,h,_=>h
 |v::l,o,w,h,hN=>Bt a l (o+1) _ (FK h hN a o v) (A6 hN _ _)
theorem DN{b N:Nat}{T:TypeId}:∀(l:List Value) (o:Nat) (w:ϙ),Ai w b T->Ai (w.setCells N o l) b T
 |[],_,_,h=>h
 |v::l,o,w,h=>DN l (o+1) _ (A6 h _ _)
theorem AcZ:(Tryz.prog.info? 36).map (·.size)=some 3:=Ϡ
theorem size_setCells(N:Nat):∀(l:List Value) (o:Nat) (w:ϙ),(w.setCells N o l).heap.size=w.heap.size
 |[],_,_=>rfl
 |v::l,o,w=>(size_setCells N l (o+1) _).trans (by simp[World.setCell])
theorem NJ:calmT 38:=⟨Ϟ,Ϟ,Ϟ⟩
theorem Ae4(w:ϙ)(c:Fin 9->Value)(h:∀i,(c i).oneCell'=true)(t:TypeId):(w.alloc (.cells #[c 0,c 1,c 2,c 3,c 4,c 5,c 6,c 7,c 8] t)).there w.heap.size 0 9:=by
 intro j a
 match j,a with
 |0,_=>exact⟨ϡ,ϡ⟩
 |1,_=>exact⟨ϡ,ϡ⟩
 |2,_=>exact⟨ϡ,ϡ⟩
 |3,_=>exact⟨ϡ,ϡ⟩
 |4,_=>exact⟨ϡ,ϡ⟩
 |5,_=>exact⟨ϡ,ϡ⟩
 |6,_=>exact⟨ϡ,ϡ⟩
 |7,_=>exact⟨ϡ,ϡ⟩
 |8,_=>exact⟨ϡ,ϡ⟩
theorem Yh(h:Cb W b s y)(f:W.there b 0 9)(z:BX):Cb (W.setCells b 0 [vI s.L.lim,vS z.m.1.1 z.m.1.2.1 z.m.1.2.2,vS z.ra z.rs.length z.rc]) b s ⟨z,y.r⟩:=by
 have c:=World.rangeAt_setCells_same W b 0 [vI s.L.lim,vS z.m.1.1 z.m.1.2.1 z.m.1.2.2,vS z.ra z.rs.length z.rc] (λj e=>by
  have:=f (0+j) (by simp at e;omega);simpa using this)
 have a:∀i,i<0\/3<=i->(W.setCells b 0 [vI s.L.lim,vS z.m.1.1 z.m.1.2.1 z.m.1.2.2,vS z.ra z.rs.length z.rc]).cell? ⟨b,i,none⟩=W.cell? ⟨b,i,none⟩:=λi d=>World.cell?_setCells_out b _ 0 W ⟨b,i,none⟩ (λ_ _=>by simpa using d);obtain⟨u0,u1,u2,u3,u4,u5,u6,u7,u8⟩:=h;refine⟨?_,?_,?_,?_,?_,?_,?_,?_,?_⟩
 ·exact c 0 _ rfl
 ·exact c 1 _ rfl
 ·exact c 2 _ rfl
 ·rw[a 3 ϝ];exact u3
 ·rw[a 4 ϝ];exact u4
 ·rw[a 5 ϝ];exact u5
 ·rw[a 6 ϝ];exact u6
 ·rw[a 7 ϝ];exact u7
 ·rw[a 8 ϝ];exact u8
theorem Yi(h:Cb W b s y)(f:W.there b 0 9)(z:BX):Cb (W.setCells b 3 [vI s.R.lim,vS z.m.1.1 z.m.1.2.1 z.m.1.2.2,vS z.ra z.rs.length z.rc]) b s ⟨y.l,z⟩:=by
 have c:=World.rangeAt_setCells_same W b 3 [vI s.R.lim,vS z.m.1.1 z.m.1.2.1 z.m.1.2.2,vS z.ra z.rs.length z.rc] (λj e=>by
  have:=f (3+j) (by simp at e;omega);simpa using this)
 have a:∀i,i<3\/6<=i->(W.setCells b 3 [vI s.R.lim,vS z.m.1.1 z.m.1.2.1 z.m.1.2.2,vS z.ra z.rs.length z.rc]).cell? ⟨b,i,none⟩=W.cell? ⟨b,i,none⟩:=λi d=>World.cell?_setCells_out b _ 3 W ⟨b,i,none⟩ (λ_ _=>by simpa using d);obtain⟨u0,u1,u2,u3,u4,u5,u6,u7,u8⟩:=h;refine⟨?_,?_,?_,?_,?_,?_,?_,?_,?_⟩
 ·rw[a 0 ϝ];exact u0
 ·rw[a 1 ϝ];exact u1
 ·rw[a 2 ϝ];exact u2
 ·exact c 0 _ rfl
 ·exact c 1 _ rfl
 ·exact c 2 _ rfl
 ·rw[a 6 ϝ];exact u6
 ·rw[a 7 ϝ];exact u7
 ·rw[a 8 ϝ];exact u8
def AaC(x1 x2:BX):Prop:=∀p∈x1.m::x1.rs,∀q∈x2.m::x2.rs,apB (hdV p.1) (hdV q.1)
theorem VH{b:Buf}(h:OB w base x b){p:Part}(c:p∈x.m::x.rs){g:Nat}(a:(hdV p.1).ownBlock=some g):base<=g/\g<w.heap.size:=by
 have f:∀{v:Value} {j:List EM} {l:List Ent},OE w base v j l->v.ownBlock=some g->base<=g/\g<w.heap.size:=λh a=>AE h.own a;rcases mem_cons.1 c with rfl|c
 ·exact f h.mem a
 ·obtain⟨i,d,rfl⟩:=getElem_of_mem c;have e:x.rs.getD i ϰ=x.rs[i]:=by rw[gDe,gEe d];rfl
  have:=h.runs i (by rw[<-h.rlen];exact d);rw[e]at this;exact f this a
theorem NK{w1 w2:ϙ}{e a:Nat}{c d:BX}{f h:Buf}(i:OB w1 e c f)(j:OB w2 a d h)(u:w1.heap.size<=a):AaC c d:=λp n q r g l m=>by
 have:=(VH i n l).2;have:=(VH j r m).1;omega
theorem Uw(s:Jn)(y:JX)(w:ϙ)(h:joinAt w s y)(H:okB s.L)(I:okB s.R):
 η 213 #[joinV s y] w λe m=>(∃a c,e= .returned (joinV s ⟨a,c⟩)/\OB m w a s.L/\OB m w c s.R/\AaC a c)/\Ϝ w m:=by
 have Z:ϛ (∀w1,Ϝ w w1->CT 253 #[AZ s.L y.l,.func (.func 254) #[] #[]] w1 λe m=>(∃L,e= .returned (AZ s.L L)/\OB m w1 L s.L)/\Ϝ w1 m):=λw1 hb=>by
  have K:=H8 254 (enters_of func254 Ϡ rfl) #[] (λ_=>true) s.L y.l w1 (An h.l hb) H.small.1 H.small.2.1 H.small.2.2 (λe z w2 an _ l=>GR e w2);rw[Jl H]at K;exact K
 have KR:ϛ (∀w1,Ϝ w w1->CT 253 #[AZ s.R y.r,.func (.func 254) #[] #[]] w1 λe m=>(∃L,e= .returned (AZ s.R L)/\OB m w1 L s.R)/\Ϝ w1 m):=λw1 hb=>by
  have K:=H8 254 (enters_of func254 Ϡ rfl) #[] (λ_=>true) s.R y.r w1 (An h.r hb) I.small.1 I.small.2.1 I.small.2.2 (λe z w2 an _ l=>GR e w2);rw[Jl I]at K;exact K
 clear h H I;rw[AK];unfold AZ hdV at Z KR;go_enter func213,ntmps213;go_wp2_with fail;generalize B:(World.alloc (World.alloc w _) _)=V;have ae:Ϝ w V:=by rw[<-B];exact Ϩ.alloc ϟ _
 have au:V.heap.size=w.heap.size+1+1:=by rw[<-B];simp
 have M:ϛ (Cb V w s y):=by
  subst B;exact Az (Cs ..) Ϩ
 have g:ϛ (V.there w.heap.size 0 9/\Ai V w 38):=by
  subst B;refine⟨BQ (Ae4 w (λi=>match i with|0=>.int .i64 s.L.lim|1=>.slice y.l.m.1.1 y.l.m.1.2.1 y.l.m.1.2.2|2=>.slice y.l.ra y.l.rs.length y.l.rc|3=>.int .i64 s.R.lim|4=>.slice y.r.m.1.1 y.r.m.1.2.1 y.r.m.1.2.2|5=>.slice y.r.ra y.r.rs.length y.r.rc|6=>.int .i64 s.lm|7=>.int .i64 s.rm|8=>.int .i64 s.seq) (λi=>by match i with|0|1|2|3|4|5|6|7|8=>rfl) 38) Ϩ,?_⟩;exact Ad ⟨_,_,World.alloc_heap_new w _⟩ Ϩ
 have A:ϛ (noJ V (w+1)/\Ai V (w+1) 38):=by
  subst B;have h1:=PN (ξ w (Ψ s y) 38);have h2:=World.alloc_heap_new (ξ w (Ψ s y) 38) (.cells #[ω,ψ,ψ,ω,ψ,ψ,ω,ω,ω] 38);rw[World.size_alloc]at h1 h2;exact⟨h1,_,_,h2⟩
 clear B;refine(Z.o _ ae).mono ?_;rintro e n ⟨⟨a,rfl,af⟩,D⟩;have aj:Ϝ w n:=bT ae D;replace M:ϛ (Cb n w s y):=Az M.o D;replace g:ϛ (n.there w.heap.size 0 9/\Ai n w 38):=⟨BQ g.o.1 D,Ad g.o.2 D⟩;replace A:ϛ (noJ n (w+1)/\Ai n (w+1) 38):=⟨Dc A.o.1 D,Ad A.o.2 D⟩;have S:=hqz af;clear af;have ao:n.there w.heap.size 0 3:=λj hj=>g.o.1 j ϝ;obtain⟨q,r⟩:=nM (World.setCells n w.heap.size 0 ((Ω s.L a):Array Value).toList);have R:ϛ (Cb q w s ⟨a,y.r⟩):=by rw[<-r];exact Yh M.o g.o.1 a
 have X:ϛ (q.there w.heap.size 0 9/\Ai q w 38):=by rw[<-r];exact⟨World.there_setCells g.o.1 _ _ _,DN _ _ _ g.o.2⟩
 have Y:ϛ (noJ q (w+1)/\Ai q (w+1) 38):=by rw[<-r];exact⟨World.there_setCells A.o.1 _ _ _,DN _ _ _ A.o.2⟩
 have ac:ϛ (OB q V a s.L):=by rw[<-r];exact Bt NJ _ _ _ S.o g.o.2
 have aa:Ϝ w q:=by rw[<-r];exact below_setCells nR _ _ _ aj
 have ar:q.heap.size=n.heap.size:=by rw[<-r];exact size_setCells _ _ _ _
 obtain⟨u0,u1,u2,u3,u4,u5,u6,u7,u8⟩:=R.o;go_wp2_with ((with_reducible refine wpList_store_mid ?_ 36 (.tmp 6) (.tmp 5) ?_ w.heap.size 0 (Ω s.L a) ?_ ?_ ?_ ?_ ?_ ?_);exact rfl;exact rfl;exact rfl;exact rfl;exact ao;exact AcZ;exact Ϧ;rw[r]);refine(KR.o _ aa).mono ?_;rintro e d ⟨⟨c,rfl,ab⟩,l⟩;have ak:Ϝ w d:=bT aa l;have ag:ϛ (AaC a c):=NK S.o ab ϝ;have ah:ϛ (Cb d w s ⟨a,y.r⟩):=Az R.o l;have O:ϛ (d.there w.heap.size 0 9/\Ai d w 38):=⟨BQ X.o.1 l,Ad X.o.2 l⟩;have ad:ϛ (noJ d (w+1)/\Ai d (w+1) 38):=⟨Dc Y.o.1 l,Ad Y.o.2 l⟩;have F:ϛ (OB d w a s.L):=Ct (ac.o.below l) ϝ;have G:ϛ (OB d w c s.R):=Ct ab (by have:=aa.size;omega);clear u0 u1 u2 u3 u4 u5 u6 u7 u8 ab R X Y ac S M g A r Z KR;have ap:d.there w.heap.size 3 3:=λj hj=>by
  have:=O.o.1 (3+j) ϝ;simpa using this
 obtain⟨u,C⟩:=nM (World.setCells d w.heap.size 3 ((Ω s.R c):Array Value).toList);have ai:ϛ (Cb u w s ⟨a,c⟩):=by rw[<-C];exact Yi ah.o O.o.1 c
 have P:ϛ (noJ u (w+1)/\Ai u (w+1) 38):=by rw[<-C];exact⟨World.there_setCells ad.o.1 _ _ _,DN _ _ _ ad.o.2⟩
 replace F:ϛ (OB u w a s.L):=by rw[<-C];exact Bt NJ _ _ _ F.o O.o.2
 replace G:ϛ (OB u w c s.R):=by rw[<-C];exact Bt NJ _ _ _ G.o O.o.2
 have al:Ϝ w u:=by rw[<-C];exact below_setCells nR _ _ _ ak
 obtain⟨Q,J⟩:=nM (World.setCells u (w.heap.size+1) 0 (#[vI s.L.lim,vS a.m.1.1 a.m.1.2.1 a.m.1.2.2,vS a.ra a.rs.length a.rc,vI s.R.lim,vS c.m.1.1 c.m.1.2.1 c.m.1.2.2,vS c.ra c.rs.length c.rc,vI s.lm,vI s.rm,vI s.seq]:Array Value).toList);have f:ϛ (Q.rangeAt (w.heap.size+1) 0 (#[vI s.L.lim,vS a.m.1.1 a.m.1.2.1 a.m.1.2.2,vS a.ra a.rs.length a.rc,vI s.R.lim,vS c.m.1.1 c.m.1.2.1 c.m.1.2.2,vS c.ra c.rs.length c.rc,vI s.lm,vI s.rm,vI s.seq]:Array Value).toList):=by rw[<-J];exact GL P.o.1 rfl
 replace F:ϛ (OB Q w a s.L):=by rw[<-J];exact Bt NJ _ _ _ F.o P.o.2
 replace G:ϛ (OB Q w c s.R):=by rw[<-J];exact Bt NJ _ _ _ G.o P.o.2
 have am:Ϝ w Q:=by rw[<-J];exact below_setCells (Nat.le_succ _) _ _ _ al
 have aq:=P.o.1;obtain⟨u0,u1,u2,u3,u4,u5,u6,u7,u8⟩:=ai.o;go_wp2_with (first
  |((with_reducible refine wpList_store_mid ?_ 36 (.tmp 10) (.tmp 9) ?_ w.heap.size 3 (Ω s.R c) ?_ ?_ ?_ ?_ ?_ ?_);exact rfl;exact rfl;exact rfl;exact rfl;exact ap;exact AcZ;exact Ϧ;rw[C])
  |((with_reducible refine wpList_store_mid ?_ 38 (.tmp 2) (.tmp 11) ?_ (w.heap.size+1) 0 #[vI s.L.lim,vS a.m.1.1 a.m.1.2.1 a.m.1.2.2,vS a.ra a.rs.length a.rc,vI s.R.lim,vS c.m.1.1 c.m.1.2.1 c.m.1.2.2,vS c.ra c.rs.length c.rc,vI s.lm,vI s.rm,vI s.seq] ?_ ?_ ?_ ?_ ?_ ?_);exact rfl;exact rfl;exact rfl;exact rfl;exact aq;exact MO;exact Ϧ;rw[J]))
 have y0:=f.o 0 _ rfl;have y1:=f.o 1 _ rfl;have y2:=f.o 2 _ rfl;have y3:=f.o 3 _ rfl;have y4:=f.o 4 _ rfl;have y5:=f.o 5 _ rfl;have y6:=f.o 6 _ rfl;have y7:=f.o 7 _ rfl;have y8:=f.o 8 _ rfl;simp only[Nat.zero_add]at y0 y1 y2 y3 y4 y5 y6 y7 y8;exact bodyPost_ret (v:=.agg #[vI s.L.lim,vS a.m.1.1 a.m.1.2.1 a.m.1.2.2,vS a.ra a.rs.length a.rc,vI s.R.lim,vS c.m.1.1 c.m.1.2.1 c.m.1.2.2,vS c.ra c.rs.length c.rc,vI s.lm,vI s.rm,vI s.seq]) (by simp[results,results213,go_sem,y0,y1,y2,y3,y4,y5,y6,y7,y8]) rfl ⟨⟨a,c,by rw[AK],F.o,G.o,ag.o⟩,am⟩
def Ek(s:Jn)(side time:Int):Jn:=if side=2 then⟨s.L,s.R,s.lm,time,s.seq⟩else⟨s.L,s.R,time,s.rm,s.seq⟩
theorem mark_le(side:Int):BD side=6\/BD side=7:=by
 unfold BD;split
 ·exact .inr rfl
 ·exact .inl rfl
theorem cell_far{i j:Nat}{u:Value}(h:Δ w b i v)(a:j≠i):Δ (φ w b j u) b i v:=(World.cell?_setCell_other _ _ _ _ (λe=>a (by injection e))).trans h
theorem Yj{p:pl.Pln}{x:pl.PA}{t:Value}(h:boxC w b p x s y t)(side c:Int):boxC (φ w b (13+BD side) (vI c)) b p x (Ek s side c) y t:=by
 have g:=mark_le side;refine⟨?_,?_,cell_far h.told ϝ,λj d=>?_⟩
 ·obtain⟨m,n,A,B,C,D,F,G,H,I,q,r,z⟩:=h.plan;exact⟨cell_far m ϝ,cell_far n ϝ,cell_far A ϝ,cell_far B ϝ,cell_far C ϝ,cell_far D ϝ,cell_far F ϝ,cell_far G ϝ,cell_far H ϝ,cell_far I ϝ,cell_far q ϝ,cell_far r ϝ,cell_far z ϝ⟩
 ·have f:=Qs h.join side;have a:=World.cell?_setCell_same _ _ (vI c) f;obtain⟨u0,u1,u2,u3,u4,u5,u6,u7,u8⟩:=h.join;unfold Ek;unfold BD at a g⊢;by_cases e:side=2
  ·rw[if_pos e]at a⊢;rw[if_pos e];exact⟨cell_far u0 ϝ,cell_far u1 ϝ,cell_far u2 ϝ,cell_far u3 ϝ,cell_far u4 ϝ,cell_far u5 ϝ,cell_far u6 ϝ,a,cell_far u8 ϝ⟩
  ·rw[if_neg e]at a⊢;rw[if_neg e];exact⟨cell_far u0 ϝ,cell_far u1 ϝ,cell_far u2 ϝ,cell_far u3 ϝ,cell_far u4 ϝ,cell_far u5 ϝ,a,cell_far u7 ϝ,cell_far u8 ϝ⟩
 ·exact⟨by
   obtain⟨u,i⟩:=Option.isSome_iff_exists.1 (h.room j d).1;obtain⟨J,l⟩:=cell?_setCell_some (p:=⟨b,13+BD side,none⟩) (x:=vI c) i;rw[l];rfl,by rw[World.frozen?_setCell];exact(h.room j d).2⟩
theorem AaD(b:Nat)(p:pl.Pln)(x:pl.PA)(s:Jn)(y:JX)(t:Value)(side f:Int)(w:ϙ)(h:boxC w b p x s y t):
 η 339 #[μ b,vI side,vI f] w λe a=>e= .returned (.tuple #[])/\a=w.setCell ⟨b,13+BD side,none⟩ (vI f):=by
 have c:ϛ (∀w1,CT 250 #[.pointer (some ⟨b,13,none⟩),vI side] w1 λe a=>e= .returned (.pointer (some ⟨b,13+BD side,none⟩))/\a=w1):=λw1=>Pb b 13 side w1;have g:=Qs h.join side;have i:Ξ w b (13+BD side):=by
  have:=(h.room (13+BD side) (by rcases mark_le side with e|e<;>omega)).2;simpa using this
 clear h;obtain⟨k,d⟩:=nM (13+BD side);rw[d]at c g i⊢;clear d;go_enter func339,ntmps339;go_wp2_with (go_at_call 250;refine(c.o _).mono ?_;rintro e w2 ⟨rfl,rfl⟩);exact bodyPost_end (v:=.tuple #[]) (by simp[results,results339,go_sem]) rfl ⟨rfl,rfl⟩
theorem AaE(b:Nat)(p:pl.Pln)(x:pl.PA)(s:Jn)(y:JX)(c:Ϛ)(e d:Nat)(w:ϙ)(h:boxC w b p x s y (vS c e d)):
 η 341 #[μ b] w (θ w (.tuple #[joinV s y,vS c e d])):=by
 have f:=h.lt;obtain⟨u0,u1,u2,u3,u4,u5,u6,u7,u8⟩:=h.join;have i:=h.told;clear h;rw[AK];go_enter func341,ntmps341;go_wp2;have g:b≠w.heap.size:=ϝ
 go_region_held3 (λa=>Δ a b 13 (vI s.L.lim)/\Δ a b 14 (vS y.l.m.1.1 y.l.m.1.2.1 y.l.m.1.2.2)/\Δ a b 15 (vS y.l.ra y.l.rs.length y.l.rc)/\Δ a b 16 (vI s.R.lim)/\Δ a b 17 (vS y.r.m.1.1 y.r.m.1.2.1 y.r.m.1.2.2)/\Δ a b 18 (vS y.r.ra y.r.rs.length y.r.rc)/\Δ a b 19 (vI s.lm)/\Δ a b 20 (vI s.rm)/\Δ a b 21 (vI s.seq)/\Δ a b 22 (vS c e d)) (first|go_keep|(refine⟨?_,?_,?_,?_,?_,?_,?_,?_,?_,?_⟩<;>go_simp))
  (fail)
 all_goals
  go_wp2;exact bodyPost_ret (v:=.tuple #[.agg (Ψ s y),vS c e d]) (by simp[results,results341,go_sem]) rfl ⟨rfl,Ϩ.drew⟩
end jn
namespace jn
open vl bf
def leP(a b:Ent):Bool:= !decide (ltP b a)
def El(l:List Ent):List Ent:=l.mergeSort leP
theorem BL(l:List Ent):(El l).Perm l:=mergeSort_perm l leP
theorem Yk(a b c:Ent)(e:leP a b=true)(d:leP b c=true):leP a c=true:=by
 unfold leP at *;simp only[Bool.not_eq_true',decide_eq_false_iff_not]at *;intro h;rcases ltP_tri a b with k|k|k
 ·rcases ltP_tri b c with j|j|j
  ·exact Ew _ (DG (DG k j) h)
  ·exact Ew _ (DG (MG k j) h)
  ·exact d j
 ·exact d (MG h k)
 ·exact e k
theorem Yl(a b:Ent):(leP a b||leP b a)=true:=by
 unfold leP;by_cases h:ltP b a
 ·have:¬ltP a b:=λk=>Ew _ (DG k h);simp[h,this]
 ·simp[h]
theorem NL(l:List Ent):N0 (El l):=λi j e c d=>by
 have f:=pairwise_mergeSort (le:=leP) Yk Yl l;have a:i<(El l).length:=ϝ;have:=pairwise_iff_getElem.1 f i j a c e;rw[getD_at c,getD_at a]at d;unfold leP at this;simp only[Bool.not_eq_true',decide_eq_false_iff_not]at this;exact this d
theorem NM{l a:List Ent}(d:a.Perm l)(e:N0 a)(c:(l.map Bd).Nodup):a=El l:=by
 have f:(a.map Bd).Nodup:=(It d).2 c;have g:((El l).map Bd).Nodup:=(It (BL l)).2 c;exact Rw (d.trans (BL l).symm) (PU e f) (PU (NL l) g)
def Ba(side:Int)(own other:List Cel):List Cel:=if side=2 then other++own else own++other
def C6(mode side:Int):Bool:=if mode=2 then side==1 else if mode=3 then side==2 else mode==4
def AY(p:pl.Pln)(side:Int)(row:List Cel):List Cel:=Ba side row (bt.CN (pl.AD p (3 - side)).length)
def CZ(b:Buf)(key:ByteArray)(fr tO:Int):List Ent:=El ((Ac b).filter λy=>decide (y.key=key)&&decide (fr<=y.time)&&decide (y.time<=tO))
def metE(qs:List Int)(y:Ent):Ent:=if y.seq∈qs then {y with met:=true}else y
def CJ(qs:List Int)(b:Buf):Buf:=⟨b.lim,b.mem.map (metE qs),b.runs.map (·.map (metE qs))⟩
def A7(s:Jn)(side:Int)(b:Buf):Jn:=if side=2 then⟨s.L,b,s.lm,s.rm,s.seq⟩else⟨b,s.R,s.lm,s.rm,s.seq⟩
def DO(p:pl.Pln)(v:Ev):Int:=if p.kind=1 then(if v.side=1 then v.time+p.low else v.time - p.high)else v.time - v.time % p.size
def toJ(p:pl.Pln)(v:Ev):Int:=if p.kind=1 then(if v.side=1 then v.time+p.high else v.time - p.low)else v.time - v.time % p.size+p.size - 1
def partners(p:pl.Pln)(s:Jn)(v:Ev):List Ent:=if pl.hasB p v.side v.row=true then CZ (Ak s (3 - v.side)) (pl.As p v.side v.row) (DO p v) (toJ p v)else []
def Cv(p:pl.Pln)(s:Jn)(v:Ev):List ch.Chg:=
 (partners p s v).flatMap (λe=>if C6 p.mode (3 - v.side)=true/\e.met=false then [⟨3,AY p (3 - v.side) e.row⟩,⟨4,Ba v.side v.row e.row⟩]else [⟨1,Ba v.side v.row e.row⟩])
 ++if (partners p s v).isEmpty=true/\C6 p.mode v.side=true then [⟨1,AY p v.side v.row⟩]else []
def BW(p:pl.Pln)(s:Jn)(v:Ev):Jn:=A7 s (3 - v.side) (CJ ((partners p s v).map (·.seq)) (Ak s (3 - v.side)))
def Cw(p:pl.Pln)(s:Jn)(v:Ev):List Ent:=if pl.hasB p v.side v.row=true then CZ s.R (pl.As p v.side v.row) (-1099511627776) v.time else []
def I7(p:pl.Pln)(s:Jn)(v:Ev):List ch.Chg:=match (Cw p s v).getLast? with
 |some e=>[⟨1,Ba v.side v.row e.row⟩]
 |none=>if C6 p.mode 1=true then [⟨1,AY p v.side v.row⟩]else []
def Ada(s:Jn)(key:ByteArray)(e:Ent):Option Ent:=((CZ s.R key (-1099511627776) 1099511627776).filter λy=>decide (y.time<=e.time)).getLast?
def Ee(p:pl.Pln)(s:Jn)(v:Ev):List Ent:=(if pl.hasB p v.side v.row=true then CZ s.L (pl.As p v.side v.row) v.time 1099511627776 else []).filter λe=>match Ada s (pl.As p v.side v.row) e with
 |some o=>decide (o.time<=v.time)
 |none=>true
def I8(p:pl.Pln)(s:Jn)(v:Ev):List ch.Chg:=(Ee p s v).flatMap λe=>match Ada s (pl.As p v.side v.row) e with
 |some o=>[⟨3,Ba 1 e.row o.row⟩,⟨4,Ba v.side v.row e.row⟩]
 |none=>if C6 p.mode 1=true then [⟨3,AY p 1 e.row⟩,⟨4,Ba v.side v.row e.row⟩]else [⟨1,Ba v.side v.row e.row⟩]
def CK(b:Buf)(y:Ent):Buf:=Hb b (El (b.mem++[y]))
def Ef(p:pl.Pln)(s:Jn)(v:Ev)(met:Bool):Jn:=
 let t:=if pl.hasB p v.side v.row=true/\C8 p s v.side<v.time then A7 s v.side (CK (Ak s v.side) ⟨pl.As p v.side v.row,v.time,s.seq,v.row,met⟩)else s
 ⟨t.L,t.R,t.lm,t.rm,t.seq+1⟩
def FL(p:pl.Pln)(s:Jn):Jn:=⟨CY (Ec (C8 p s 1)) s.L,CY (Ec (C8 p s 2)) s.R,s.lm,s.rm,s.seq⟩
def lastOf(s:Jn)(key:ByteArray)(low:Int):Int:=match ((El (Ac s.R)).filter λy=>decide (y.key=key)&&decide (y.time<=low)).getLast? with
 |some y=>y.seq
 |none=>0
def Ux(s:Jn):Int:=min s.lm s.rm
def Ym(s:Jn):Jn:=⟨s.L,CY (λy=>decide (Ux s<y.time)||decide (lastOf s y.key (Ux s)=y.seq)) s.R,s.lm,s.rm,s.seq⟩
def CC(p:pl.Pln)(s:Jn):Jn:=if p.kind=3 then Ym (FL p s)else FL p s
def Hc(p:pl.Pln)(s:Jn)(v:Ev):Jn×List ch.Chg:=
 if p.kind=3 then
  if v.side=1 then(Ef p s v (!(Cw p s v).isEmpty),I7 p s v)
  else(Ef p (A7 s 1 (CJ ((Ee p s v).map (·.seq)) s.L)) v false,I8 p s v)
 else(Ef p (BW p s v) v (!(partners p s v).isEmpty),Cv p s v)
noncomputable def stepJ(p:pl.Pln)(s:Jn)(v:Ev):Int×Jn×List ch.Chg:=
 if AQ p s≠0 then(AQ p s,j0,[])else if A8 p s v≠0 then(A8 p s v,j0,[])
 else if v.kind=2 then(0,CC p (Ek s v.side v.time),[])else(0,Hc p s v)
end jn
namespace jn
open vl pl bt
attribute [local go_sem] Oper.semAt_some
variable {w w1 w2 : ϙ} {base : Nat} {rv sv v v' : Value} {E : List Own1} {row srow : List Cel} {k : Int} {o : Obj}
def Qt:Value->Option Addr
 | .slice a _ _=>a
 |_=>none
def Uy:Value->Nat
 | .slice _ _ c=>c
 |_=>0
theorem NN{e:TypeId}{s:Nat}{n:Nat}{d:List Value}(h:w.ownsRow base e s v n d):v=vS (Qt v) n (Uy v):=by
 rcases h.2 with⟨a,c⟩|⟨g,f,i,a,_⟩
 ·rw[a,c];rfl
 ·rw[a];rfl
theorem Ks{c:List Own1}(h:∀[DecidableEq Own1] (a:Own1),E.count a=c.count a):E.Perm c:=by
 haveI:DecidableEq Own1:=λa b=>Classical.propDecidable (a=b)
 exact perm_iff_count.2 (λa=>h a)
theorem AaF{F:List Own1}(h:Est w base (E++F)):Est w base F:=
 ⟨h.low,λy hy=>h.own y (mem_append.2 (.inr hy)),(pairwise_append.1 h.two).2.1⟩
theorem Oi(w:ϙ)(a b c d:Value)(t:TypeId):∀j u,[a,b,c,d][j]? =some u->(w.alloc (.cells #[a,b,c,d] t)).cell? ((⟨w,0,none⟩:Addr).add j)=some u:=λj u e=>by
 rw[ch.addr_add]
 match j,e with
 |0,e=>simp at e;subst e;go_simp
 |1,e=>simp at e;subst e;go_simp
 |2,e=>simp at e;subst e;go_simp
 |3,e=>simp at e;subst e;go_simp
 |k+4,e=>simp at e
def Ca(rv:Value)(row:List Cel):Own1:=⟨rv,119,3,row.length,celCells row⟩
structure CO where
 k:Int
 rv:Value
 row:List Cel
instance:Inhabited CO:=⟨⟨0,ψ,[]⟩⟩
def CO.chg(x:CO):ch.Chg:=⟨x.k,x.row⟩
def CO.pair(x:CO):Int×Value:=(x.k,x.rv)
def CG(w:World)(base:Nat)(v:Value)(L:List CO):Prop:=Est w base ((⟨v,217,2,L.length,ch.Bi (L.map CO.pair)⟩:Own1)::L.map λx=>Ca x.rv x.row)
theorem CG.start(h:base<=w.heap.size):CG w base (vS none 0 0) []:=
 ⟨h,λy hy=>by
  rcases mem_cons.1 hy with rfl|hy
  ·exact World.ownsRow_nil _ _ _ _
  ·exact absurd hy not_mem_nil,pairwise_cons.2 ⟨λy hy=>absurd hy not_mem_nil,List.Pairwise.nil⟩⟩
theorem CG.below{a:ϙ}{L:List CO}(h:CG w base v L)(c:Ϝ w a):CG a base v L:=Gl h c
theorem CG.own{L:List CO}(h:CG w base v L):w.ownsRow base 217 2 v L.length (ch.Bi (L.map CO.pair)):=Est.own h _ (mem_cons_self ..)
theorem CG.add{L:List CO}(h:CG w base v L)(n:Ϝ w w1)(d:AA w1 w rv row)(c:(w1.alloc o).grownBy w2 v.ownBlock)(q:w2.ownsRow base 217 2 v' (L.length+1) (ch.Bi (L.map CO.pair++[(k,rv)])))(m:∀g,v'.ownBlock=some g->v.ownBlock=some g\/w1.heap.size+1<=g):CG w2 base v' (L++[⟨k,rv,row⟩]):=by
 have i:Est w1 base (Ca rv row::(⟨v,217,2,L.length,ch.Bi (L.map CO.pair)⟩:Own1)::L.map λx=>Ca x.rv x.row):=PY (x:=Ca rv row) h n (World.ownsRow.mono d (Est.low h)) (λg c=>(ch.AE d c).1);have j:=Gl (Gk i (List.Perm.swap _ _ _)) (bR.alloc nR o);have e:(L++[(⟨k,rv,row⟩:CO)]).length=L.length+1:=ϟ;have f:(L++[(⟨k,rv,row⟩:CO)]).map CO.pair=L.map CO.pair++[(k,rv)]:=by rw[map_append];rfl
 have l:=RI (x':=(⟨v',217,2,(L++[(⟨k,rv,row⟩:CO)]).length,ch.Bi ((L++[(⟨k,rv,row⟩:CO)]).map CO.pair)⟩:Own1)) j c (by rw[e,f];exact q) (λg c=>by
  rcases m g c with h|h
  ·exact .inl h
  ·right;simp;exact h)
 refine Gk l (Ks (λa=>?_));simp only[map_append,map_cons,map_nil,count_append,count_cons,count_nil];omega
theorem CG.add2{L:List CO}{c:Int}{E:List Own1}(h:Est w base ((⟨v,217,2,L.length,ch.Bi (L.map CO.pair)⟩:Own1)::Ca rv row::Ca sv srow::L.map λx=>Ca x.rv x.row))(m:Ϝ w w1)(d:(w1.alloc o).grownBy w2 v.ownBlock)(n:w2.ownsRow base 217 2 v' (L.length+2) (ch.Bi (L.map CO.pair++[(k,rv),(c,sv)])))(l:∀g,v'.ownBlock=some g->v.ownBlock=some g\/w1.heap.size+1<=g):CG w2 base v' (L++[⟨k,rv,row⟩,⟨c,sv,srow⟩]):=by
 have i:=Gl (Gl h m) (bR.alloc nR o);have e:(L++[(⟨k,rv,row⟩:CO),⟨c,sv,srow⟩]).length=L.length+2:=ϟ;have f:(L++[(⟨k,rv,row⟩:CO),⟨c,sv,srow⟩]).map CO.pair=L.map CO.pair++[(k,rv),(c,sv)]:=by rw[map_append];rfl
 have j:=RI (x':=(⟨v',217,2,(L++[(⟨k,rv,row⟩:CO),⟨c,sv,srow⟩]).length,ch.Bi ((L++[(⟨k,rv,row⟩:CO),⟨c,sv,srow⟩]).map CO.pair)⟩:Own1)) i d (by rw[e,f];exact n) (λg d=>by
  rcases l g d with h|h
  ·exact .inl h
  ·right;simp;exact h)
 refine Gk j (Ks (λa=>?_));simp only[map_append,map_cons,map_nil,count_append,count_cons,count_nil];omega
theorem CG.two{L:List CO}(h:CG w base v L)(j:Ϝ w w1)(e:AA w1 w rv row)(l:Ϝ w1 w2)(f:AA w2 w1 sv srow):Est w2 base ((⟨v,217,2,L.length,ch.Bi (L.map CO.pair)⟩:Own1)::Ca rv row::Ca sv srow::L.map λx=>Ca x.rv x.row):=by
 have d:=PY (x:=Ca rv row) h j (World.ownsRow.mono e (Est.low h)) (λg c=>(ch.AE e c).1);have i:=PY (x:=Ca sv srow) d l (World.ownsRow.mono f d.low) (λg c=>(ch.AE f c).1);refine Gk i (Ks (λa=>?_));simp only[count_cons];omega
theorem CG.two2{L:List CO}(h:CG w base v L)(c:Ϝ w w1)(e:AA w1 w sv srow)(d:Ϝ w1 w2)(f:AA w2 w1 rv row):Est w2 base ((⟨v,217,2,L.length,ch.Bi (L.map CO.pair)⟩:Own1)::Ca rv row::Ca sv srow::L.map λx=>Ca x.rv x.row):=by
 refine Gk (h.two c e d f) (Ks (λa=>?_));simp only[count_cons];omega
theorem CG.left{L:List CO}(h:Est w base ((⟨v,217,2,L.length,ch.Bi (L.map CO.pair)⟩:Own1)::Ca rv row::Ca sv srow::L.map λx=>Ca x.rv x.row)):CG w base v L:=by
 have c:Est w base ([Ca rv row,Ca sv srow]++((⟨v,217,2,L.length,ch.Bi (L.map CO.pair)⟩:Own1)::L.map λx=>Ca x.rv x.row)):=by
  refine Gk h (Ks (λa=>?_));simp only[count_append,count_cons,count_nil];omega
 exact AaF c
theorem Qu{n:Array Oper}{rest:List Oper}{o:Oper}{a:Act}{Q:Exit->Act->World->Prop}(B:o.guard=none)(s x:Operand)
 (F:o.op= .call {callee:=.builtin .append,args:=#[s,x],argTypes:=#[53,53]})
 (base:Nat) (v:Value) (l:List (Int×Value)) (i:Int) (d:Value) (j:Int) (e:Value) (w1:ϙ) (c:Nat) (P:l.length=c) (D:w1.ownsRow base 217 2 v c (ch.Bi l)) (O:c<=1000000000) (M:base<=w1.heap.size) (R:d.oneCell'=true) (S:e.oneCell'=true)
 (G:a.eval s=v) (H:a.eval x=vS (τ w1) 2 2)
 (h:∀g f w2,w2.ownsRow base 217 2 (vS (τ g) (c+2) f) (c+2) (ch.Bi (l++[(i,d),(j,e)]))->(w1.alloc (.cells #[vI i,d,vI j,e] 217)).grownBy w2 v.ownBlock->(v.ownBlock=some g\/g=w1.heap.size+1)->g<w2.heap.size->wpList Tryz.prog n Q rest (a.put o.dst (vS (τ g) (c+2) f)) w2):
 wpList Tryz.prog n Q (o::rest) a (ξ w1 #[vI i,d,vI j,e] 217):=by
 obtain⟨L,C,I,J,K⟩:=info_parts ch.ZP;refine wpList_append_lies _ B s x 53 F base 217 L (.agg #[ω,ψ]) 2 32 underlying53 C I J K rfl Ϟ v c (ch.Bi l) G
  (D.alloc _) ⟨w1,0,none⟩ 2 2 [vI i,d,vI j,e] H rfl (Oi _ _ _ _ _ _) (by intro u m;simp at m;rcases m with rfl|rfl|rfl|rfl<;>first|rfl|assumption) Ϟ ϧ ϝ Ϣ (w1.heap.size+1) ϟ ?_
 intro g f w2 q r z A;refine h g f w2 ?_ r z A;rw[ch.OJ];exact q
theorem Pd(L:List CO)(i:Nat)(h:i<L.length):(L.map CO.pair).getD i (0,.bool false)=((L.getD i ϰ).k,(L.getD i ϰ).rv)/\(L.map CO.chg).getD i ϰ=⟨(L.getD i ϰ).k,(L.getD i ϰ).row⟩:=by
 simp[gDe,h,CO.pair,CO.chg]
theorem CG.chgs{L:List CO}(h:CG w base v L):v=vS (Qt v) L.length (Uy v)/\ch.Fh w (Qt v) (L.map CO.chg):=by
 have f:=h.own;refine⟨NN f,λi A=>?_⟩;have a:i<L.length:=by simpa using A
 rcases f.2 with⟨l,C⟩|⟨g,c,B,l,_⟩
 ·omega
 ·have r:=World.ownsRow.cells f (g:=g) (by rw[l];rfl);obtain⟨n,q⟩:=ch.RH (L.map CO.pair) i (by simpa using a);obtain⟨u,e⟩:=Pd L i a;rw[u]at n q;have m:=r _ _ n;have d:=r _ _ q;rw[ch.C3,Nat.zero_add]at m d;have j:AA w base (L.getD i ϰ).rv (L.getD i ϰ).row:=Est.own h (Ca (L.getD i ϰ).rv (L.getD i ϰ).row) (mem_cons_of_mem _ (mem_map.2 ⟨L.getD i ϰ,by rw[gDe,gEe a];exact getElem_mem a,rfl⟩));have z:=NN j;rw[z]at j d;refine⟨g,0,Qt (L.getD i ϰ).rv,Uy (L.getD i ϰ).rv,by rw[l];rfl,?_,?_,?_⟩
  ·rw[e,Nat.zero_add];exact m
  ·rw[e,Nat.zero_add];exact d
  ·rw[e];exact vl.Fg j
end jn
namespace jn
open vl bf
attribute [local go_sem] Oper.semAt_some
def BE(p:pl.Pln)(v:Ev)(ra:Option Addr)(rc:Nat):Value:=.agg #[vI v.side,vI v.time,vS ra v.row.length rc,.string (pl.As p v.side v.row),.bool (pl.hasB p v.side v.row)]
theorem S8(p:pl.Pln)(x:pl.PA)(v:Ev)(f:Ϛ)(h:Nat)(w:ϙ)(G:pl.wfPlan p)(F:pl.planAt w p x)(j:evAt w v f):
 η 155 #[pl.Ap p x,evV v f h] w (θ w (BE p v f h)):=by
 have g:=hIz (λ(w1:ϙ) (i:Ϝ w w1)=>pl.Ow p x v.side f h v.row w1 G (pl.Ae F i) (vl.Ab j.row i) j.wf j.len);unfold BE;obtain⟨S,m⟩:=nM (pl.As p v.side v.row);obtain⟨i,q⟩:=nM (pl.hasB p v.side v.row);obtain⟨Y,C⟩:=nM (pl.Bn p v.side v.row);rw[m,q,C]at g;rw[m,q];clear m q C G F j;unfold pl.Ap at g⊢;unfold evV;obtain⟨X,Q,tm,row⟩:=v;dsimp only at *;obtain⟨n,D⟩:=nM row.length;rw[D]at g⊢;clear D;go_enter func155,ntmps155;go_wp2_with fail;generalize a:(World.alloc (World.alloc (World.alloc w _) _) _)=V;have r:Ϝ w V:=by rw[<-a];exact(Ϩ.alloc ϟ _).alloc Ϣ _
 have M:Δ V (w+1) 1 (vI Q):=by subst a;go_simp
 have O:Δ V (w+1) 2 (vI tm):=by subst a;go_simp
 have P:Δ V (w+1) 3 (vS f n h):=by subst a;go_simp
 have l:Δ V (w+1+1) 0 (vI 0):=by subst a;go_simp
 have u:Δ V (w+1+1) 1 (vI 0):=by subst a;go_simp
 have z:Δ V (w+1+1) 2 (vS none 0 0):=by subst a;go_simp
 have A:Δ V (w+1+1) 3 (.string ⟨#[]⟩):=by subst a;go_simp
 have B:Δ V (w+1+1) 4 (.bool false):=by subst a;go_simp
 have H:Ξ V (w+1+1) 0:=by subst a;go_simp
 have I:Ξ V (w+1+1) 1:=by subst a;go_simp
 have J:Ξ V (w+1+1) 2:=by subst a;go_simp
 have K:Ξ V (w+1+1) 3:=by subst a;go_simp
 have L:Ξ V (w+1+1) 4:=by subst a;go_simp
 clear a;refine(g.o _ r).mono ?_;rintro e w1 ⟨rfl,c⟩;have R:Ϝ w w1:=bT r c;have d:=bLt _ _ l;replace M:=cLz c M;replace O:=cLz c O;replace P:=cLz c P;replace l:=cLz c l;replace u:=cLz c u;replace z:=cLz c z;replace A:=cLz c A;replace B:=cLz c B;replace H:=(c.frozen (p:=⟨w+1+1,0,none⟩) d).trans H;replace I:=(c.frozen (p:=⟨w+1+1,1,none⟩) d).trans I;replace J:=(c.frozen (p:=⟨w+1+1,2,none⟩) d).trans J;replace K:=(c.frozen (p:=⟨w+1+1,3,none⟩) d).trans K;replace L:=(c.frozen (p:=⟨w+1+1,4,none⟩) d).trans L;clear c r g d;go_wp2;exact bodyPost_ret (v:=.agg #[vI Q,vI tm,vS f n h,.string S,.bool i]) (by simp[results,results155,go_sem,l,u,z,A,B]) rfl ⟨rfl,((((R.setCell ϣ _).setCell ϣ _).setCell ϣ _).setCell ϣ _).setCell ϣ _⟩
theorem Uz(p:pl.Pln)(x:pl.PA)(w:ϙ)(r:pl.wfPlan p)(q:pl.planAt w p x)(l:pl.Ag p=0):
 η 45 #[pl.Ap p x] w (θ w (.tuple #[enV ⟨C5 p,[]⟩ ex0,ω])):=by
 have d:ϛ (∀w1,Ϝ w w1->CT 95 #[pl.Ap p x] w1 (θ w1 (.tuple #[joinV (C5 p) jx0,ω]))):=λw1 L=>by
  have:=XJ p x w1 r (pl.Ae q L);rw[l]at this;exact this
 obtain⟨S,m⟩:=nM (C5 p);rw[m]at d⊢;clear m r q l;unfold pl.Ap at d⊢;rw[AK]at d;go_enter func45,ntmps45;go_wp2_with fail;generalize f:(World.alloc (World.alloc w _) _)=V;have h:Ϝ w V:=by rw[<-f];exact Ϩ.alloc ϟ _
 have c:ϛ (Fx V (w.heap.size+1)):=by
  subst f;have:=Hu (ξ w (Φ p x) 32);rw[World.size_alloc]at this;exact this
 clear f;refine(d.o _ h).mono ?_;rintro e w1 ⟨rfl,i⟩;have O:Ϝ w w1:=bT h i;replace c:ϛ (Fx w1 (w.heap.size+1)):=BK c.o i;clear i h d;go_upto_region 4 with fail;generalize g:(World.alloc w1 _)=w2;have n:Ϝ w1 w2:=by rw[<-g];exact Ϩ
 have K:ϛ (Cb w2 w1 S jx0):=by
  subst g;exact Cs ..
 clear g;have M:Ϝ w w2:=bT O n;obtain⟨Q,R,X,Y,Z,q5,q6,q7,q8⟩:=K.o;replace c:ϛ (Fx w2 (w.heap.size+1)):=BK c.o n;have a:ϛ ((World.setCells w2 (w.heap.size+1) 0 [vI S.L.lim,vS jx0.l.m.1.1 jx0.l.m.1.2.1 jx0.l.m.1.2.2,vS jx0.l.ra jx0.l.rs.length jx0.l.rc,vI S.R.lim,vS jx0.r.m.1.1 jx0.r.m.1.2.1 jx0.r.m.1.2.2,vS jx0.r.ra jx0.r.rs.length jx0.r.rc,vI S.lm,vI S.rm,vI S.seq,ψ,ψ]).rangeAt (w.heap.size+1) 0 [vI S.L.lim,vS jx0.l.m.1.1 jx0.l.m.1.2.1 jx0.l.m.1.2.2,vS jx0.l.ra jx0.l.rs.length jx0.l.rc,vI S.R.lim,vS jx0.r.m.1.1 jx0.r.m.1.2.1 jx0.r.m.1.2.2,vS jx0.r.ra jx0.r.rs.length jx0.r.rc,vI S.lm,vI S.rm,vI S.seq,ψ,ψ]):=Fs c.o rfl;have j:ϛ (Ϝ w (World.setCells w2 (w.heap.size+1) 0 [vI S.L.lim,vS jx0.l.m.1.1 jx0.l.m.1.2.1 jx0.l.m.1.2.2,vS jx0.l.ra jx0.l.rs.length jx0.l.rc,vI S.R.lim,vS jx0.r.m.1.1 jx0.r.m.1.2.1 jx0.r.m.1.2.2,vS jx0.r.ra jx0.r.rs.length jx0.r.rc,vI S.lm,vI S.rm,vI S.seq,ψ,ψ])):=below_setCells ϝ _ 0 _ M;go_wp2_with ((with_reducible refine wpList_store_mid ?_ 42 (.tmp 2) (.tmp 16) ?_ (w.heap.size+1) 0 #[vI S.L.lim,vS jx0.l.m.1.1 jx0.l.m.1.2.1 jx0.l.m.1.2.2,vS jx0.l.ra jx0.l.rs.length jx0.l.rc,vI S.R.lim,vS jx0.r.m.1.1 jx0.r.m.1.2.1 jx0.r.m.1.2.2,vS jx0.r.ra jx0.r.rs.length jx0.r.rc,vI S.lm,vI S.rm,vI S.seq,ψ,ψ] ?_ ?_ ?_ ?_ ?_ ?_);exact rfl;exact rfl;exact rfl;exact rfl;exact c.o;exact Jg;exact Ϧ);generalize (World.setCells w2 (w.heap.size+1) 0 [vI S.L.lim,vS jx0.l.m.1.1 jx0.l.m.1.2.1 jx0.l.m.1.2.2,vS jx0.l.ra jx0.l.rs.length jx0.l.rc,vI S.R.lim,vS jx0.r.m.1.1 jx0.r.m.1.2.1 jx0.r.m.1.2.2,vS jx0.r.ra jx0.r.rs.length jx0.r.rc,vI S.lm,vI S.rm,vI S.seq,ψ,ψ])=P at a j⊢;have u:=a.o 0 _ rfl;have z:=a.o 1 _ rfl;have B:=a.o 2 _ rfl;have C:=a.o 3 _ rfl;have D:=a.o 4 _ rfl;have F:=a.o 5 _ rfl;have G:=a.o 6 _ rfl;have H:=a.o 7 _ rfl;have I:=a.o 8 _ rfl;have J:=a.o 9 _ rfl
 have A:=a.o 10 _ rfl;simp only[Nat.zero_add]at u z B C D F G H I J A;exact bodyPost_ret (v:=.tuple #[.agg #[vI S.L.lim,vS jx0.l.m.1.1 jx0.l.m.1.2.1 jx0.l.m.1.2.2,vS jx0.l.ra jx0.l.rs.length jx0.l.rc,vI S.R.lim,vS jx0.r.m.1.1 jx0.r.m.1.2.1 jx0.r.m.1.2.2,vS jx0.r.ra jx0.r.rs.length jx0.r.rc,vI S.lm,vI S.rm,vI S.seq,ψ,ψ],ω]) (by simp[results,results45,go_sem,u,z,B,C,D,F,G,H,I,J,A]) rfl ⟨rfl,j.o⟩
end jn
end Go.Proofs.YtfkihidbnfkbaaaGreatDoor
