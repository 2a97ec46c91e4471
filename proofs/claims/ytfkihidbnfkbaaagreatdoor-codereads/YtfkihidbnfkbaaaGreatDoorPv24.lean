import Derived.Test.YtfkihidbnfkbaaaGreatDoorPv23
import Derived.Test.YtfkihidbnfkbaaaGreatDoorPv19
set_option linter.all false
set_option maxHeartbeats 8000000
set_option maxRecDepth 100000
open Inhabited renaming default->ϰ
open List renaming length->ϲ
namespace Go.Proofs.YtfkihidbnfkbaaaGreatDoor
open ChangeShapes WideShapes ChangeAt RowKit List Proofs.Tryz
namespace jn
open vl
attribute [local go_sem] Oper.semAt_some
variable {U U' : ϟ} {b : Nat} {s : Jn} {y : JX} {p : pl.Pln} {x : pl.PA} {t : Value}
def Adm(p:pl.Pln)(s:Jn)(v:Ev):AN p s v=if¬(v.kind=1\/v.kind=2)\/pl.Bw v.side=false then 4 else if tm.Br v.time=false then 3 else if v.kind=2 then J5 s v else Ht p s v:=rfl
theorem Pz(p:pl.Pln)(x:pl.PA)(s:Jn)(y:JX)(v:Ev)(A:Ϡ)(C:Nat)(w:ϟ)(hw:pl.wfPlan p)(hp:pl.planAt w p x)(h:joinAt w s y)(ac:wfJ s)(hv:evAt w v A):
 χ 153 #[pl.Ai p x,joinV s y,evV v A C] w (ψ w (vI (AN p s v))):=by
 have H:ϡ (∀w1,CT 210 #[vI v.side] w1 λe w'=>e= .returned (.bool (pl.Bw v.side))/\w'=w1):=λw1=>pl.Dz _ w1;have G:ϡ (∀w1,CT 197 #[vI v.time] w1 λe w'=>e= .returned (.bool (tm.Br v.time))/\w'=w1):=λw1=>tm.Dn _ w1;have B:=hIz (λ(w1:ϟ)=>PL s y v A C w1);have z:=hIz (λ(w1:ϟ) (L:Ϣ w w1)=>R7 p x s y v A C w1 hw (pl.Ae hp L) (h.below L) ac (hv.below L));obtain⟨R,K⟩:=nM (AN p s v);have f:=hV0 K;rw[K];clear K hw hp h ac hv;rw[Adm]at f;obtain⟨SB,j⟩:=nM (pl.Bw v.side);obtain⟨u,l⟩:=nM (tm.Br v.time);obtain⟨E1,h3⟩:=nM (J5 s v);obtain⟨E2,h4⟩:=nM (Ht p s v);rw[j]at H f;rw[l]at G f;rw[h3]at B f;rw[h4]at z f;clear j l h3 h4;unfold pl.Ai at z⊢;rw[AU]at B z⊢;unfold evV at B z⊢;obtain⟨d,sd,tm,row⟩:=v;dsimp only at *;obtain⟨n,hn⟩:=nM (ϲ row);rw[hn]at B z⊢;clear hn;go_enter func153,ntmps153;by_cases i:d=1
 ·have k1:(d==1)=true:=by simpa using i
  have k2:(d !=1)=false:=by simpa using i
  have k3:(d==2)=false:=by rw[K5];omega
  have P:ϡ (SB=false->(4:Int)=R):=λh=>by rw[<-f.o,AE (.inr h)]
  have O:ϡ (SB=true->u=false->(3:Int)=R):=λj l=>by rw[<-f.o,AC (by simp[i,j]),AE l]
  have S:ϡ (SB=true->u=true->E2=R):=λj l=>by rw[<-f.o,AC (by simp[i,j]),AC (by simp[l]),AC ϣ]
  clear i f;go_wp2_with fail;generalize c:(World.alloc (World.alloc (World.alloc w _) _) _)=V;have q:Ϣ w V:=by rw[<-c];exact(Ϯ.alloc ϥ _).alloc Ϩ _
  have F:ϡ (boxP V w p x):=by
   subst c;exact Af (Af (BF ..) Ϯ) Ϯ
  have D:ϡ (BU V (w+1) s y):=by
   subst c;have:=C5 (ϊ w (Φ p x) 32) s y 38;rw[D0]at this;exact Ay this Ϯ
  have q0:Δ V (w+1+1) 0 (vI d):=by subst c;go_simp
  have q1:Δ V (w+1+1) 1 (vI sd):=by subst c;go_simp
  have q2:Δ V (w+1+1) 2 (vI tm):=by subst c;go_simp
  have q3:Δ V (w+1+1) 3 (vS A n C):=by subst c;go_simp
  clear c;refine(H.o _).mono ?_;rintro e w1 ⟨rfl,I⟩;obtain rfl:V=w1:=I.symm
  cases SB with
  |false=>
   have g:ϡ ((4:Int)=R):=P.o ϫ;go_wp2;go_ret;exact⟨Ad g.o,q⟩
  |true=>
   go_wp2_with fail;refine(G.o _).mono ?_;rintro e w2 ⟨rfl,J⟩;obtain rfl:V=w2:=J.symm
   cases u with
   |false=>
    have g:ϡ ((3:Int)=R):=O.o ϫ ϫ;go_wp2;go_ret;exact⟨Ad g.o,q⟩
   |true=>
    obtain⟨u0,u1,u2,u3,u4,u5,u6,u7,u8⟩:=D.o;obtain⟨X,Y,v2,v3,v4,v5,v6,v7,v8,v9,Z,aa,ab⟩:=F.o;go_wp2_with fail;refine(z.o _ q).mono ?_;rintro e w3 ⟨rfl,M⟩;have g:ϡ (E2=R):=S.o ϫ ϫ;clear u0 u1 u2 u3 u4 u5 u6 u7 u8 X Y v2 v3 v4 v5 v6 v7 v8 v9 Z aa ab;go_wp2;go_ret;exact⟨Ad g.o,bT q M⟩
 ·by_cases m:d=2
  ·have k1:(d==1)=false:=by rw[K5];omega
   have k2:(d !=1)=true:=by simpa using i
   have k3:(d==2)=true:=by simpa using m
   have k5:(d !=2)=false:=by simpa using m
   have P:ϡ (SB=false->(4:Int)=R):=λh=>by rw[<-f.o,AE (.inr h)]
   have O:ϡ (SB=true->u=false->(3:Int)=R):=λj l=>by rw[<-f.o,AC (by simp[m,j]),AE l]
   have S:ϡ (SB=true->u=true->E1=R):=λj l=>by rw[<-f.o,AC (by simp[m,j]),AC (by simp[l]),AE m]
   clear i m f;go_wp2_with fail;generalize c:(World.alloc (World.alloc (World.alloc w _) _) _)=V;have q:Ϣ w V:=by rw[<-c];exact(Ϯ.alloc ϥ _).alloc Ϩ _
   have F:ϡ (boxP V w p x):=by
    subst c;exact Af (Af (BF ..) Ϯ) Ϯ
   have D:ϡ (BU V (w+1) s y):=by
    subst c;have:=C5 (ϊ w (Φ p x) 32) s y 38;rw[D0]at this;exact Ay this Ϯ
   have q0:Δ V (w+1+1) 0 (vI d):=by subst c;go_simp
   have q1:Δ V (w+1+1) 1 (vI sd):=by subst c;go_simp
   have q2:Δ V (w+1+1) 2 (vI tm):=by subst c;go_simp
   have q3:Δ V (w+1+1) 3 (vS A n C):=by subst c;go_simp
   clear c;refine(H.o _).mono ?_;rintro e w1 ⟨rfl,I⟩;obtain rfl:V=w1:=I.symm
   cases SB with
   |false=>
    have g:ϡ ((4:Int)=R):=P.o ϫ;go_wp2;go_ret;exact⟨Ad g.o,q⟩
   |true=>
    go_wp2_with fail;refine(G.o _).mono ?_;rintro e w2 ⟨rfl,J⟩;obtain rfl:V=w2:=J.symm
    cases u with
    |false=>
     have g:ϡ ((3:Int)=R):=O.o ϫ ϫ;go_wp2;go_ret;exact⟨Ad g.o,q⟩
    |true=>
     obtain⟨u0,u1,u2,u3,u4,u5,u6,u7,u8⟩:=D.o;obtain⟨X,Y,v2,v3,v4,v5,v6,v7,v8,v9,Z,aa,ab⟩:=F.o;go_wp2_with fail;refine(B.o _).mono ?_;rintro e w3 ⟨rfl,M⟩;have g:ϡ (E1=R):=S.o ϫ ϫ;clear u0 u1 u2 u3 u4 u5 u6 u7 u8 X Y v2 v3 v4 v5 v6 v7 v8 v9 Z aa ab;go_wp2;go_ret;exact⟨Ad g.o,bT q M⟩
  ·have ad:(d==1)=false:=by simpa using i
   have af:(d==2)=false:=by simpa using m
   have ae:(d !=1)=true:=by simpa using i
   have ag:(d !=2)=true:=by simpa using m
   have g:ϡ ((4:Int)=R):=by show _=_;rw[<-f.o,AE (.inl (λk=>k.elim i m))]
   go_wp2;go_ret;exact⟨Ad g.o,(Ϯ.alloc ϥ _).alloc Ϩ _⟩
def JM(side:Int)(w:ϟ)(h:pl.Bw side=true):χ 348 #[vI side] w λe w'=>e= .returned (vI (3 - side))/\w'=w:=by
 have c:side=1\/side=2:=by unfold pl.Bw at h;simpa using h
 rcases c with rfl|rfl<;>
 ·go_enter func348,ntmps348;go_wp2;go_ret;exact⟨rfl,rfl⟩
def QR(b o:Nat)(side:Int)(w:ϟ):χ 250 #[.pointer (some ⟨b,o,none⟩),vI side] w λe w'=>e= .returned (.pointer (some ⟨b,o+BN side,none⟩))/\w'=w:=by
 unfold BN;by_cases h:side=2
 ·subst h;go_enter func250,ntmps250;go_wp2;go_ret;exact⟨rfl,rfl⟩
 ·have c:(side==2)=false:=by simpa using h
  rw[AC h];go_enter func250,ntmps250;go_wp2;go_ret;exact⟨rfl,rfl⟩
def He(b o:Nat)(side:Int)(w:ϟ):χ 252 #[.pointer (some ⟨b,o,none⟩),vI side] w λe w'=>e= .returned (.pointer (some ⟨b,o+A6 side,none⟩))/\w'=w:=by
 unfold A6;by_cases h:side=2
 ·subst h;go_enter func252,ntmps252;go_wp2;go_ret;exact⟨rfl,rfl⟩
 ·have c:(side==2)=false:=by simpa using h
  rw[AC h];go_enter func252,ntmps252;go_wp2;go_ret;exact⟨rfl,rfl⟩
def jnC(U:World)(b:Nat)(s:Jn)(y:JX):Prop:=Δ U b 13 (vI s.L.lim)/\Δ U b 14 (vS y.l.m.1.1 y.l.m.1.2.1 y.l.m.1.2.2)/\Δ U b 15 (vS y.l.ra (ϲ y.l.rs) y.l.rc)/\Δ U b 16 (vI s.R.lim)/\Δ U b 17 (vS y.r.m.1.1 y.r.m.1.2.1 y.r.m.1.2.2)/\Δ U b 18 (vS y.r.ra (ϲ y.r.rs) y.r.rc)/\Δ U b 19 (vI s.lm)/\Δ U b 20 (vI s.rm)/\Δ U b 21 (vI s.seq)
structure boxC(U:World)(b:Nat)(p:pl.Pln)(x:pl.PA)(s:Jn)(y:JX)(t:Value):Prop where
 plan:boxP U b p x
 join:jnC U b s y
 told:Δ U b 22 t
 room:U.there b 0 23
def AaC(h:jnC U b s y)(c:Ϣ U U'):jnC U' b s y:=by
 obtain⟨u0,u1,u2,u3,u4,u5,u6,u7,u8⟩:=h;exact⟨cLz c u0,cLz c u1,cLz c u2,cLz c u3,cLz c u4,cLz c u5,cLz c u6,cLz c u7,cLz c u8⟩
def boxC.later(h:boxC U b p x s y t)(c:Ϣ U U'):boxC U' b p x s y t:=⟨Af h.plan c,AaC h.join c,cLz c h.told,Ci h.room c⟩
def boxC.lt(h:boxC U b p x s y t):b<U.heap.size:=Le h.plan
def S9(h:jnC U b s y)(side:Int):Δ U b (13+BN side) (vI (BJ s side)):=by
 obtain⟨u0,u1,u2,u3,u4,u5,u6,u7,u8⟩:=h;unfold BN BJ;split
 ·exact u7
 ·exact u6
def JN(h:jnC U b s y)(side:Int):Δ U b (13+A6 side) (vI (Ar s side).lim)/\Δ U b (13+A6 side+1) (vS (BZ y side).m.1.1 (BZ y side).m.1.2.1 (BZ y side).m.1.2.2)/\Δ U b (13+A6 side+2) (vS (BZ y side).ra (ϲ (BZ y side).rs) (BZ y side).rc):=by
 obtain⟨u0,u1,u2,u3,u4,u5,u6,u7,u8⟩:=h;unfold A6 Ar BZ;split
 ·exact⟨u3,u4,u5⟩
 ·exact⟨u0,u1,u2⟩
def Df(p:pl.Pln)(s:Jn)(side:Int):Int:=if BJ s (3 - side)=noMark then noMark else pl.Q6 p side (BJ s (3 - side))
theorem L1(b:Nat)(p:pl.Pln)(x:pl.PA)(s:Jn)(y:JX)(t:Value)(side:Int)(w:ϟ)(F:pl.wfPlan p)(C:pl.planAt w p x)(h:boxC w b p x s y t)(D:pl.Bw side=true):
 χ 344 #[ω b,vI side] w (ψ w (vI (Df p s side))):=by
 have l:=hIz (λ(w1:ϟ)=>JM side w1 D);have g:ϡ (∀w1,CT 250 #[.pointer (some ⟨b,13,none⟩),vI (3 - side)] w1 λe w'=>e= .returned (.pointer (some ⟨b,13+BN (3 - side),none⟩))/\w'=w1):=λw1=>QR b 13 (3 - side) w1;have j:=hIz (λm (w1:ϟ) (H:Ϣ w w1)=>pl.L1 p x side m w1 F (pl.Ae C H));have d:=S9 h.join (3 - side);have q:ϡ (boxP w b p x):=h.plan;obtain⟨R,n⟩:=nM (Df p s side);have f:=hV0 n;rw[n];clear n F C h D;unfold Df at f;obtain⟨k,A⟩:=nM (13+BN (3 - side));obtain⟨M,u⟩:=nM (BJ s (3 - side));obtain⟨J,B⟩:=nM (3 - side);rw[A]at g d;rw[u]at d f;rw[B]at l g;clear A u B;unfold pl.Ai at j;go_enter func344,ntmps344;by_cases c:M=noMark
 ·have G:(M== -1099511627777)=true:=by unfold noMark at c;simpa using c
  have i:ϡ ((-1099511627777:Int)=R):=by show _=_;rw[<-f.o,AE c];rfl
  clear j q;go_wp2
  go_region_held3 (λw'=>Δ w' b k (vI M)) (first|go_keep|exact d) (first
   |(go_at_call 250;refine(g.o _).mono ?_;rintro e I ⟨rfl,rfl⟩)
   |(go_at_call 348;refine(l.o _).mono ?_;rintro e w2 ⟨rfl,rfl⟩))
  all_goals
   go_wp2;go_ret;exact⟨Ad i.o,by first|exact bR|exact bR.drew⟩
 ·have G:(M== -1099511627777)=false:=by unfold noMark at c;simpa using c
  have i:ϡ (pl.Q6 p side M=R):=by show _=_;rw[<-f.o,AC c]
  obtain⟨K,L,V,X,Y,Z,v6,v7,v8,v9,O,P,S⟩:=q.o;go_wp2
  go_region_held3 (λw'=>Δ w' b k (vI M)) (first|go_keep|exact d) (first
   |(go_at_call 250;refine(g.o _).mono ?_;rintro e I ⟨rfl,rfl⟩)
   |(go_at_call 348;refine(l.o _).mono ?_;rintro e w2 ⟨rfl,rfl⟩))
  all_goals
   go_wp2_with (go_at_call 349;refine(j.o _ _ (by first|exact bR|exact bR.drew)).mono ?_;rintro e w4 ⟨rfl,z⟩);go_ret;exact⟨Ad i.o,by first|exact z|exact bR.drew.trans z⟩
end jn
namespace jn
open vl bf
attribute [local go_sem] Oper.semAt_some
variable {W w : ϟ} {N b base : Nat} {T : TypeId} {v : Value} {x : BX} {s : Jn} {y : JX}
structure calmT(T:TypeId):Prop where
 e:T≠166
 v:T≠119
 h:T≠33
def Yy{d:List EM}{l:List Ent}(h:OE w base v d l)(e:Am w N T)(f:calmT T)(k:Nat)(u:Value):OE (ό w N k u) base v d l:=
 h.other (by simp[World.setCell]) (λg c=>CB _ _ _ _ (by
  rcases c with c|c
  ·exact tyAt_apart c e f.e.symm
  ·exact tyAt_apart c e f.v.symm))
def Hf{b:Buf}(h:OB w base x b)(c:Am w N T)(d:calmT T)(k:Nat)(u:Value):OB (ό w N k u) base x b:=
 ⟨by simp[World.setCell];exact h.low,Yy h.mem c d k u,A4 h.hds (λg e=>CB _ _ _ _ (tyAt_apart (Az h.hds e) c d.h.symm)),h.rlen,λi f=>Yy (h.runs i f) c d k u,h.two⟩
theorem BG{base N:Nat}{T:TypeId}{x:BX}{b:Buf}(c:calmT T):∀(l:List Value) (o:Nat) (w:ϟ),OB w base x b->Am w N T->OB (w.setCells N o l) base x b
 |[],_,_,h,_=>h
 |v::l,o,w,h,hN=>BG c l (o+1) _ (Hf h hN c o v) (tyAt_set hN _ _)
theorem DI{b N:Nat}{T:TypeId}:∀(l:List Value) (o:Nat) (w:ϟ),Am w b T->Am (w.setCells N o l) b T
 |[],_,_,h=>h
 |v::l,o,w,h=>DI l (o+1) _ (tyAt_set h _ _)
def AfQ:(prog.info? 36).map (·.size)=some 3:=Ϧ
theorem size_setCells(N:Nat):∀(l:List Value) (o:Nat) (w:ϟ),(w.setCells N o l).heap.size=w.heap.size
 |[],_,_=>rfl
 |v::l,o,w=>(size_setCells N l (o+1) _).trans (by simp[World.setCell])
def P0:calmT 38:=⟨Ϥ,Ϥ,Ϥ⟩
theorem Ahe(w:ϟ)(c:Fin 9->Value)(h:∀i,(c i).oneCell'=true)(t:TypeId):(w.alloc (.cells #[c 0,c 1,c 2,c 3,c 4,c 5,c 6,c 7,c 8] t)).there w.heap.size 0 9:=by
 intro j d
 match j,d with
 |0,_=>exact⟨ϧ,ϧ⟩
 |1,_=>exact⟨ϧ,ϧ⟩
 |2,_=>exact⟨ϧ,ϧ⟩
 |3,_=>exact⟨ϧ,ϧ⟩
 |4,_=>exact⟨ϧ,ϧ⟩
 |5,_=>exact⟨ϧ,ϧ⟩
 |6,_=>exact⟨ϧ,ϧ⟩
 |7,_=>exact⟨ϧ,ϧ⟩
 |8,_=>exact⟨ϧ,ϧ⟩
theorem AaD(h:BU W b s y)(g:W.there b 0 9)(z:BX):BU (W.setCells b 0 [vI s.L.lim,vS z.m.1.1 z.m.1.2.1 z.m.1.2.2,vS z.ra (ϲ z.rs) z.rc]) b s ⟨z,y.r⟩:=by
 have d:=Wf W b 0 [vI s.L.lim,vS z.m.1.1 z.m.1.2.1 z.m.1.2.2,vS z.ra (ϲ z.rs) z.rc] (λj f=>by
  have:=g (0+j) (by simp at f;omega);simpa using this)
 have c:∀i,i<0\/3<=i->(W.setCells b 0 [vI s.L.lim,vS z.m.1.1 z.m.1.2.1 z.m.1.2.2,vS z.ra (ϲ z.rs) z.rc]).cell? ⟨b,i,none⟩=W.cell? ⟨b,i,none⟩:=λi e=>World.cell?_setCells_out b _ 0 W ⟨b,i,none⟩ (λ_ _=>by simpa using e);obtain⟨u0,u1,u2,u3,u4,u5,u6,u7,u8⟩:=h;refine⟨?_,?_,?_,?_,?_,?_,?_,?_,?_⟩
 ·exact d 0 _ rfl
 ·exact d 1 _ rfl
 ·exact d 2 _ rfl
 ·rw[c 3 ϣ];exact u3
 ·rw[c 4 ϣ];exact u4
 ·rw[c 5 ϣ];exact u5
 ·rw[c 6 ϣ];exact u6
 ·rw[c 7 ϣ];exact u7
 ·rw[c 8 ϣ];exact u8
theorem AaE(h:BU W b s y)(g:W.there b 0 9)(z:BX):BU (W.setCells b 3 [vI s.R.lim,vS z.m.1.1 z.m.1.2.1 z.m.1.2.2,vS z.ra (ϲ z.rs) z.rc]) b s ⟨y.l,z⟩:=by
 have d:=Wf W b 3 [vI s.R.lim,vS z.m.1.1 z.m.1.2.1 z.m.1.2.2,vS z.ra (ϲ z.rs) z.rc] (λj f=>by
  have:=g (3+j) (by simp at f;omega);simpa using this)
 have c:∀i,i<3\/6<=i->(W.setCells b 3 [vI s.R.lim,vS z.m.1.1 z.m.1.2.1 z.m.1.2.2,vS z.ra (ϲ z.rs) z.rc]).cell? ⟨b,i,none⟩=W.cell? ⟨b,i,none⟩:=λi e=>World.cell?_setCells_out b _ 3 W ⟨b,i,none⟩ (λ_ _=>by simpa using e);obtain⟨u0,u1,u2,u3,u4,u5,u6,u7,u8⟩:=h;refine⟨?_,?_,?_,?_,?_,?_,?_,?_,?_⟩
 ·rw[c 0 ϣ];exact u0
 ·rw[c 1 ϣ];exact u1
 ·rw[c 2 ϣ];exact u2
 ·exact d 0 _ rfl
 ·exact d 1 _ rfl
 ·exact d 2 _ rfl
 ·rw[c 6 ϣ];exact u6
 ·rw[c 7 ϣ];exact u7
 ·rw[c 8 ϣ];exact u8
def Adn(x1 x2:BX):Prop:=∀p∈x1.m::x1.rs,∀q∈x2.m::x2.rs,apB (hdV p.1) (hdV q.1)
def Yz{b:Buf}(h:OB w base x b){p:Part}(d:p∈x.m::x.rs){g:Nat}(c:(hdV p.1).ownBlock=some g):base<=g/\g<w.heap.size:=by
 have j:∀{v:Value} {m:List EM} {l:List Ent},OE w base v m l->v.ownBlock=some g->base<=g/\g<w.heap.size:=λh c=>AL h.own c;rcases E3.1 d with rfl|d
 ·exact j h.mem c
 ·obtain⟨i,f,rfl⟩:=LT d;have e:x.rs.getD i ϰ=x.rs[i]:=by rw[gDe,gEe f];rfl
  have:=h.runs i (by rw[<-h.rlen];exact f);rw[e]at this;exact j this c
def P4{w1 w2:ϟ}{f c:Nat}{d e:BX}{h i:Buf}(h1:OB w1 f d h)(j:OB w2 c e i)(z:w1.heap.size<=c):Adn d e:=λp n q u g l m=>by
 have:=(Yz h1 n l).2;have:=(Yz j u m).1;omega
theorem Xt(s:Jn)(y:JX)(w:ϟ)(h:joinAt w s y)(H:okB s.L)(I:okB s.R):
 χ 213 #[joinV s y] w λe w'=>(∃c d,e= .returned (joinV s ⟨c,d⟩)/\OB w' w c s.L/\OB w' w d s.R/\Adn c d)/\Ϣ w w':=by
 have KL:ϡ (∀w1,Ϣ w w1->CT 253 #[Bh s.L y.l,.func (.func 254) #[] #[]] w1 λe w'=>(∃L,e= .returned (Bh s.L L)/\OB w' w1 L s.L)/\Ϣ w1 w'):=λw1 hb=>by
  have K:=Ld 254 (IB func254 Ϧ rfl) #[] (λ_=>true) s.L y.l w1 (Ao h.l hb) H.small.1 H.small.2.1 H.small.2.2 (λe z w2 ao _ l=>Im e w2);rw[Kx H]at K;exact K
 have KR:ϡ (∀w1,Ϣ w w1->CT 253 #[Bh s.R y.r,.func (.func 254) #[] #[]] w1 λe w'=>(∃L,e= .returned (Bh s.R L)/\OB w' w1 L s.R)/\Ϣ w1 w'):=λw1 hb=>by
  have K:=Ld 254 (IB func254 Ϧ rfl) #[] (λ_=>true) s.R y.r w1 (Ao h.r hb) I.small.1 I.small.2.1 I.small.2.2 (λe z w2 ao _ l=>Im e w2);rw[Kx I]at K;exact K
 clear h H I;rw[AU];unfold Bh hdV at KL KR;go_enter func213,ntmps213;go_wp2_with fail;generalize B:(World.alloc (World.alloc w _) _)=V;have ae:Ϣ w V:=by rw[<-B];exact Ϯ.alloc ϥ _
 have av:V.heap.size=w.heap.size+1+1:=by rw[<-B];simp
 have M:ϡ (BU V w s y):=by
  subst B;exact Ay (C5 ..) Ϯ
 have g:ϡ (V.there w.heap.size 0 9/\Am V w 38):=by
  subst B;refine⟨Ci (Ahe w (λi=>match i with|0=>.int .i64 s.L.lim|1=>.slice y.l.m.1.1 y.l.m.1.2.1 y.l.m.1.2.2|2=>.slice y.l.ra (ϲ y.l.rs) y.l.rc|3=>.int .i64 s.R.lim|4=>.slice y.r.m.1.1 y.r.m.1.2.1 y.r.m.1.2.2|5=>.slice y.r.ra (ϲ y.r.rs) y.r.rc|6=>.int .i64 s.lm|7=>.int .i64 s.rm|8=>.int .i64 s.seq) (λi=>by match i with|0|1|2|3|4|5|6|7|8=>rfl) 38) Ϯ,?_⟩;exact Ak ⟨_,_,DE w _⟩ Ϯ
 have A:ϡ (noJ V (w+1)/\Am V (w+1) 38):=by
  subst B;have h1:=Ry (ϊ w (Ψ s y) 38);have h2:=DE (ϊ w (Ψ s y) 38) (.cells #[Ϗ,ώ,ώ,Ϗ,ώ,ώ,Ϗ,Ϗ,Ϗ] 38);rw[D0]at h1 h2;exact⟨h1,_,_,h2⟩
 clear B;refine(KL.o _ ae).mono ?_;rintro e m ⟨⟨c,rfl,af⟩,D⟩;have ak:Ϣ w m:=bT ae D;replace M:ϡ (BU m w s y):=Ay M.o D;replace g:ϡ (m.there w.heap.size 0 9/\Am m w 38):=⟨Ci g.o.1 D,Ak g.o.2 D⟩;replace A:ϡ (noJ m (w+1)/\Am m (w+1) 38):=⟨D9 A.o.1 D,Ak A.o.2 D⟩;have X:=hV0 af;clear af;have ap:m.there w.heap.size 0 3:=λj hj=>g.o.1 j ϣ;obtain⟨n,q⟩:=nM (World.setCells m w.heap.size 0 ((Ω s.L c):Array Value).toList);have S:ϡ (BU n w s ⟨c,y.r⟩):=by rw[<-q];exact AaD M.o g.o.1 c
 have Y:ϡ (n.there w.heap.size 0 9/\Am n w 38):=by rw[<-q];exact⟨dD g.o.1 _ _ _,DI _ _ _ g.o.2⟩
 have Z:ϡ (noJ n (w+1)/\Am n (w+1) 38):=by rw[<-q];exact⟨dD A.o.1 _ _ _,DI _ _ _ A.o.2⟩
 have ac:ϡ (OB n V c s.L):=by rw[<-q];exact BG P0 _ _ _ X.o g.o.2
 have aa:Ϣ w n:=by rw[<-q];exact below_setCells nR _ _ _ ak
 have au:n.heap.size=m.heap.size:=by rw[<-q];exact size_setCells _ _ _ _
 obtain⟨u0,u1,u2,u3,u4,u5,u6,u7,u8⟩:=S.o;go_wp2_with ((with_reducible refine Ft ?_ 36 (.tmp 6) (.tmp 5) ?_ w.heap.size 0 (Ω s.L c) ?_ ?_ ?_ ?_ ?_ ?_);exact rfl;exact rfl;exact rfl;exact rfl;exact ap;exact AfQ;exact Ϭ;rw[q]);refine(KR.o _ aa).mono ?_;rintro e f ⟨⟨d,rfl,ab⟩,l⟩;have al:Ϣ w f:=bT aa l;have ag:ϡ (Adn c d):=P4 X.o ab ϣ;have ah:ϡ (BU f w s ⟨c,y.r⟩):=Ay S.o l;have O:ϡ (f.there w.heap.size 0 9/\Am f w 38):=⟨Ci Y.o.1 l,Ak Y.o.2 l⟩;have ad:ϡ (noJ f (w+1)/\Am f (w+1) 38):=⟨D9 Z.o.1 l,Ak Z.o.2 l⟩;have F:ϡ (OB f w c s.L):=CL (ac.o.below l) ϣ;have G:ϡ (OB f w d s.R):=CL ab (by have:=aa.size;omega);clear u0 u1 u2 u3 u4 u5 u6 u7 u8 ab S Y Z ac X M g A q KL KR;have aq:f.there w.heap.size 3 3:=λj hj=>by
  have:=O.o.1 (3+j) ϣ;simpa using this
 obtain⟨u,C⟩:=nM (World.setCells f w.heap.size 3 ((Ω s.R d):Array Value).toList);have ai:ϡ (BU u w s ⟨c,d⟩):=by rw[<-C];exact AaE ah.o O.o.1 d
 have P:ϡ (noJ u (w+1)/\Am u (w+1) 38):=by rw[<-C];exact⟨dD ad.o.1 _ _ _,DI _ _ _ ad.o.2⟩
 replace F:ϡ (OB u w c s.L):=by rw[<-C];exact BG P0 _ _ _ F.o O.o.2
 replace G:ϡ (OB u w d s.R):=by rw[<-C];exact BG P0 _ _ _ G.o O.o.2
 have am:Ϣ w u:=by rw[<-C];exact below_setCells nR _ _ _ al
 obtain⟨R,J⟩:=nM (World.setCells u (w.heap.size+1) 0 ((ζ s c d []):Array Value).toList);have aj:ϡ (R.rangeAt (w.heap.size+1) 0 ((ζ s c d []):Array Value).toList):=by rw[<-J];exact Io P.o.1 rfl
 replace F:ϡ (OB R w c s.L):=by rw[<-J];exact BG P0 _ _ _ F.o P.o.2
 replace G:ϡ (OB R w d s.R):=by rw[<-J];exact BG P0 _ _ _ G.o P.o.2
 have an:Ϣ w R:=by rw[<-J];exact below_setCells (PS _) _ _ _ am
 have ar:=P.o.1;obtain⟨u0,u1,u2,u3,u4,u5,u6,u7,u8⟩:=ai.o;go_wp2_with (first
  |((with_reducible refine Ft ?_ 36 (.tmp 10) (.tmp 9) ?_ w.heap.size 3 (Ω s.R d) ?_ ?_ ?_ ?_ ?_ ?_);exact rfl;exact rfl;exact rfl;exact rfl;exact aq;exact AfQ;exact Ϭ;rw[C])
  |((with_reducible refine Ft ?_ 38 (.tmp 2) (.tmp 11) ?_ (w.heap.size+1) 0 (ζ s c d []) ?_ ?_ ?_ ?_ ?_ ?_);exact rfl;exact rfl;exact rfl;exact rfl;exact ar;exact Oj;exact Ϭ;rw[J]))
 obtain⟨y0,y1,y2,y3,y4,y5,y6,y7,y8⟩:=rg9 aj.o;exact CD (v:=.agg (ζ s c d [])) (by simp[results,results213,go_sem,y0,y1,y2,y3,y4,y5,y6,y7,y8]) rfl ⟨⟨c,d,by rw[AU],F.o,G.o,ag.o⟩,an⟩
def Fy(s:Jn)(side time:Int):Jn:=if side=2 then⟨s.L,s.R,s.lm,time,s.seq⟩else⟨s.L,s.R,time,s.rm,s.seq⟩
def mark_le(side:Int):BN side=6\/BN side=7:=by
 unfold BN;split
 ·exact .inr rfl
 ·exact .inl rfl
def cell_far{i j:Nat}{u:Value}(h:Δ w b i v)(c:j≠i):Δ (ό w b j u) b i v:=(bJ _ _ _ _ (λe=>c (by injection e))).trans h
theorem AaF{p:pl.Pln}{x:pl.PA}{t:Value}(h:boxC w b p x s y t)(side d:Int):boxC (ό w b (13+BN side) (vI d)) b p x (Fy s side d) y t:=by
 have i:=mark_le side;refine⟨?_,?_,cell_far h.told ϣ,λj f=>?_⟩
 ·obtain⟨n,q,C,D,F,G,H,I,J,K,z,A,B⟩:=h.plan;exact⟨cell_far n ϣ,cell_far q ϣ,cell_far C ϣ,cell_far D ϣ,cell_far F ϣ,cell_far G ϣ,cell_far H ϣ,cell_far I ϣ,cell_far J ϣ,cell_far K ϣ,cell_far z ϣ,cell_far A ϣ,cell_far B ϣ⟩
 ·have g:=S9 h.join side;have c:=JR _ _ (vI d) g;obtain⟨u0,u1,u2,u3,u4,u5,u6,u7,u8⟩:=h.join;unfold Fy;unfold BN at c i⊢;by_cases e:side=2
  ·rw[AE e]at c⊢;rw[AE e];exact⟨cell_far u0 ϣ,cell_far u1 ϣ,cell_far u2 ϣ,cell_far u3 ϣ,cell_far u4 ϣ,cell_far u5 ϣ,cell_far u6 ϣ,c,cell_far u8 ϣ⟩
  ·rw[AC e]at c⊢;rw[AC e];exact⟨cell_far u0 ϣ,cell_far u1 ϣ,cell_far u2 ϣ,cell_far u3 ϣ,cell_far u4 ϣ,cell_far u5 ϣ,c,cell_far u7 ϣ,cell_far u8 ϣ⟩
 ·exact⟨by
   obtain⟨u,l⟩:=cD.1 (h.room j f).1;obtain⟨L,m⟩:=fw (p:=⟨b,13+BN side,none⟩) (x:=vI d) l;rw[m];rfl,by rw[aD];exact(h.room j f).2⟩
theorem Ado(b:Nat)(p:pl.Pln)(x:pl.PA)(s:Jn)(y:JX)(t:Value)(side f:Int)(w:ϟ)(h:boxC w b p x s y t):
 χ 339 #[ω b,vI side,vI f] w λe w'=>e= .returned (.tuple #[])/\w'=w.setCell ⟨b,13+BN side,none⟩ (vI f):=by
 have c:ϡ (∀w1,CT 250 #[.pointer (some ⟨b,13,none⟩),vI side] w1 λe w'=>e= .returned (.pointer (some ⟨b,13+BN side,none⟩))/\w'=w1):=λw1=>QR b 13 side w1;have g:=S9 h.join side;have i:Ξ w b (13+BN side):=by
  have:=(h.room (13+BN side) (by rcases mark_le side with e|e<;>omega)).2;simpa using this
 clear h;obtain⟨k,d⟩:=nM (13+BN side);rw[d]at c g i⊢;clear d;go_enter func339,ntmps339;go_wp2_with (go_at_call 250;refine(c.o _).mono ?_;rintro e w2 ⟨rfl,rfl⟩);exact cH (v:=.tuple #[]) (by simp[results,results339,go_sem]) rfl ⟨rfl,rfl⟩
theorem Adp(b:Nat)(p:pl.Pln)(x:pl.PA)(s:Jn)(y:JX)(c:Ϡ)(e d:Nat)(w:ϟ)(h:boxC w b p x s y (vS c e d)):
 χ 341 #[ω b] w (ψ w (.tuple #[joinV s y,vS c e d])):=by
 have f:=h.lt;obtain⟨u0,u1,u2,u3,u4,u5,u6,u7,u8⟩:=h.join;have i:=h.told;clear h;rw[AU];go_enter func341,ntmps341;go_wp2;have g:b≠w.heap.size:=ϣ
 go_region_held3 (λw'=>Δ w' b 13 (vI s.L.lim)/\Δ w' b 14 (vS y.l.m.1.1 y.l.m.1.2.1 y.l.m.1.2.2)/\Δ w' b 15 (vS y.l.ra (ϲ y.l.rs) y.l.rc)/\Δ w' b 16 (vI s.R.lim)/\Δ w' b 17 (vS y.r.m.1.1 y.r.m.1.2.1 y.r.m.1.2.2)/\Δ w' b 18 (vS y.r.ra (ϲ y.r.rs) y.r.rc)/\Δ w' b 19 (vI s.lm)/\Δ w' b 20 (vI s.rm)/\Δ w' b 21 (vI s.seq)/\Δ w' b 22 (vS c e d)) (first|go_keep|(refine⟨?_,?_,?_,?_,?_,?_,?_,?_,?_,?_⟩<;>go_simp))
  (fail)
 all_goals
  go_wp2;exact CD (v:=.tuple #[.agg (Ψ s y),vS c e d]) (by simp[results,results341,go_sem]) rfl ⟨rfl,Ϯ.drew⟩
end jn
namespace jn
open vl bf
def leP(a b:Ent):Bool:= !decide (ltP b a)
def Dx(l:List Ent):List Ent:=l.mergeSort leP
def De(l:List Ent):(Dx l).Perm l:=mergeSort_perm l leP
def AaG(a b c:Ent)(h1:leP a b=true)(d:leP b c=true):leP a c=true:=by
 unfold leP at *;simp only[bA,cP]at *;intro h;rcases ltP_tri a b with k|k|k
 ·rcases ltP_tri b c with j|j|j
  ·exact EA _ (CF (CF k j) h)
  ·exact EA _ (CF (NM k j) h)
  ·exact d j
 ·exact d (NM h k)
 ·exact h1 k
def AaH(a b:Ent):(leP a b||leP b a)=true:=by
 unfold leP;by_cases h:ltP b a
 ·have:¬ltP a b:=λk=>EA _ (CF k h);simp[h,this]
 ·simp[h]
def UP(l:List Ent):Nq (Dx l):=λi j f d e=>by
 have g:=pairwise_mergeSort (le:=leP) AaG AaH l;have c:i<ϲ (Dx l):=ϣ;have:=aA.1 g i j c d f;rw[getD_at d,getD_at c]at e;unfold leP at this;simp only[bA,cP]at this;exact this e
def LR{l c:List Ent}(e:c.Perm l)(f:Nq c)(d:(l.map AJ).Nodup):c=Dx l:=by
 have g:(c.map AJ).Nodup:=(J7 e).2 d;have h:((Dx l).map AJ).Nodup:=(J7 (De l)).2 d;exact TC (e.trans (De l).symm) (RL f g) (RL (UP l) h)
def DT(side:Int)(own other:List Cel):List Cel:=if side=2 then other++own else own++other
def Eo(mode side:Int):Bool:=if mode=2 then side==1 else if mode=3 then side==2 else mode==4
def Ce(p:pl.Pln)(side:Int)(row:List Cel):List Cel:=DT side row (bt.D3 (ϲ (pl.A9 p (3 - side))))
def FX(b:Buf)(key:ByteArray)(fr tO:Int):List Ent:=Dx ((Ab b).filter λy=>decide (y.key=key)&&decide (fr<=y.time)&&decide (y.time<=tO))
def metE(qs:List Int)(y:Ent):Ent:=if y.seq∈qs then {y with met:=true}else y
def DL(qs:List Int)(b:Buf):Buf:=⟨b.lim,b.mem.map (metE qs),b.runs.map (·.map (metE qs))⟩
def AP(s:Jn)(side:Int)(b:Buf):Jn:=if side=2 then⟨s.L,b,s.lm,s.rm,s.seq⟩else⟨b,s.R,s.lm,s.rm,s.seq⟩
def Hg(p:pl.Pln)(v:Ev):Int:=if p.kind=1 then(if v.side=1 then v.time+p.low else v.time - p.high)else v.time - v.time % p.size
def toJ(p:pl.Pln)(v:Ev):Int:=if p.kind=1 then(if v.side=1 then v.time+p.high else v.time - p.low)else v.time - v.time % p.size+p.size - 1
def partners(p:pl.Pln)(s:Jn)(v:Ev):List Ent:=if pl.hasB p v.side v.row=true then FX (Ar s (3 - v.side)) (pl.A0 p v.side v.row) (Hg p v) (toJ p v)else []
def DX(p:pl.Pln)(s:Jn)(v:Ev):List ch.Chg:=
 (partners p s v).flatMap (λe=>if Eo p.mode (3 - v.side)=true/\e.met=false then [⟨3,Ce p (3 - v.side) e.row⟩,⟨4,DT v.side v.row e.row⟩]else [⟨1,DT v.side v.row e.row⟩])
 ++if (partners p s v).isEmpty=true/\Eo p.mode v.side=true then [⟨1,Ce p v.side v.row⟩]else []
def Dh(p:pl.Pln)(s:Jn)(v:Ev):Jn:=AP s (3 - v.side) (DL ((partners p s v).map (·.seq)) (Ar s (3 - v.side)))
def P5(p:pl.Pln)(s:Jn)(v:Ev):List Ent:=if pl.hasB p v.side v.row=true then FX s.R (pl.A0 p v.side v.row) (-1099511627776) v.time else []
def SA(p:pl.Pln)(s:Jn)(v:Ev):List ch.Chg:=match (P5 p s v).getLast? with
 |some e=>[⟨1,DT v.side v.row e.row⟩]
 |none=>if Eo p.mode 1=true then [⟨1,Ce p v.side v.row⟩]else []
def AfR(s:Jn)(key:ByteArray)(e:Ent):Option Ent:=((FX s.R key (-1099511627776) 1099511627776).filter λy=>decide (y.time<=e.time)).getLast?
def I6(p:pl.Pln)(s:Jn)(v:Ev):List Ent:=(if pl.hasB p v.side v.row=true then FX s.L (pl.A0 p v.side v.row) v.time 1099511627776 else []).filter λe=>match AfR s (pl.A0 p v.side v.row) e with
 |some o=>decide (o.time<=v.time)
 |none=>true
def SD(p:pl.Pln)(s:Jn)(v:Ev):List ch.Chg:=(I6 p s v).flatMap λe=>match AfR s (pl.A0 p v.side v.row) e with
 |some o=>[⟨3,DT 1 e.row o.row⟩,⟨4,DT v.side v.row e.row⟩]
 |none=>if Eo p.mode 1=true then [⟨3,Ce p 1 e.row⟩,⟨4,DT v.side v.row e.row⟩]else [⟨1,DT v.side v.row e.row⟩]
def Dr(b:Buf)(y:Ent):Buf:=IE b (Dx (b.mem++[y]))
def Fs(p:pl.Pln)(s:Jn)(v:Ev)(met:Bool):Jn:=
 let t:=if pl.hasB p v.side v.row=true/\Df p s v.side<v.time then AP s v.side (Dr (Ar s v.side) ⟨pl.A0 p v.side v.row,v.time,s.seq,v.row,met⟩)else s
 ⟨t.L,t.R,t.lm,t.rm,t.seq+1⟩
def Nh(p:pl.Pln)(s:Jn):Jn:=⟨Ei (Fe (Df p s 1)) s.L,Ei (Fe (Df p s 2)) s.R,s.lm,s.rm,s.seq⟩
def lastOf(s:Jn)(key:ByteArray)(low:Int):Int:=match ((Dx (Ab s.R)).filter λy=>decide (y.key=key)&&decide (y.time<=low)).getLast? with
 |some y=>y.seq
 |none=>0
def Ahf(s:Jn):Int:=min s.lm s.rm
def AgC(s:Jn):Jn:=⟨s.L,Ei (λy=>decide (Ahf s<y.time)||decide (lastOf s y.key (Ahf s)=y.seq)) s.R,s.lm,s.rm,s.seq⟩
def E8(p:pl.Pln)(s:Jn):Jn:=if p.kind=3 then AgC (Nh p s)else Nh p s
def IG(p:pl.Pln)(s:Jn)(v:Ev):Jn×List ch.Chg:=
 if p.kind=3 then
  if v.side=1 then(Fs p s v (!(P5 p s v).isEmpty),SA p s v)
  else(Fs p (AP s 1 (DL ((I6 p s v).map (·.seq)) s.L)) v false,SD p s v)
 else(Fs p (Dh p s v) v (!(partners p s v).isEmpty),DX p s v)
noncomputable def stepJ(p:pl.Pln)(s:Jn)(v:Ev):Int×Jn×List ch.Chg:=
 if AV p s≠0 then(AV p s,j0,[])else if AN p s v≠0 then(AN p s v,j0,[])
 else if v.kind=2 then(0,E8 p (Fy s v.side v.time),[])else(0,IG p s v)
end jn
namespace jn
open vl pl bt
attribute [local go_sem] Oper.semAt_some
variable {w w' w1 w2 : ϟ} {b base : Nat} {s : Jn} {rv sv t v v' : Value} {E : List Own1} {row srow : List Cel} {k : Int} {o : Obj} {ops : Array Oper} {rest : List Oper} {a : Act} {Q : Exit -> Act -> World -> Prop} {p : pl.Pln} {x : pl.PA} {y : JX}
def UQ:Value->Option Addr
 | .slice a _ _=>a
 |_=>none
def AaI:Value->Nat
 | .slice _ _ c=>c
 |_=>0
def SF{e:TypeId}{s:Nat}{n:Nat}{f:List Value}(h:w.ownsRow base e s v n f):v=vS (UQ v) n (AaI v):=by
 rcases h.2 with⟨c,d⟩|⟨g,i,j,c,_⟩
 ·rw[c,d];rfl
 ·rw[c];rfl
def LU{c:List Own1}(h:∀[DecidableEq Own1] (a:Own1),E.count a=c.count a):E.Perm c:=by
 haveI:DecidableEq Own1:=λa b=>Classical.propDecidable (a=b)
 exact perm_iff_count.2 (λa=>h a)
def Adq{F:List Own1}(h:Est w base (E++F)):Est w base F:=
 ⟨h.low,λy hy=>h.own y (Fk.2 (.inr hy)),(eO.1 h.two).2.1⟩
theorem Qe(w:ϟ)(a b c d:Value)(t:TypeId):∀j u,[a,b,c,d][j]? =some u->(w.alloc (.cells #[a,b,c,d] t)).cell? ((⟨w,0,none⟩:Addr).add j)=some u:=λj u e=>by
 rw[ch.addr_add]
 match j,e with
 |0,e=>simp at e;subst e;go_simp
 |1,e=>simp at e;subst e;go_simp
 |2,e=>simp at e;subst e;go_simp
 |3,e=>simp at e;subst e;go_simp
 |k+4,e=>simp at e
def Cz(rv:Value)(row:List Cel):Own1:=⟨rv,119,3,ϲ row,celCells row⟩
structure CO where
 k:Int
 rv:Value
 row:List Cel
instance:Inhabited CO:=⟨⟨0,ώ,[]⟩⟩
def CO.chg(x:CO):ch.Chg:=⟨x.k,x.row⟩
def CO.pair(x:CO):Int×Value:=(x.k,x.rv)
def CG(w:World)(base:Nat)(v:Value)(L:List CO):Prop:=Est w base ((⟨v,217,2,ϲ L,ch.Bv (L.map CO.pair)⟩:Own1)::L.map λx=>Cz x.rv x.row)
def CG.start(h:base<=w.heap.size):CG w base (vS none 0 0) []:=
 ⟨h,λy hy=>by
  rcases E3.1 hy with rfl|hy
  ·exact KX _ _ _ _
  ·exact absurd hy SW,WF.2 ⟨λy hy=>absurd hy SW,eX⟩⟩
def CG.below{L:List CO}(h:CG w base v L)(c:Ϣ w w'):CG w' base v L:=H4 h c
def CG.own{L:List CO}(h:CG w base v L):w.ownsRow base 217 2 v (ϲ L) (ch.Bv (L.map CO.pair)):=Est.own h _ (E0 ..)
theorem CG.add{L:List CO}(h:CG w base v L)(n:Ϣ w w1)(d:AF w1 w rv row)(c:(w1.alloc o).grownBy w2 v.ownBlock)(q:w2.ownsRow base 217 2 v' (ϲ L+1) (ch.Bv (L.map CO.pair++[(k,rv)])))(m:∀g,v'.ownBlock=some g->v.ownBlock=some g\/w1.heap.size+1<=g):CG w2 base v' (L++[⟨k,rv,row⟩]):=by
 have i:Est w1 base (Cz rv row::(⟨v,217,2,ϲ L,ch.Bv (L.map CO.pair)⟩:Own1)::L.map λx=>Cz x.rv x.row):=Sf (x:=Cz rv row) h n (World.ownsRow.mono d (Est.low h)) (λg c=>(ch.AL d c).1);have j:=H4 (Hz i (List.Perm.swap _ _ _)) (bR.alloc nR o);have e:ϲ (L++[(⟨k,rv,row⟩:CO)])=ϲ L+1:=ϥ;have f:(L++[(⟨k,rv,row⟩:CO)]).map CO.pair=L.map CO.pair++[(k,rv)]:=by rw[DQ];rfl
 have l:=TW (x':=(⟨v',217,2,ϲ (L++[(⟨k,rv,row⟩:CO)]),ch.Bv ((L++[(⟨k,rv,row⟩:CO)]).map CO.pair)⟩:Own1)) j c (by rw[e,f];exact q) (λg c=>by
  rcases m g c with h|h
  ·exact .inl h
  ·right;simp;exact h)
 refine Hz l (LU (λa=>?_));simp only[DQ,P3,map_nil,cZ,dR,count_nil];omega
theorem CG.add2{L:List CO}{c:Int}{E:List Own1}(h:Est w base ((⟨v,217,2,ϲ L,ch.Bv (L.map CO.pair)⟩:Own1)::Cz rv row::Cz sv srow::L.map λx=>Cz x.rv x.row))(m:Ϣ w w1)(d:(w1.alloc o).grownBy w2 v.ownBlock)(n:w2.ownsRow base 217 2 v' (ϲ L+2) (ch.Bv (L.map CO.pair++[(k,rv),(c,sv)])))(l:∀g,v'.ownBlock=some g->v.ownBlock=some g\/w1.heap.size+1<=g):CG w2 base v' (L++[⟨k,rv,row⟩,⟨c,sv,srow⟩]):=by
 have i:=H4 (H4 h m) (bR.alloc nR o);have e:ϲ (L++[(⟨k,rv,row⟩:CO),⟨c,sv,srow⟩])=ϲ L+2:=ϥ;have f:(L++[(⟨k,rv,row⟩:CO),⟨c,sv,srow⟩]).map CO.pair=L.map CO.pair++[(k,rv),(c,sv)]:=by rw[DQ];rfl
 have j:=TW (x':=(⟨v',217,2,ϲ (L++[(⟨k,rv,row⟩:CO),⟨c,sv,srow⟩]),ch.Bv ((L++[(⟨k,rv,row⟩:CO),⟨c,sv,srow⟩]).map CO.pair)⟩:Own1)) i d (by rw[e,f];exact n) (λg d=>by
  rcases l g d with h|h
  ·exact .inl h
  ·right;simp;exact h)
 refine Hz j (LU (λa=>?_));simp only[DQ,P3,map_nil,cZ,dR,count_nil];omega
def CG.two{L:List CO}(h:CG w base v L)(j:Ϣ w w1)(e:AF w1 w rv row)(l:Ϣ w1 w2)(f:AF w2 w1 sv srow):Est w2 base ((⟨v,217,2,ϲ L,ch.Bv (L.map CO.pair)⟩:Own1)::Cz rv row::Cz sv srow::L.map λx=>Cz x.rv x.row):=by
 have d:=Sf (x:=Cz rv row) h j (World.ownsRow.mono e (Est.low h)) (λg c=>(ch.AL e c).1);have i:=Sf (x:=Cz sv srow) d l (World.ownsRow.mono f d.low) (λg c=>(ch.AL f c).1);refine Hz i (LU (λa=>?_));simp only[dR];omega
def CG.two2{L:List CO}(h:CG w base v L)(c:Ϣ w w1)(e:AF w1 w sv srow)(d:Ϣ w1 w2)(f:AF w2 w1 rv row):Est w2 base ((⟨v,217,2,ϲ L,ch.Bv (L.map CO.pair)⟩:Own1)::Cz rv row::Cz sv srow::L.map λx=>Cz x.rv x.row):=by
 refine Hz (h.two c e d f) (LU (λa=>?_));simp only[dR];omega
def CG.left{L:List CO}(h:Est w base ((⟨v,217,2,ϲ L,ch.Bv (L.map CO.pair)⟩:Own1)::Cz rv row::Cz sv srow::L.map λx=>Cz x.rv x.row)):CG w base v L:=by
 have c:Est w base ([Cz rv row,Cz sv srow]++((⟨v,217,2,ϲ L,ch.Bv (L.map CO.pair)⟩:Own1)::L.map λx=>Cz x.rv x.row)):=by
  refine Hz h (LU (λa=>?_));simp only[cZ,dR,count_nil];omega
 exact Adq c
theorem SG{o:Oper}(B:o.guard=none)(s x:Operand)
 (F:o.op= .call {callee:=.builtin .append,args:=#[s,x],argTypes:=#[53,53]})
 (base:Nat) (v:Value) (l:List (Int×Value)) (i:Int) (d:Value) (j:Int) (e:Value) (w1:ϟ) (c:Nat) (P:ϲ l=c) (D:w1.ownsRow base 217 2 v c (ch.Bv l)) (O:c<=1000000000) (M:base<=w1.heap.size) (R:d.oneCell'=true) (S:e.oneCell'=true)
 (G:a.eval s=v) (H:a.eval x=vS (ϋ w1) 2 2)
 (h:∀g f w2,w2.ownsRow base 217 2 (vS (ϋ g) (c+2) f) (c+2) (ch.Bv (l++[(i,d),(j,e)]))->(w1.alloc (.cells #[vI i,d,vI j,e] 217)).grownBy w2 v.ownBlock->(v.ownBlock=some g\/g=w1.heap.size+1)->g<w2.heap.size->wpList prog ops Q rest (a.put o.dst (vS (ϋ g) (c+2) f)) w2):
 wpList prog ops Q (o::rest) a (ϊ w1 #[vI i,d,vI j,e] 217):=by
 obtain⟨L,C,I,J,K⟩:=IR ch.AbP;refine wpList_append_lies _ B s x 53 F base 217 L (.agg #[Ϗ,ώ]) 2 32 underlying53 C I J K rfl Ϥ v c (ch.Bv l) G
  (D.alloc _) ⟨w1,0,none⟩ 2 2 [vI i,d,vI j,e] H rfl (Qe _ _ _ _ _ _) (by intro u m;simp at m;rcases m with rfl|rfl|rfl|rfl<;>first|rfl|assumption) Ϥ ϭ ϣ Ϩ (w1.heap.size+1) ϥ ?_
 intro g f w2 n q z A;refine h g f w2 ?_ q z A;rw[ch.Qx];exact n
def QS(L:List CO)(i:Nat)(h:i<ϲ L):(L.map CO.pair).getD i (0,.bool false)=((L.getD i ϰ).k,(L.getD i ϰ).rv)/\(L.map CO.chg).getD i ϰ=⟨(L.getD i ϰ).k,(L.getD i ϰ).row⟩:=by
 simp[gDe,h,CO.pair,CO.chg]
theorem CG.chgs{L:List CO}(h:CG w base v L):v=vS (UQ v) (ϲ L) (AaI v)/\ch.Gp w (UQ v) (L.map CO.chg):=by
 have j:=h.own;refine⟨SF j,λi C=>?_⟩;have d:i<ϲ L:=by simpa using C
 rcases j.2 with⟨m,F⟩|⟨g,c,D,m,_⟩
 ·omega
 ·have z:=RT j (g:=g) (by rw[m];rfl);obtain⟨q,u⟩:=ch.T5 (L.map CO.pair) i (by simpa using d);obtain⟨A,f⟩:=QS L i d;rw[A]at q u;have n:=z _ _ q;have e:=z _ _ u;rw[ch.Di,Fr]at n e;have l:AF w base (L.getD i ϰ).rv (L.getD i ϰ).row:=Est.own h (Cz (L.getD i ϰ).rv (L.getD i ϰ).row) (EQ _ (DS.2 ⟨L.getD i ϰ,by rw[gDe,gEe d];exact GE d,rfl⟩));have B:=SF l;rw[B]at l e;refine⟨g,0,UQ (L.getD i ϰ).rv,AaI (L.getD i ϰ).rv,by rw[m];rfl,?_,?_,?_⟩
  ·rw[f,Fr];exact n
  ·rw[f,Fr];exact e
  ·rw[f];exact vl.D5 l
theorem UR{o:Oper}(z:o.guard=none)(s x:Operand)
 (C:o.op= .call {callee:=.builtin .append,args:=#[s,x],argTypes:=#[53,53]})
 (base:Nat) (v:Value) (l:List (Int×Value)) (n:Int) (ad:Ϡ) (e cap:Nat) (w1:ϟ) (c:Nat) (M:ϲ l=c) (B:w1.ownsRow base 217 2 v c (ch.Bv l)) (L:c<=1000000000) (K:base<=w1.heap.size)
 (D:a.eval s=v) (F:a.eval x=vS (ϋ w1) 1 1)
 (h:∀g d w2,w2.ownsRow base 217 2 (vS (ϋ g) (c+1) d) (c+1) (ch.Bv (l++[(n,vS ad e cap)]))->(w1.alloc (.cells #[vI n,vS ad e cap] 217)).grownBy w2 v.ownBlock->(v.ownBlock=some g\/g=w1.heap.size+1)->g<w2.heap.size->wpList prog ops Q rest (a.put o.dst (vS (ϋ g) (c+1) d)) w2):
 wpList prog ops Q (o::rest) a (ϊ w1 #[vI n,vS ad e cap] 217):=by
 obtain⟨J,A,G,H,I⟩:=IR ch.AbP;refine wpList_append_lies _ z s x 53 C base 217 J (.agg #[Ϗ,ώ]) 2 32 underlying53 A G H I rfl Ϥ v c (ch.Bv l) D
  (B.alloc _) ⟨w1,0,none⟩ 1 1 [vI n,vS ad e cap] F rfl (fx _ _ _ _) (by intro u f;simp at f;rcases f with rfl|rfl<;>rfl) Ϥ ϭ ϣ Ϩ (w1.heap.size+1) ϥ ?_
 intro g d w2 i j m q;exact h g d w2 (by rw[ch.We];exact i) j m q
def MD(h:boxC w b p x s y t)(e:w'.heap[b]? =w.heap[b]?):boxC w' b p x s y t:=by
 have c:∀{i:Nat} {v:Value},Δ w b i v->Δ w' b i v:=λ{i v} g=>(cOb (w:=w) (a:=⟨b,i,none⟩) e).trans g;refine⟨?_,?_,c h.told,λj d=>?_⟩
 ·obtain⟨l,m,A,B,C,D,F,G,H,I,n,q,z⟩:=h.plan;exact⟨c l,c m,c A,c B,c C,c D,c F,c G,c H,c I,c n,c q,c z⟩
 ·obtain⟨u0,u1,u2,u3,u4,u5,u6,u7,u8⟩:=h.join;exact⟨c u0,c u1,c u2,c u3,c u4,c u5,c u6,c u7,c u8⟩
 ·obtain⟨u,f⟩:=cD.1 (h.room j d).1;exact⟨by rw[c f];rfl,(aG (w:=w) (a:=⟨b,0+j,none⟩) e).trans (h.room j d).2⟩
theorem QT(h:boxC w b p x s y t)(c:Value):boxC (ό w b 22 c) b p x s y c:=by
 refine⟨?_,?_,JR _ _ c h.told,λj d=>?_⟩
 ·obtain⟨g,i,q,z,A,B,C,D,F,G,l,m,n⟩:=h.plan;exact⟨cell_far g Ϥ,cell_far i Ϥ,cell_far q Ϥ,cell_far z Ϥ,cell_far A Ϥ,cell_far B Ϥ,cell_far C Ϥ,cell_far D Ϥ,cell_far F Ϥ,cell_far G Ϥ,cell_far l Ϥ,cell_far m Ϥ,cell_far n Ϥ⟩
 ·obtain⟨u0,u1,u2,u3,u4,u5,u6,u7,u8⟩:=h.join;exact⟨cell_far u0 Ϥ,cell_far u1 Ϥ,cell_far u2 Ϥ,cell_far u3 Ϥ,cell_far u4 Ϥ,cell_far u5 Ϥ,cell_far u6 Ϥ,cell_far u7 Ϥ,cell_far u8 Ϥ⟩
 ·exact⟨by
   obtain⟨u,e⟩:=cD.1 (h.room j d).1;obtain⟨H,f⟩:=fw (p:=⟨b,22,none⟩) (x:=c) e;rw[f];rfl,by rw[aD];exact(h.room j d).2⟩
def US(w w':World)(b:Nat)(t:Value):Prop:=Below 0 w w'/\(∀g,g<w.heap.size->g≠b->t.ownBlock≠some g->w'.heap[g]? =w.heap[g]?)/\∀T,bf.Am w b T->bf.Am w' b T
def P6{T:TypeId}{L:List CO}(h:CG w base v L)(i:bf.Am w b T)(h1:T≠217)(l:T≠119)(k:Nat)(u:Value):CG (ό w b k u) base v L:=by
 have e:Est w base ((⟨v,217,2,ϲ L,ch.Bv (L.map CO.pair)⟩:Own1)::L.map λx=>Cz x.rv x.row):=h;refine Est.mk (by have:=Est.low e;simpa[World.setCell]using this) (λz d=>?_) (Est.two e);have f:=Est.own e z d;refine bf.A4 f (λg j=>CB _ _ _ _ ?_);rcases E3.1 d with rfl|d
 ·exact bf.tyAt_apart (bf.Az f j) i h1.symm
 ·obtain⟨c,_,rfl⟩:=DS.1 d;exact bf.tyAt_apart (bf.Az f j) i l.symm
theorem Xu(b:Nat)(p:pl.Pln)(x:pl.PA)(s:Jn)(y:JX)(t:Value)(T:TypeId)(f:Ϡ)(j i:Nat)(row:List Cel)(L:List CO)(base:Nat)(d w:ϟ)(h:boxC w b p x s y t)(D:bf.Am w b T)(h1:T≠217)(O:T≠119)(u:CG d base t L)(n:Ϣ d w)(F:AF w d (vS f j i) row)(Y:ϲ L<=1000000):
 χ 357 #[ω b,vS f j i] w λe w'=>e= .returned (.tuple #[])/\∃G,boxC w' b p x s y G/\CG w' base G (L++[⟨1,vS f j i,row⟩])/\US w w' b t:=by
 have ht:=h.told;have z:=u.below n;have B:=z.own;have H:=hV0 h;have I:ϡ (CG d base t L/\Ϣ d w/\AF w d (vS f j i) row/\bf.Am w b T):=⟨u,n,F,D⟩;have aa:base<=w.heap.size:=Est.low z;have V:=h.lt;have ab:t.ownBlock≠some b:=λe=>bf.tyAt_apart (bf.Az B e) D h1.symm rfl;obtain⟨C,A⟩:=nM (ϲ L);have J:ϡ (ϲ (L.map CO.pair)=C):=by show _=_;rw[lMp,A]
 rw[A]at B Y;clear u n F h z;go_enter func357,ntmps357;go_wp2_with (at_builtin;refine UR rfl (.tmp 8) (.tmp 11) rfl base t (L.map CO.pair) 1 f j i w C J.o B ϣ aa rfl rfl ?_;intro g K w2 hx c R ae;have q:w2.heap[b]? =w.heap[b]? :=(c.block b Ϩ (λe=>ab e.symm)).trans (LE _ _ _ V);have l:ϡ (boxC w2 b p x s y t):=MD H.o q;have af:=l.o.told;have ad:Ξ w2 b 22:=(by have:=(l.o.room 22 Ϥ).2;simpa using this));refine cH (v:=.tuple #[]) (by simp[results,results357,go_sem]) rfl ⟨rfl,vS (ϋ g) (C+1) K,QT l.o _,?_,?_⟩
 ·obtain⟨k1,k2,k3,k4⟩:=I.o;exact P6 (CG.add k1 k2 k3 c (by rw[A];exact hx) (λm e=>by
   have M:g=m:=by cases e;rfl
   subst M;exact R.imp id (λe=>by omega))) (bf.A1 k4 q) h1 O _ _
 ·refine⟨⟨c.os,c.tape,c.output,by have:=c.size;simp[World.setCell]at this⊢;omega,λk X=>absurd X (CA k)⟩,λm Z S ac=>?_,λT' P=>bf.tyAt_set (bf.A1 P q) _ _⟩;rw[CB _ _ _ _ (by exact S)];exact(c.block m Ϩ (λe=>ac e.symm)).trans (LE _ _ _ Z)
theorem Adr(b:Nat)(p:pl.Pln)(x:pl.PA)(s:Jn)(y:JX)(t:Value)(T:TypeId)(d j:Ϡ)(i f m l:Nat)(row srow:List Cel)(L:List CO)(base:Nat)(w:ϟ)(h:boxC w b p x s y t)(D:bf.Am w b T)(h1:T≠217)(M:T≠119)(n:Est w base ((⟨t,217,2,ϲ L,ch.Bv (L.map CO.pair)⟩:Own1)::Cz (vS d i f) row::Cz (vS j m l) srow::L.map λx=>Cz x.rv x.row))(X:ϲ L<=1000000):
 χ 355 #[ω b,vS d i f,vS j m l] w λe w'=>e= .returned (.tuple #[])/\∃F,boxC w' b p x s y F/\CG w' base F (L++[⟨3,vS d i f,row⟩,⟨4,vS j m l,srow⟩])/\US w w' b t:=by
 have ht:=h.told;have B:w.ownsRow base 217 2 t (ϲ L) (ch.Bv (L.map CO.pair)):=Est.own n _ (E0 ..);have G:=hV0 h;have H:ϡ (Est w base ((⟨t,217,2,ϲ L,ch.Bv (L.map CO.pair)⟩:Own1)::Cz (vS d i f) row::Cz (vS j m l) srow::L.map λx=>Cz x.rv x.row)/\bf.Am w b T):=⟨n,D⟩;have Z:base<=w.heap.size:=Est.low n;have S:=h.lt;have aa:t.ownBlock≠some b:=λe=>bf.tyAt_apart (bf.Az B e) D h1.symm rfl;obtain⟨C,A⟩:=nM (ϲ L);have I:ϡ (ϲ (L.map CO.pair)=C):=by show _=_;rw[lMp,A]
 rw[A]at B X;clear n h;go_enter func355,ntmps355;go_wp2_with (at_builtin;refine SG rfl (.tmp 10) (.tmp 15) rfl base t (L.map CO.pair) 3 (vS d i f) 4 (vS j m l) w C I.o B ϣ Z rfl rfl rfl rfl ?_;intro g J w2 hx c P ad;have z:w2.heap[b]? =w.heap[b]? :=(c.block b Ϩ (λe=>aa e.symm)).trans (LE _ _ _ S);have q:ϡ (boxC w2 b p x s y t):=MD G.o z;have ae:=q.o.told;have ac:Ξ w2 b 22:=(by have:=(q.o.room 22 Ϥ).2;simpa using this));refine cH (v:=.tuple #[]) (by simp[results,results355,go_sem]) rfl ⟨rfl,vS (ϋ g) (C+2) J,QT q.o _,?_,?_⟩
 ·obtain⟨k1,k4⟩:=H.o;exact P6 (CG.add2 (E:=[]) k1 bR c (by rw[A];exact hx) (λu e=>by
   have K:g=u:=by cases e;rfl
   subst K;exact P.imp id (λe=>by omega))) (bf.A1 k4 z) h1 M _ _
 ·refine⟨⟨c.os,c.tape,c.output,by have:=c.size;simp[World.setCell]at this⊢;omega,λk V=>absurd V (CA k)⟩,λu Y R ab=>?_,λT' O=>bf.tyAt_set (bf.A1 O z) _ _⟩;rw[CB _ _ _ _ (by exact R)];exact(c.block u Ϩ (λe=>ab e.symm)).trans (LE _ _ _ Y)
end jn
namespace jn
open vl
attribute [local go_sem] Oper.semAt_some
def AaJ(m s:Int)(w:ϟ):
 χ 354 #[vI m,vI s] w λe w'=>e= .returned (.bool (Eo m s))/\w'=w:=by
 unfold Eo;by_cases c:m=2
 ·subst c;rw[AE rfl];go_enter func354,ntmps354;go_wp2;go_ret;exact⟨rfl,rfl⟩
 ·rw[AC c];have f:(m==2)=false:=by simpa using c
  clear c;by_cases d:m=3
  ·subst d;rw[AE rfl];go_enter func354,ntmps354;go_wp2;go_ret;exact⟨rfl,rfl⟩
  ·rw[AC d];have g:(m==3)=false:=by simpa using d
   clear d;go_enter func354,ntmps354;go_wp2;go_ret;exact⟨rfl,rfl⟩
theorem EJ(side:Int)(j l:Ϡ)(n u:Nat)(c d:List Cel)(w:ϟ)(X:0<ϲ c)(Y:0<ϲ d)(R:ϲ c<=400)(S:ϲ d<=400)(h1:vl.rowAt w j c)(B:vl.rowAt w l d):
 χ 353 #[vI side,vS j (ϲ c) n,vS l (ϲ d) u] w λe w'=>(∃f g,e= .returned (vS f (ϲ (DT side c d)) g)/\AF w' w (vS f (ϲ (DT side c d)) g) (DT side c d))/\Ϣ w w':=by
 unfold DT;by_cases h:side=2
 ·have m:ϡ (∀V,Ϣ w V->Δ V w 0 (vS l (ϲ d) u)->Δ V w 1 (vS j (ϲ c) n)->CT 364 #[vS (ϋ w) 2 2] V λe w'=>(∃f g,e= .returned (vS f (ϲ (d++c)) g)/\AF w' V (vS f (ϲ (d++c)) g) (d++c))/\Ϣ V w'):=λV A C D=>bt.MK w.heap.size l j u n d c V Y X S R (vl.Ac B A) (vl.Ac h1 A) C D;subst h;rw[AE rfl];obtain⟨J,L⟩:=nM (ϲ c);obtain⟨K,M⟩:=nM (ϲ d);rw[L,M]at m⊢;obtain⟨q,H⟩:=nM (ϲ (d++c));rw[H]at m⊢;clear h1 B;go_enter func353,ntmps353;go_wp2_with fail;generalize i:(World.alloc w _)=V;have z:Ϣ w V:=by rw[<-i];exact Ϯ
  have I:w.heap.size<=V.heap.size:=z.size;have O:Δ V w 0 (vS l K u):=by subst i;go_simp
  have P:Δ V w 1 (vS j J n):=by subst i;go_simp
  clear i;refine(m.o V z O P).mono ?_;rintro e w1 ⟨⟨f,g,rfl,G⟩,F⟩;go_wp2;go_ret;exact⟨⟨f,g,rfl,World.ownsRow.mono G I⟩,bT z F⟩
 ·have m:ϡ (∀V,Ϣ w V->Δ V w 0 (vS j (ϲ c) n)->Δ V w 1 (vS l (ϲ d) u)->CT 364 #[vS (ϋ w) 2 2] V λe w'=>(∃f g,e= .returned (vS f (ϲ (c++d)) g)/\AF w' V (vS f (ϲ (c++d)) g) (c++d))/\Ϣ V w'):=λV A C D=>bt.MK w.heap.size j l n u c d V X Y R S (vl.Ac h1 A) (vl.Ac B A) C D;have Z:(side==2)=false:=by simpa using h
  rw[AC h];obtain⟨J,L⟩:=nM (ϲ c);obtain⟨K,M⟩:=nM (ϲ d);rw[L,M]at m⊢;obtain⟨q,H⟩:=nM (ϲ (c++d));rw[H]at m⊢;clear h1 B;go_enter func353,ntmps353;go_wp2_with fail;generalize i:(World.alloc w _)=V;have z:Ϣ w V:=by rw[<-i];exact Ϯ
  have I:w.heap.size<=V.heap.size:=z.size;have O:Δ V w 0 (vS j J n):=by subst i;go_simp
  have P:Δ V w 1 (vS l K u):=by subst i;go_simp
  clear i;refine(m.o V z O P).mono ?_;rintro e w1 ⟨⟨f,g,rfl,G⟩,F⟩;go_wp2;go_ret;exact⟨⟨f,g,rfl,World.ownsRow.mono G I⟩,bT z F⟩
end jn
namespace jn
open vl bf
attribute [local go_sem] Oper.semAt_some
def Ep(p:pl.Pln)(v:Ev)(ra:Option Addr)(rc:Nat):Value:=.agg #[vI v.side,vI v.time,vS ra (ϲ v.row) rc,.string (pl.A0 p v.side v.row),.bool (pl.hasB p v.side v.row)]
theorem UT(p:pl.Pln)(x:pl.PA)(v:Ev)(g:Ϡ)(i:Nat)(w:ϟ)(L:pl.wfPlan p)(K:pl.planAt w p x)(m:evAt w v g):
 χ 155 #[pl.Ai p x,evV v g i] w (ψ w (Ep p v g i)):=by
 have h:=hIz (λ(w1:ϟ) (l:Ϣ w w1)=>pl.Q8 p x v.side g i v.row w1 L (pl.Ae K l) (vl.Ac m.row l) m.wf m.len);unfold Ep;obtain⟨Z,B⟩:=nM (pl.A0 p v.side v.row);obtain⟨l,C⟩:=nM (pl.hasB p v.side v.row);obtain⟨re,I⟩:=nM (pl.Bm p v.side v.row);rw[B,C,I]at h;rw[B,C];clear B C I L K m;unfold pl.Ai at h⊢;unfold evV;obtain⟨kd,X,tm,row⟩:=v;dsimp only at *;obtain⟨n,J⟩:=nM (ϲ row);rw[J]at h⊢;clear J;go_enter func155,ntmps155;go_wp2_with fail;generalize c:(World.alloc (World.alloc (World.alloc w _) _) _)=V;have D:Ϣ w V:=by rw[<-c];exact(Ϯ.alloc ϥ _).alloc Ϩ _
 have F:Δ V (w+1) 1 (vI X):=by subst c;go_simp
 have G:Δ V (w+1) 2 (vI tm):=by subst c;go_simp
 have H:Δ V (w+1) 3 (vS g n i):=by subst c;go_simp
 have j:Δ V (w+1+1) 0 (vI 0):=by subst c;go_simp
 have q:Δ V (w+1+1) 1 (vI 0):=by subst c;go_simp
 have u:Δ V (w+1+1) 2 (vS none 0 0):=by subst c;go_simp
 have z:Δ V (w+1+1) 3 (.string ⟨#[]⟩):=by subst c;go_simp
 have A:Δ V (w+1+1) 4 (.bool false):=by subst c;go_simp
 have M:Ξ V (w+1+1) 0:=by subst c;go_simp
 have O:Ξ V (w+1+1) 1:=by subst c;go_simp
 have P:Ξ V (w+1+1) 2:=by subst c;go_simp
 have R:Ξ V (w+1+1) 3:=by subst c;go_simp
 have S:Ξ V (w+1+1) 4:=by subst c;go_simp
 clear c;refine(h.o _ D).mono ?_;rintro e w1 ⟨rfl,d⟩;have Y:Ϣ w w1:=bT D d;have f:=bLt _ _ j;have zz:=lk8 d F G H j q u z A;clear F G H j q u z A;obtain⟨F,G,H,j,q,u,z,A⟩:=zz;replace M:=(d.frozen (p:=⟨w+1+1,0,none⟩) f).trans M;replace O:=(d.frozen (p:=⟨w+1+1,1,none⟩) f).trans O;replace P:=(d.frozen (p:=⟨w+1+1,2,none⟩) f).trans P;replace R:=(d.frozen (p:=⟨w+1+1,3,none⟩) f).trans R;replace S:=(d.frozen (p:=⟨w+1+1,4,none⟩) f).trans S;clear d D h f;go_wp2;exact CD (v:=.agg #[vI X,vI tm,vS g n i,.string Z,.bool l]) (by simp[results,results155,go_sem,j,q,u,z,A]) rfl ⟨rfl,((((Y.setCell ϩ _).setCell ϩ _).setCell ϩ _).setCell ϩ _).setCell ϩ _⟩
end jn
namespace jn
open vl bf
variable {p : pl.Pln} {s : Jn} {qs : List Int} {y : Ent} {side : Int} {b : Buf} {r : List Cel} {v : Ev}
structure okJ(p:pl.Pln)(s:Jn):Prop where
 L:okB s.L
 R:okB s.R
 lm:Dv s.lm=true
 rm:Dv s.rm=true
 sq:0<=s.seq/\s.seq<=1099511627776
 ll:s.L.lim=p.limit
 rl:s.R.lim=p.limit
 below:∀y∈Ab s.L++Ab s.R,y.seq<s.seq
 once:((Ab s.L++Ab s.R).map (·.seq)).Nodup
 rowL:∀y∈Ab s.L,FZ p 1 y=true
 rowR:∀y∈Ab s.R,FZ p 2 y=true
theorem Eh(h:AV p s=0):pl.Ag p=0/\okJ p s:=by
 unfold AV at h;by_cases d:pl.Ag p=0
 ·rw[AC (by simp[d])]at h;by_cases e:D6 s.L=0
  ·rw[AC (by simp[e])]at h;by_cases f:D6 s.R=0
   ·rw[AC (by simp[f])]at h
    cases h4:Ez s with
    |false=>rw[h4]at h;simp at h
    |true=>
     rw[h4,AC ϥ]at h
     cases h5:Ct p s with
     |false=>rw[h5]at h;simp at h
     |true=>
      unfold Ez at h4;unfold Ct at h5;simp only[G3]at h4 h5;obtain⟨⟨l,m⟩,g⟩:=h4;obtain⟨⟨⟨⟨n,q⟩,c⟩,i⟩,j⟩:=h5;unfold JW F3 at c;unfold I9 at i j;have c:=Fd c;unfold A8 at g;exact⟨d,ED e,ED f,l,m,by simpa using g,Fd n,Fd q,c.1,c.2,aT.1 i,aT.1 j⟩
   ·rw[AE f]at h;exact absurd h f
  ·rw[AE e]at h;exact absurd h e
 ·rw[AE d]at h;exact absurd h d
def okJ.none(e:pl.Ag p=0)(h:okJ p s):AV p s=0:=by
 have c:Ez s=true:=by
  unfold Ez A8;simp only[G3];exact⟨⟨h.lm,h.rm⟩,by simpa using h.sq⟩
 have d:Ct p s=true:=by
  unfold Ct JW F3 I9;simp only[G3];exact⟨⟨⟨⟨DB h.ll,DB h.rl⟩,DB ⟨h.below,h.once⟩⟩,aT.2 h.rowL⟩,aT.2 h.rowR⟩
 unfold AV;rw[AC (by simp[e]),AC (by simp[Gh h.L]),AC (by simp[Gh h.R]),c,AC ϥ,d,AC ϥ]
def Ads(qs:List Int)(y:Ent):AJ (metE qs y)=AJ y:=by unfold metE;split<;>rfl
def JO(qs:List Int)(y:Ent):(metE qs y).seq=y.seq:=by unfold metE;split<;>rfl
def LV(qs:List Int)(y:Ent):(metE qs y).key=y.key:=by unfold metE;split<;>rfl
def P7(qs:List Int)(y:Ent):(metE qs y).time=y.time:=by unfold metE;split<;>rfl
def N9(qs:List Int)(y:Ent):(metE qs y).row=y.row:=by unfold metE;split<;>rfl
def AgD(qs:List Int)(a b:Ent):ltP (metE qs a) (metE qs b)↔ltP a b:=by
 unfold ltP;rw[LV,LV,P7,P7,JO,JO]
def Adt(h:EK y):EK (metE qs y):=by
 unfold EK at *;rw[LV,N9,P7,JO];exact h
def Adu(h:wfE y/\wfP (AJ y)):wfE (metE qs y)/\wfP (AJ (metE qs y)):=by
 rw[Ads];refine⟨⟨?_,?_,?_⟩,h.2⟩
 ·rw[LV];exact h.1.key
 ·rw[N9];exact h.1.row
 ·rw[N9];exact h.1.len
def UU(h:FZ p side y=true):FZ p side (metE qs y)=true:=by
 unfold FZ at *;rw[LV,N9];exact h
def GD(qs:List Int)(b:Buf):Ab (DL qs b)=(Ab b).map (metE qs):=by
 unfold Ab partsB DL;simp[map_flatten]
theorem QU(qs:List Int)(h:okB b):okB (DL qs b):=by
 refine RU h.lim ?_ ?_ ?_ ?_ ?_ ?_
 ·show((ϲ (b.mem.map (metE qs)):Nat):Int)<=b.lim;rw[lMp];exact h.mem
 ·rw[GD,lMp];exact h.all
 ·rw[GD];intro y hy;obtain⟨z,g,rfl⟩:=DS.1 hy;exact Adt (h.entry g)
 ·intro l d;have e:∀m∈partsB b,DV (m.map (metE qs)):=λm c=>by
   have:=h.rises c;unfold DV at *;exact eY.2 (this.imp (λ{a b} k=>(AgD qs a b).2 k))
  rcases E3.1 d with rfl|d
  ·exact e b.mem (E0 ..)
  ·obtain⟨m,c,rfl⟩:=DS.1 d;exact e m (EQ _ c)
 ·intro r f;obtain⟨m,c,rfl⟩:=DS.1 f;rw[lMp];exact h.full m c
 ·rw[GD,aR];have:(AJ∘metE qs)=AJ:=funext (Ads qs);rw[this];exact h.once
def AaK(b:Buf)(y:Ent):(Ab (Dr b y)).Perm (y::Ab b):=TD (De _)
def Xv(h:okB b)(c:EK y)(d:bf.hasB (Ab b) (AJ y)=false)(e:ϲ (Ab b)≠4096):okB (Dr b y):=Z8 h c d e (De _) (UP _)
def Adv(b:Buf)(y:Ent):(Dr b y).lim=b.lim:=by unfold Dr IE;split<;>rfl
structure goodJ(p:pl.Pln)(s:Jn):Prop where
 ok:okJ p s
 wf:∀y∈Ab s.L++Ab s.R,wfE y/\wfP (AJ y)
def goodJ.of(h:goodJ p s)(side:Int):okB (Ar s side)/\(∀y∈Ab (Ar s side),wfE y/\wfP (AJ y)):=by
 unfold Ar;split
 ·exact⟨h.ok.R,λy hy=>h.wf y (Fk.2 (.inr hy))⟩
 ·exact⟨h.ok.L,λy hy=>h.wf y (Fk.2 (.inl hy))⟩
theorem Ic{s':Jn}(h:goodJ p s)(A:okB s'.L)(B:okB s'.R)(F:Dv s'.lm=true)(G:Dv s'.rm=true)(j:s'.seq=s.seq)(C:s'.L.lim=s.L.lim)(D:s'.R.lim=s.R.lim)
 (n u:Ent->Bool) (l m:List Int) (g:Ab s'.L=((Ab s.L).filter n).map (metE l)) (i:Ab s'.R=((Ab s.R).filter u).map (metE m)):goodJ p s':=by
 have d:∀y∈Ab s'.L,∃z∈Ab s.L,metE l z=y:=λy hy=>by
  rw[g]at hy;obtain⟨z,c,rfl⟩:=DS.1 hy;exact⟨z,(cF.1 c).1,rfl⟩
 have e:∀y∈Ab s'.R,∃z∈Ab s.R,metE m z=y:=λy hy=>by
  rw[i]at hy;obtain⟨z,c,rfl⟩:=DS.1 hy;exact⟨z,(cF.1 c).1,rfl⟩
 refine⟨⟨A,B,F,G,by rw[j];exact h.ok.sq,by rw[C];exact h.ok.ll,by rw[D];exact h.ok.rl,λy hy=>?_,?_,λy hy=>?_,λy hy=>?_⟩,λy hy=>?_⟩
 ·rw[j];rcases Fk.1 hy with hy|hy
  ·obtain⟨z,c,rfl⟩:=d y hy;rw[JO];exact h.ok.below z (Fk.2 (.inl c))
  ·obtain⟨z,c,rfl⟩:=e y hy;rw[JO];exact h.ok.below z (Fk.2 (.inr c))
 ·have f:∀q,((·.seq)∘metE q:Ent->Int)=(·.seq):=λq=>funext (JO q);rw[g,i,DQ,aR,aR,f,f,<-DQ];exact h.ok.once.sublist ((filter_sublist.append filter_sublist).map _)
 ·obtain⟨z,c,rfl⟩:=d y hy;exact UU (h.ok.rowL z c)
 ·obtain⟨z,c,rfl⟩:=e y hy;exact UU (h.ok.rowR z c)
 ·rcases Fk.1 hy with hy|hy
  ·obtain⟨z,c,rfl⟩:=d y hy;exact Adu (h.wf z (Fk.2 (.inl c)))
  ·obtain⟨z,c,rfl⟩:=e y hy;exact Adu (h.wf z (Fk.2 (.inr c)))
def Y0(y:Ent):metE [] y=y:=by unfold metE;simp
def GF(l:List Ent):(l.filter λ_=>true).map (metE [])=l:=by
 have:metE []=id:=funext Y0;rw[this,map_id];simp
def Y1(qs:List Int)(l:List Ent):(l.filter λ_=>true).map (metE qs)=l.map (metE qs):=by
 have:(l.filter λ_=>true)=l:=dB.2 (λ_ _=>rfl);rw[this]
def ME(f:Ent->Bool)(l:List Ent):(l.filter f).map (metE [])=l.filter f:=by
 have:metE []=id:=funext Y0;rw[this,map_id]
def LW(h:goodJ p s)(side:Int)(qs:List Int):goodJ p (AP s side (DL qs (Ar s side))):=by
 unfold AP Ar;by_cases e:side=2
 ·rw[AE e,AE e];exact Ic h h.ok.L (QU qs h.ok.R) h.ok.lm h.ok.rm rfl rfl rfl (λ_=>true) (λ_=>true) [] qs (GF _).symm (by rw[Y1];exact GD qs _)
 ·rw[AC e,AC e];exact Ic h (QU qs h.ok.L) h.ok.R h.ok.lm h.ok.rm rfl rfl rfl (λ_=>true) (λ_=>true) qs [] (by rw[Y1];exact GD qs _) (GF _).symm
def Y2(h:goodJ p s)(side c:Int)(ht:tm.Br c=true):goodJ p (Fy s side c):=by
 have d:Dv c=true:=by unfold Dv;rw[ht,Bool.or_true]
 unfold Fy;split
 ·exact Ic h h.ok.L h.ok.R h.ok.lm d rfl rfl rfl (λ_=>true) (λ_=>true) [] [] (GF _).symm (GF _).symm
 ·exact Ic h h.ok.L h.ok.R d h.ok.rm rfl rfl rfl (λ_=>true) (λ_=>true) [] [] (GF _).symm (GF _).symm
def QV(h:goodJ p s):goodJ p (Nh p s):=
 Ic (s':=Nh p s) h (Kq _ h.ok.L) (Kq _ h.ok.R) h.ok.lm h.ok.rm rfl rfl rfl (Fe (Df p s 1)) (Fe (Df p s 2)) [] [] (by rw[ME];exact J8 _ _) (by rw[ME];exact J8 _ _)
def Adw(h:goodJ p s):goodJ p (AgC s):=
 Ic (s':=AgC s) h h.ok.L (Kq _ h.ok.R) h.ok.lm h.ok.rm rfl rfl rfl (λ_=>true) _ [] [] (GF _).symm (by rw[ME];exact J8 _ _)
def UW(h:goodJ p s):goodJ p (E8 p s):=by
 unfold E8;split
 ·exact Adw (QV h)
 ·exact QV h
structure wfV(v:Ev):Prop where
 row:B8 v.row
 len:ϲ v.row<=ύ
def Aft(h:pl.hasB p side r=true):pl.Bm p side r=0:=by
 unfold pl.hasB at h;simp only[G3]at h;exact Fd h.1
theorem UX{g d:Int}{met:Bool}(f:pl.hasB p side r=true)(m:B8 r)(ht:tm.Br g=true)(l:0<=d/\d<=1099511627776):EK ⟨pl.A0 p side r,g,d,r,met⟩/\(pl.A0 p side r).size<=1048:=by
 have h:=pl.F8 (Aft f);have j:=pl.keys_in (side:=side) h.1;have c:rowOk (pl.Cb p side r):=pl.Sa ϣ (by rw[h.2.2.1];exact j.1) h.2.2.2.1 m;have q:ϲ r<=8:=by
  rw[h.2.2.1];have:=pl.Dm (pl.Bt h.1).2.2.1;unfold pl.A9;split<;>omega
 have e:encR (pl.Cb p side r)=(pl.A0 p side r).data.toList:=by unfold pl.A0;rw[AE f]
 refine⟨⟨⟨_,c,e⟩,?_,ht,l⟩,?_⟩
 ·show Aq r=0;unfold Aq;rw[AC ϣ];exact h.2.2.2.1
 ·have n:=UG c;have i:=LP c;have:(pl.A0 p side r).size=(FY (pl.Cb p side r)).size:=by
   show(pl.A0 p side r).data.size=(FY (pl.Cb p side r)).data.size;rw[<-bS,<-bS,<-e,i]
  omega
def QW{l:List Ent}{n:Int}{k:ByteArray}{t:Int}(h:∀y∈l,y.seq<n):bf.hasB l (k,t,n)=false:=by
 unfold bf.hasB;rw[cS];intro y hy e;have:=h y hy;have e:=Fd e;unfold AJ at e;injection e with _ e
 injection e with _ e
 omega
structure comeJ(p:pl.Pln)(s:Jn)(v:Ev):Prop where
 side:pl.Bw v.side=true
 time:tm.Br v.time=true
 err:pl.Bm p v.side v.row=0
 late:BJ s v.side<v.time
 sq:s.seq≠1099511627776
 few:ϲ (Ab (Ar s v.side))≠4096
theorem Y3(h:AN p s v=0)(i:v.kind≠2):comeJ p s v:=by
 unfold AN at h;by_cases d:¬(v.kind=1\/v.kind=2)\/pl.Bw v.side=false
 ·rw[AE d]at h;cases h
 ·rw[AC d]at h;have j:pl.Bw v.side=true:=by
   cases e:pl.Bw v.side with
   |true=>rfl
   |false=>exact absurd (.inr e) d
  cases h2:tm.Br v.time with
  |false=>rw[h2]at h;simp at h
  |true=>
   rw[h2,AC ϥ,AC i]at h;by_cases c:pl.Bm p v.side v.row=0
   ·rw[AC (by simp[c])]at h;by_cases g:v.time<=BJ s v.side
    ·rw[AE g]at h;cases h
    ·rw[AC g]at h;by_cases f:s.seq=1099511627776\/ϲ (Ab (Ar s v.side))=4096
     ·rw[AE f]at h;cases h
     ·exact⟨j,h2,c,ϣ,λe=>f (.inl e),λe=>f (.inr e)⟩
   ·rw[AE c]at h;exact absurd h c
theorem Y4(h:AN p s v=0)(g:v.kind=2):pl.Bw v.side=true/\tm.Br v.time=true/\(ϲ v.row)=0/\BJ s v.side<=v.time:=by
 unfold AN at h;by_cases c:¬(v.kind=1\/v.kind=2)\/pl.Bw v.side=false
 ·rw[AE c]at h;cases h
 ·rw[AC c]at h;have i:pl.Bw v.side=true:=by
   cases e:pl.Bw v.side with
   |true=>rfl
   |false=>exact absurd (.inr e) c
  cases h2:tm.Br v.time with
  |false=>rw[h2]at h;simp at h
  |true=>
   rw[h2,AC ϥ,AE g]at h;by_cases d:0<ϲ v.row
   ·rw[AE d]at h;cases h
   ·rw[AC d]at h;by_cases f:v.time<BJ s v.side
    ·rw[AE f]at h;cases h
    ·exact⟨i,rfl,ϣ,ϣ⟩
def side_is(h:pl.Bw side=true):side=1\/side=2:=by unfold pl.Bw at h;simpa using h
theorem MF(h:goodJ p s)(i:comeJ p s v)(A:wfV v)(met:Bool):goodJ p (Fs p s v met):=by
 have q:0<=s.seq+1/\s.seq+1<=1099511627776:=by have:=h.ok.sq;have:=i.sq;omega
 unfold Fs;by_cases l:pl.hasB p v.side v.row=true/\Df p s v.side<v.time
 ·rw[AE l];obtain⟨D,G⟩:=UX (met:=met) l.1 A.row i.time h.ok.sq;have B:wfE ⟨pl.A0 p v.side v.row,v.time,s.seq,v.row,met⟩/\wfP (AJ ⟨pl.A0 p v.side v.row,v.time,s.seq,v.row,met⟩):=by
   refine⟨⟨B0 G Ϥ,A.row,A.len⟩,?_⟩;have u:=i.time;unfold tm.Br at u;have u:=Fd u;have:=h.ok.sq;exact⟨B0 G Ϥ,⟨by show _<=v.time;omega,by show v.time<=_;omega⟩,⟨by show _<=s.seq;omega,by show s.seq<=_;omega⟩⟩
  have j:FZ p v.side ⟨pl.A0 p v.side v.row,v.time,s.seq,v.row,met⟩=true:=by
   unfold FZ;simp only[G3];exact⟨⟨DB i.err,l.1⟩,ϥ⟩
  have I:bf.hasB (Ab (Ar s v.side)) (pl.A0 p v.side v.row,v.time,s.seq)=false:=QW (λy hy=>h.ok.below y (by
   unfold Ar at hy;split at hy
   ·exact Fk.2 (.inr hy)
   ·exact Fk.2 (.inl hy)))
  have f:=Xv (h.of v.side).1 D I i.few;have c:=AaK (Ar s v.side) ⟨pl.A0 p v.side v.row,v.time,s.seq,v.row,met⟩;have d:=Adv (Ar s v.side) ⟨pl.A0 p v.side v.row,v.time,s.seq,v.row,met⟩;have F:s.seq ∉ (Ab s.L++Ab s.R).map (·.seq):=λH=>by
   obtain⟨y,hy,e⟩:=DS.1 H;have:=h.ok.below y hy;omega
  obtain⟨E,n⟩:∃z:Ent,⟨pl.A0 p v.side v.row,v.time,s.seq,v.row,met⟩=z:=⟨_,rfl⟩;have C:E.seq=s.seq:=by rw[<-n]
  rw[n]at D B j f c d⊢;clear n;unfold AP;rcases side_is i.side with e|e
  ·rw[AC ϣ];rw[e]at j f c d;rw[e];have m:Ar s 1=s.L:=by unfold Ar;rw[AC Ϥ]
   rw[m]at f c d⊢;have g:(Ab (Dr s.L E)++Ab s.R).Perm (E::(Ab s.L++Ab s.R)):=by
    have:=c.append_right (Ab s.R);simpa using this
   refine⟨⟨f,h.ok.R,h.ok.lm,h.ok.rm,q,by rw[d];exact h.ok.ll,h.ok.rl,λy hy=>?_,?_,λy hy=>?_,h.ok.rowR⟩,λy hy=>?_⟩
   ·show y.seq<s.seq+1;rcases E3.1 (g.mem_iff.1 hy)with rfl|hy
    ·omega
    ·have:=h.ok.below y hy;omega
   ·refine((g.map (·.seq)).nodup_iff).2 ?_;rw[P3,eW,C];exact⟨F,h.ok.once⟩
   ·rcases E3.1 (c.mem_iff.1 hy)with rfl|hy
    ·exact j
    ·exact h.ok.rowL y hy
   ·rcases E3.1 (g.mem_iff.1 hy)with rfl|hy
    ·exact B
    ·exact h.wf y hy
  ·rw[AE e];rw[e]at j f c d;rw[e];have m:Ar s 2=s.R:=by unfold Ar;rw[AE rfl]
   rw[m]at f c d⊢;have g:(Ab s.L++Ab (Dr s.R E)).Perm (E::(Ab s.L++Ab s.R)):=by
    have:=c.append_left (Ab s.L);exact this.trans perm_middle
   refine⟨⟨h.ok.L,f,h.ok.lm,h.ok.rm,q,h.ok.ll,by rw[d];exact h.ok.rl,λy hy=>?_,?_,h.ok.rowL,λy hy=>?_⟩,λy hy=>?_⟩
   ·show y.seq<s.seq+1;rcases E3.1 (g.mem_iff.1 hy)with rfl|hy
    ·omega
    ·have:=h.ok.below y hy;omega
   ·refine((g.map (·.seq)).nodup_iff).2 ?_;rw[P3,eW,C];exact⟨F,h.ok.once⟩
   ·rcases E3.1 (c.mem_iff.1 hy)with rfl|hy
    ·exact j
    ·exact h.ok.rowR y hy
   ·rcases E3.1 (g.mem_iff.1 hy)with rfl|hy
    ·exact B
    ·exact h.wf y hy
 ·rw[AC l];exact⟨⟨h.ok.L,h.ok.R,h.ok.lm,h.ok.rm,q,h.ok.ll,h.ok.rl,λy hy=>by have:=h.ok.below y hy;show y.seq<s.seq+1;omega,h.ok.once,h.ok.rowL,h.ok.rowR⟩,h.wf⟩
def LX(c:comeJ p s v)(side:Int)(qs:List Int):comeJ p (AP s side (DL qs (Ar s side))) v:=by
 refine⟨c.side,c.time,c.err,?_,?_,?_⟩
 ·have:=c.late;have e:BJ (AP s side (DL qs (Ar s side))) v.side=BJ s v.side:=by
   unfold AP;split<;>rfl
  rw[e];exact this
 ·have:=c.sq;unfold AP;split<;>exact this
 ·have:=c.few;unfold AP Ar at *;by_cases d:side=2<;>by_cases f:v.side=2<;>simp only[d,f,bE,bK,GD,lMp]at this⊢ <;>first|exact this|(rw[GD,lMp];exact this)
def good_row(h:goodJ p s)(c:comeJ p s v)(d:wfV v):goodJ p (IG p s v).1:=by
 unfold IG;split
 ·split
  ·exact MF h c d _
  ·have g:Ar s 1=s.L:=by unfold Ar;rw[AC Ϥ]
   have e:=LW h 1 ((I6 p s v).map (·.seq));have f:=LX c 1 ((I6 p s v).map (·.seq));rw[g]at e f;exact MF e f d _
 ·exact MF (LW h _ _) (LX c _ _) d _
def good_step(h:∀y∈Ab s.L++Ab s.R,wfE y/\wfP (AJ y))(g:wfV v)(h0:(stepJ p s v).1=0):goodJ p (stepJ p s v).2.1:=by
 unfold stepJ at h0⊢;by_cases d:AV p s=0
 ·rw[AC (by simp[d])]at h0⊢;have f:goodJ p s:=⟨(Eh d).2,h⟩;by_cases c:AN p s v=0
  ·rw[AC (by simp[c])]at h0⊢;by_cases e:v.kind=2
   ·rw[AE e];exact UW (Y2 f v.side v.time (Y4 c e).2.1)
   ·rw[AC e];exact good_row f (Y3 c e) g
  ·rw[AE c]at h0;exact absurd h0 c
 ·rw[AE d]at h0;exact absurd h0 d
attribute [local go_sem] Oper.semAt_some
theorem Xw(p:pl.Pln)(x:pl.PA)(w:ϟ)(u:pl.wfPlan p)(q:pl.planAt w p x)(h0:pl.Ag p=0):
 χ 45 #[pl.Ai p x] w (ψ w (.tuple #[enV ⟨Db p,[]⟩ ex0,Ϗ])):=by
 have d:ϡ (∀w1,Ϣ w w1->CT 95 #[pl.Ai p x] w1 (ψ w1 (.tuple #[joinV (Db p) jx0,Ϗ]))):=λw1 A=>by
  have:=ZZ p x w1 u (pl.Ae q A);rw[h0]at this;exact this
 obtain⟨S,m⟩:=nM (Db p);rw[m]at d⊢;clear m u q h0;unfold pl.Ai at d⊢;rw[AU]at d;go_enter func45,ntmps45;go_wp2_with fail;generalize f:(World.alloc (World.alloc w _) _)=V;have h:Ϣ w V:=by rw[<-f];exact Ϯ.alloc ϥ _
 have c:ϡ (GJ V (w.heap.size+1)):=by
  subst f;have:=Jb (ϊ w (Φ p x) 32);rw[D0]at this;exact this
 clear f;refine(d.o _ h).mono ?_;rintro e w1 ⟨rfl,i⟩;have C:Ϣ w w1:=bT h i;replace c:ϡ (GJ w1 (w.heap.size+1)):=Ca c.o i;clear i h d;go_upto_region 4 with fail;generalize g:(World.alloc w1 _)=w2;have n:Ϣ w1 w2:=by rw[<-g];exact Ϯ
 have z:ϡ (BU w2 w1 S jx0):=by
  subst g;exact C5 ..
 clear g;have B:Ϣ w w2:=bT C n;obtain⟨X,Y,Z,q3,q4,q5,q6,q7,q8⟩:=z.o;replace c:ϡ (GJ w2 (w.heap.size+1)):=Ca c.o n;have l:ϡ ((World.setCells w2 (w.heap.size+1) 0 (ν S jx0.l jx0.r [ώ,ώ])).rangeAt (w.heap.size+1) 0 (ν S jx0.l jx0.r [ώ,ώ])):=Gs c.o rfl;have j:ϡ (Ϣ w (World.setCells w2 (w.heap.size+1) 0 (ν S jx0.l jx0.r [ώ,ώ]))):=below_setCells ϣ _ 0 _ B;go_wp2_with ((with_reducible refine Ft ?_ 42 (.tmp 2) (.tmp 16) ?_ (w.heap.size+1) 0 (ζ S jx0.l jx0.r [ώ,ώ]) ?_ ?_ ?_ ?_ ?_ ?_);exact rfl;exact rfl;exact rfl;exact rfl;exact c.o;exact Kr;exact Ϭ);generalize (World.setCells w2 (w.heap.size+1) 0 (ν S jx0.l jx0.r [ώ,ώ]))=R at l j⊢;obtain⟨D,F,H,I,J,K,L,M,O,P,G⟩:=TU l.o;exact CD (v:=.tuple #[.agg (ζ S jx0.l jx0.r [ώ,ώ]),Ϗ]) (by simp[results,results45,go_sem,D,F,H,I,J,K,L,M,O,P,G]) rfl ⟨rfl,j.o⟩
end jn
