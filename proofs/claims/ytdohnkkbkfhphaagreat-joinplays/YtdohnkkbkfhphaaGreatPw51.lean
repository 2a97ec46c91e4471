import Derived.Test.YtdohnkkbkfhphaaGreatPw47
import Derived.Test.YtdohnkkbkfhphaaGreatPw48
import Derived.Test.YtdohnkkbkfhphaaGreatPw50
set_option linter.all false
set_option maxHeartbeats 8000000
set_option maxRecDepth 100000
open Go.ChangeShapes Go.WideShapes Go.ChangeAt Go.RowKit
namespace Go.Proofs.YtdohnkkbkfhphaaGreat
open Go.Proofs.Tryz
namespace jn
open vl bf
attribute [local go_sem] Oper.semAt_some
theorem Qa(p:pl.Pln)(x:pl.PA)(s:Jn)(y:JX)(v:Ev)(a:Ϝ)(c:Nat)(w:ϛ)(i:pl.wfPlan p)(f:pl.planAt w p x)(h:joinAt w s y)(h0:pl.Al p=0)(d:goodJ p s)(b:comeJ p s v)(g:evAt w v a):
 η 52 #[pl.Ak p x,joinV s y,evV v a c] w λe k=>(∃l j L,e= .returned (.tuple #[joinV (CB p s v).1 l,j])/\L.map CO.chg=(CB p s v).2/\stepAt w k (CB p s v).1 l j L)/\Ϟ w k:=
 (side_is b.side).elim (λe=>TC p x s y v a c w i f h h0 d b g e) (λe=>UZ p x s y v a c w i f h h0 d b g e)
theorem stepAt.later{w c W b:ϛ}{s:Jn}{y:JX}{t:Value}{L:List CO}(h:stepAt c W s y t L)(h1:Ϟ w c)(a:Ϟ W b):stepAt w b s y t L:=
 ⟨A5 (h.l.below a) h1.size,A5 (h.r.below a) h1.size,Ds (h.cg.below a) h1.size⟩
theorem OO(p:pl.Pln)(x:pl.PA)(s:Jn)(y:JX)(v:Ev)(l:Ϝ)(q:Nat)(w:ϛ)(hw:pl.wfPlan p)(hp:pl.planAt w p x)(h:joinAt w s y)(ad:wfJ s)(hE:∀z∈Aa s.L++Aa s.R,wfE z/\z.key.size<=140737488355328/\z.row.length<=2000000)(hv:evAt w v l):
 η 17 #[pl.Ak p x,joinV s y,evV v l q] w λe c=>(∃d t L,e= .returned (.tuple #[joinV (stepJ p s v).2.1 d,t,vI (stepJ p s v).1])/\L.map CO.chg=(stepJ p s v).2.2/\stepAt w c (stepJ p s v).2.1 d t L)/\Ϟ w c:=by
 have HG:ϝ (B6 p s=0->goodJ p s):=λo=>⟨(Cd o).2,λz g=>by
  rcases List.mem_append.1 g with g|g
  ·exact ad.l.ents z g
  ·exact ad.r.ents z g⟩
 have KC:=hIz (λ(a:ϛ) (i:Ϟ w a)=>R7 p x s y a hw (pl.Aj hp i) (h.below i) hE ad.l.size ad.r.size);have u:ϝ (B6 p s=0->∀a,Ϟ w a->CT 50 #[pl.Ak p x,jn.joinV s y,.agg (Θ v l q)] a (θ a (vI (AB p s v)))):=λo a i=>N8 p x s y v l q a hw (pl.Aj hp i) (h.below i) (Cd o).1 (Cd o).2 (hv.below i);have r:ϝ (B6 p s=0->AB p s v=0->v.kind=2->∀a,Ϟ w a->CT 51 #[pl.Ak p x,jn.joinV s y,.agg (Θ v l q)] a λe c=>(∃d,e= .returned (.agg (Ψ (Bu p (BS s v.side v.time)) d))/\stepAt a c (Bu p (BS s v.side v.time)) d (vS none 0 0) [])/\Ϟ a c):=λo am hk a i=>by
  have hm:=QJ am hk;refine(Qm p x s y v l q a (h.below i) (Cd o).1 (HG.o o) (side_is hm.1) hm.2.1).mono ?_;rintro e c ⟨⟨d,rfl,hl,hr⟩,ay⟩;exact⟨⟨d,rfl,hl,hr,CG.start ay.size⟩,ay⟩
 have m:ϝ (B6 p s=0->AB p s v=0->v.kind≠2->∀a,Ϟ w a->CT 52 #[pl.Ak p x,jn.joinV s y,.agg (Θ v l q)] a λe c=>(∃d T L,e= .returned (.tuple #[.agg (Ψ (CB p s v).1 d),T])/\L.map CO.chg=(CB p s v).2/\stepAt a c (CB p s v).1 d T L)/\Ϟ a c):=λo am hk a i=>Qa p x s y v l q a hw (pl.Aj hp i) (h.below i) (Cd o).1 (HG.o o) (Mx am hk) (hv.below i);have b:ϝ (stepJ p s v=if B6 p s≠0 then(B6 p s,j0,[])else if AB p s v≠0 then(AB p s v,j0,[])else if v.kind=2 then(0,Bu p (BS s v.side v.time),[])else(0,CB p s v)):=rfl;obtain⟨SJ,ax⟩:=nM (stepJ p s v);rw[ax]at b⊢;obtain⟨JE,av⟩:=nM (B6 p s);obtain⟨EE,ar⟩:=nM (AB p s v);obtain⟨FJ,au⟩:=nM (Bu p (BS s v.side v.time));obtain⟨RJ,aw⟩:=nM (CB p s v);obtain⟨W,NL⟩:=RJ;rw[av]at KC u r m b;rw[ar]at u r m b;rw[au]at r b;rw[aw]at m b;dsimp only at m;clear hw hp h ad hE hv ax av ar au aw HG;unfold pl.Ak;rw[A0];unfold evV;obtain⟨S,sd,tv,an⟩:=v;dsimp only at u r m b⊢;obtain⟨n,hn⟩:=nM an.length;rw[hn]at u r m;rw[hn];go_enter func17,ntmps17;go_upto_region 1 with fail;generalize Q:(World.alloc (World.alloc (World.alloc (World.alloc w _) _) _) _)=V;have ak:Ϟ w V:=by rw[<-Q];exact((Ϫ.alloc ϡ _).alloc Ϥ _).alloc Ϥ _
 have HP:ϝ (boxP V w p x):=by
  subst Q;exact Ad (Ad (Ad (BL ..) Ϫ) Ϫ) Ϫ
 have HJ:ϝ (AK V (w+1) s y):=by
  subst Q;have:=AL (ξ w (Φ p x) 25) s y 31;rw[World.size_alloc]at this;exact Ah (Ah this Ϫ) Ϫ
 have HE:ϝ (Hv V (w+1+1) ⟨S,sd,tv,an⟩ l q):=by
  subst Q;refine⟨?_,?_,?_,?_⟩<;>go_simp
 have HZ:ϝ (noJ V (w+1+1+1)/\An V (w+1+1+1) 31):=by
  subst Q;have:=Fg (ξ (ξ (ξ w (Φ p x) 25) (Ψ s y) 31) #[vI S,vI sd,vI tv,vS l n q] 43);rw[World.size_alloc,World.size_alloc,World.size_alloc]at this;exact⟨this.1,this.2.1⟩
 clear Q;have HN:=hV0 hn;clear hn;have C:ϝ (∀c,Ϟ V c->boxP c w p x/\AK c (w+1) s y/\Hv c (w+1+1) ⟨S,sd,tv,an⟩ l q/\noJ c (w+1+1+1)/\An c (w+1+1+1) 31):=λc g=>⟨Ad HP.o g,Ah HJ.o g,De HE.o g,Ay HZ.o.1 g,Ae HZ.o.2 g⟩;clear HP HJ HE HZ;obtain⟨⟨v0,v1,v2,v3,v4,v5,v6,v7,v8,v9,ae,af,ag⟩,⟨u0,u1,u2,u3,u4,u5,u6,u7,u8⟩,_⟩:=C.o _ bR;go_upto_region 2 with(go_at_call 15;refine(KC.o _ ak).mono ?_;rintro e a ⟨rfl,ab⟩);clear v0 v1 v2 v3 v4 v5 v6 v7 v8 v9 ae af ag u0 u1 u2 u3 u4 u5 u6 u7 u8 KC;have aj:Ϟ w a:=bT ak ab;by_cases j1:JE=0
 case neg=>
  have t1:(JE !=0)=true:=by simpa using j1
  rw[if_pos j1]at b;have f:ϝ (noJ a (w+1+1+1)/\An a (w+1+1+1) 31):=(C.o _ ab).2.2.2;have B:ϝ (Ϟ w a):=aj;go_wp2_with ((with_reducible refine wpList_store_mid ?_ 31 (.tmp 6) (.tmp 18) ?_ (w.heap.size+1+1+1) 0 #[ω,ψ,ψ,ω,ψ,ψ,ω,ω,ω] ?_ ?_ ?_ ?_ ?_ ?_);exact rfl;exact rfl;exact rfl;exact rfl;exact f.o.1;exact BU;exact Ϩ);have j:=Ss (R:=(w.heap.size+1+1+1)) ϟ f.o.1 B.o;generalize (World.setCells _ (w.heap.size+1+1+1) 0 _)=W9 at j⊢;obtain⟨⟨F,G,H,I,J,K,M,N,O⟩,k⟩:=j;exact bodyPost_ret (v:=.tuple #[.agg #[ω,ψ,ψ,ω,ψ,ψ,ω,ω,ω],ψ,vI JE]) (by simp[results,results17,go_sem,A0,F,G,H,I,J,K,M,N,O]) rfl ⟨⟨jx0,_,[],by rw[b.o];rfl,by rw[b.o];rfl,by rw[b.o];exact k.1⟩,k.2⟩
 subst j1;rw[if_neg Ϡ]at b;obtain⟨⟨v0,v1,v2,v3,v4,v5,v6,v7,v8,v9,ae,af,ag⟩,⟨u0,u1,u2,u3,u4,u5,u6,u7,u8⟩,⟨X,Y,Z,E⟩,_⟩:=C.o _ ab;dsimp only at X Y Z E;rw[HN.o]at E;have ao:=u.o rfl;replace u:ϝ (∀a,Ϟ w a->_):=ao;clear ao;go_upto_region 5 with(go_at_call 50;refine(u.o _ aj).mono ?_;rintro e P ⟨rfl,az⟩);clear v0 v1 v2 v3 v4 v5 v6 v7 v8 v9 ae af ag u0 u1 u2 u3 u4 u5 u6 u7 u8 X Y Z E u;have aa:Ϟ V P:=bT ab az;have D:Ϟ w P:=bT ak aa;clear aj ab az;by_cases j2:EE=0
 case neg=>
  have t1:(EE !=0)=true:=by simpa using j2
  rw[if_pos j2]at b;have f:ϝ (noJ P (w+1+1+1)/\An P (w+1+1+1) 31):=(C.o _ aa).2.2.2;have B:ϝ (Ϟ w P):=D;go_wp2_with ((with_reducible refine wpList_store_mid ?_ 31 (.tmp 6) (.tmp 26) ?_ (w.heap.size+1+1+1) 0 #[ω,ψ,ψ,ω,ψ,ψ,ω,ω,ω] ?_ ?_ ?_ ?_ ?_ ?_);exact rfl;exact rfl;exact rfl;exact rfl;exact f.o.1;exact BU;exact Ϩ);have j:=Ss (R:=(w.heap.size+1+1+1)) ϟ f.o.1 B.o;generalize (World.setCells _ (w.heap.size+1+1+1) 0 _)=W9 at j⊢;obtain⟨⟨F,G,H,I,J,K,M,N,O⟩,k⟩:=j;exact bodyPost_ret (v:=.tuple #[.agg #[ω,ψ,ψ,ω,ψ,ψ,ω,ω,ω],ψ,vI EE]) (by simp[results,results17,go_sem,A0,F,G,H,I,J,K,M,N,O]) rfl ⟨⟨jx0,_,[],by rw[b.o];rfl,by rw[b.o];rfl,by rw[b.o];exact k.1⟩,k.2⟩
 subst j2;rw[if_neg Ϡ]at b;obtain⟨⟨v0,v1,v2,v3,v4,v5,v6,v7,v8,v9,ae,af,ag⟩,⟨u0,u1,u2,u3,u4,u5,u6,u7,u8⟩,⟨X,Y,Z,E⟩,_⟩:=C.o _ aa;dsimp only at X Y Z E;rw[HN.o]at E;by_cases A:S=2
 ·have t1:(S==2)=true:=by rw[A];rfl
  rw[if_pos A]at b;have ap:=r.o ϧ ϧ A;replace r:ϝ (∀a,Ϟ w a->_):=ap;clear ap A m;have a2:ϝ (∀c,Ϟ P c->noJ c (w+1+1+1)/\An c (w+1+1+1) 31):=λc g=>(C.o _ (bT aa g)).2.2.2;go_wp2_with (first|(go_at_call 51;refine(r.o _ D).mono ?_;rintro e U ⟨⟨d,rfl,ac⟩,ah⟩;have f:=a2.o _ ah;have f:ϝ _:=f;have ai:ϝ _:=ac.later D bR;have B:ϝ _:=bT D ah;clear ac)|((with_reducible refine wpList_store_mid ?_ 31 (.tmp 6) (.tmp 34) ?_ (w.heap.size+1+1+1) 0 (Ψ FJ d) ?_ ?_ ?_ ?_ ?_ ?_);exact rfl;exact rfl;exact rfl;exact rfl;exact f.o.1;exact BU;exact Ϩ));have j:=It (R:=(w.heap.size+1+1+1)) ϟ f.o.1 f.o.2 ai.o B.o;generalize (World.setCells _ (w.heap.size+1+1+1) 0 _)=W9 at j⊢;obtain⟨⟨F,G,H,I,J,K,M,N,O⟩,k⟩:=j;exact bodyPost_ret (v:=.tuple #[joinV FJ d,ψ,ω]) (by simp[results,results17,go_sem,A0,F,G,H,I,J,K,M,N,O]) rfl ⟨⟨d,_,[],by rw[b.o],by rw[b.o];rfl,by rw[b.o];exact k.1⟩,k.2⟩
 ·have t1:(S==2)=false:=by simpa using A
  rw[if_neg A]at b;have aq:=m.o ϧ ϧ A;replace m:ϝ (∀a,Ϟ w a->_):=aq;clear aq A r;go_upto_region 10 with(go_at_call 52;refine(m.o _ D).mono ?_;rintro e U ⟨⟨d,T,L,rfl,hL,ac⟩,ah⟩);clear v0 v1 v2 v3 v4 v5 v6 v7 v8 v9 ae af ag u0 u1 u2 u3 u4 u5 u6 u7 u8 X Y Z E;have hX:=AL U W d 31;have al:Ϟ U (ξ U (Ψ W d) 31):=Ϫ;obtain⟨XB,a3⟩:=nM U.heap.size;rw[a3]at hX⊢;generalize (World.alloc U _)=w4 at hX al⊢;have a0:Ϟ P w4:=bT ah al;have f:ϝ (noJ w4 (w+1+1+1)/\An w4 (w+1+1+1) 31):=(C.o _ (bT aa a0)).2.2.2;have ai:ϝ (stepAt w w4 W d T L):=ac.later D al;have B:ϝ (Ϟ w w4):=bT D a0;have a1:=hV0 hL;clear ac hL;obtain⟨c0,c1,c2,c3,c4,c5,c6,c7,c8⟩:=hX;go_wp2_with ((with_reducible refine wpList_store_mid ?_ 31 (.tmp 6) (.tmp 42) ?_ (w.heap.size+1+1+1) 0 (Ψ W d) ?_ ?_ ?_ ?_ ?_ ?_);exact rfl;exact rfl;exact rfl;exact rfl;exact f.o.1;exact BU;exact Ϩ);have j:=It (R:=(w.heap.size+1+1+1)) ϟ f.o.1 f.o.2 ai.o B.o;generalize (World.setCells _ (w.heap.size+1+1+1) 0 _)=W9 at j⊢;obtain⟨⟨F,G,H,I,J,K,M,N,O⟩,k⟩:=j;exact bodyPost_ret (v:=.tuple #[joinV W d,T,ω]) (by simp[results,results17,go_sem,A0,F,G,H,I,J,K,M,N,O]) rfl ⟨⟨d,T,L,by rw[b.o],by rw[b.o];exact a1.o,by rw[b.o];exact k.1⟩,k.2⟩
end jn
end Go.Proofs.YtdohnkkbkfhphaaGreat
