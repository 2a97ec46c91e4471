import Derived.Test.YtdohnkkbkfhphaaGreatPw53
import Derived.Test.YtdohnkkbkfhphaaGreatPw55
set_option linter.all false
set_option maxHeartbeats 8000000
set_option maxRecDepth 100000
open Go.ChangeShapes Go.WideShapes Go.ChangeAt Go.RowKit
namespace Go.Proofs.YtdohnkkbkfhphaaGreat
open Go.Proofs.Tryz
namespace jn
open vl bf
attribute [local go_sem] Oper.semAt_some
theorem P5{w a:ϛ}{p:pl.Pln}{l:List Ev}{e:Ending}(h:(∃m t L b,e= .returned (.tuple #[joinV (AZ p l).2.1 m,t,b,vI (AZ p l).1])/\L.map CO.chg=(AZ p l).2.2.1/\joinAt a (AZ p l).2.1 m/\TG a w t L/\pl.Dm a w b (AZ p l).2.2.2)/\Ϟ w a):
 (∃n k v j u,e= .returned (.tuple #[.agg (Ψ (AZ p l).2.1 n),vS k (AZ p l).2.2.1.length v,vS j (AZ p l).2.2.2.length u,vI (AZ p l).1])/\joinAt a (AZ p l).2.1 n/\ch.BZ a k (AZ p l).2.2.1/\pl.AA a j (AZ p l).2.2.2)/\Ϟ w a:=by
 obtain⟨⟨y,t,L,b,rfl,i,r,s,c⟩,q⟩:=h;obtain⟨d,f⟩:=s.chgs;have o:L.length=(AZ p l).2.2.1.length:=by rw[<-i,lMp]
 rw[i]at f;rw[o]at d;have g:=J6 c;rw[g]at c;rw[d,g];exact⟨⟨y,Mg t,Oz t,Mg b,Oz b,rfl,r,f,(pl.Le c).1⟩,q⟩
theorem U0(p:pl.Pln)(x:pl.PA)(u:Ϝ)(F:Nat)(l:List Ev)(xs:List RX)(w:ϛ)(X:pl.wfPlan p)(W:pl.planAt w p x)(L:Gi w u l xs)(U:l.length<=χ):
 η 5 #[pl.Ak p x,vS u l.length F] w (θ w (.bool true)):=by
 have s:=Ve (p:=p) (Ny L);have A:ϝ (∀a,Ϟ w a->CT 19 #[pl.Ak p x,vS u l.length F] a λe b=>(∃c H Z G Y,e= .returned (.tuple #[.agg (Ψ (AZ p l).2.1 c),vS H (AZ p l).2.2.1.length Z,vS G (AZ p l).2.2.2.length Y,vI (AZ p l).1])/\joinAt b (AZ p l).2.1 c/\ch.BZ b H (AZ p l).2.2.1/\pl.AA b G (AZ p l).2.2.2)/\Ϟ a b):=λa E=>(Tf p x l xs u F a X (pl.Aj W E) (Iq L E) U).mono λe b h=>P5 h;have z:ϝ (∀a,Ϟ w a->CT 20 #[pl.Ak p x,vS u l.length F] a λe b=>(∃c H Z G Y,e= .returned (.tuple #[.agg (Ψ (AZ p l).2.1 c),vS H (AZ p l).2.2.1.length Z,vS G (AZ p l).2.2.2.length Y,vI (AZ p l).1])/\joinAt b (AZ p l).2.1 c/\ch.BZ b H (AZ p l).2.2.1/\pl.AA b G (AZ p l).2.2.2)/\Ϟ a b):=λa E=>(X8 p x l xs u F a X (pl.Aj W E) (Iq L E) U).mono λe b h=>P5 h;obtain⟨ST,ag⟩:=nM (AZ p l);rw[ag]at A z s;obtain⟨SE,d,k,o⟩:=ST;dsimp only at A z s;have KJ:ϝ (∀(c n:JX) (a:ϛ),joinAt a d c->joinAt a d n->CT 13 #[jn.joinV d c,jn.joinV d n] a (θ a (.bool true))):=λc n a B C=>Tm d c n a B C s.1;have KC:ϝ (∀(g j:Ϝ) (q r:Nat) (a:ϛ),ch.BZ a g k->ch.BZ a j k->CT 18 #[vS g k.length q,vS j k.length r] a (θ a (.bool true))):=λg j q r a B C=>by
  have:=ch.Hs g j q r k k a B C s.2.1 s.2.1 ϟ ϟ;rw[decide_eq_true rfl]at this;exact this
 have KI:ϝ (∀(g j:Ϝ) (q r:Nat) (a:ϛ),pl.AA a g o->pl.AA a j o->CT 21 #[vS g o.length q,vS j o.length r] a (θ a (.bool true))):=λg j q r a B C=>pl.Q6 g j q r o a B C s.2.2.2;unfold pl.Ak;obtain⟨ln,T⟩:=nM l.length;rw[T]at A z;rw[T];clear X W L U ag s T;go_enter func5,ntmps5;go_upto_region 1 with fail;generalize O:(World.alloc w _)=V;have P:Ϟ w V:=by rw[<-O];exact Ϫ
 have M:ϝ (boxP V w p x):=by
  subst O;exact BL ..
 clear O;obtain⟨v0,v1,v2,v3,v4,v5,v6,v7,v8,v9,aa,ab,ac⟩:=M.o;go_upto_region 2 with(go_at_call 19;refine(A.o _ P).mono ?_;rintro e a ⟨⟨c,g,q,n1,d1,rfl,ao,ah,am⟩,aj⟩);clear v0 v1 v2 v3 v4 v5 v6 v7 v8 v9 aa ab ac A;have m:=AL a d c 31;have f:Ϟ a (ξ a (Ψ d c) 31):=Ϫ;obtain⟨X1,D⟩:=nM a.heap.size;rw[D]at m⊢;generalize (World.alloc a _)=y at m f⊢;clear D;have Q:Ϟ V y:=bT aj f;have N:Ϟ w y:=bT P Q;have ad:=hV0 m;have J:ϝ (joinAt y d c/\ch.BZ y g k/\pl.AA y n1 o):=⟨ao.below f,ch.Ct ah f,pl.Au am f⟩;clear m aj f ao ah am;obtain⟨v0,v1,v2,v3,v4,v5,v6,v7,v8,v9,aa,ab,ac⟩:=Ad M.o Q;go_upto_region 3 with(go_at_call 20;refine(z.o _ N).mono ?_;rintro e I ⟨⟨n,j,r,n2,d2,rfl,ap,ai,an⟩,ak⟩);clear v0 v1 v2 v3 v4 v5 v6 v7 v8 v9 aa ab ac z M;have m:=AL I d n 31;have f:Ϟ I (ξ I (Ψ d n) 31):=Ϫ;obtain⟨X2,D⟩:=nM I.heap.size;rw[D]at m⊢;generalize (World.alloc I _)=i at m f⊢;clear D;have t:Ϟ y i:=bT ak f;have af:Ϟ w i:=bT N t;have ae:ϝ (joinAt i d c/\joinAt i d n):=⟨J.o.1.below t,ap.below f⟩;have HA:ϝ (ch.BZ i g k/\ch.BZ i j k):=⟨ch.Ct J.o.2.1 t,ch.Ct ai f⟩;have HI:ϝ (pl.AA i n1 o/\pl.AA i n2 o):=⟨pl.Au J.o.2.2 t,pl.Au an f⟩;have aq:ϝ (∀b,Ϟ i b->AK b X1 d c/\AK b X2 d n):=λb hz=>⟨Ah (Ah ad.o t) hz,Ah m hz⟩;clear m ap ai an ak f t Q P ad J N;go_wp2_with (first
  |(go_at_call 12;refine(PG _).mono ?_;rintro e w5 ⟨rfl,K⟩;obtain⟨⟨d0,d1,d2,d3,d4,d5,d6,d7,d8⟩,e0,e1,e2,e3,e4,e5,e6,e7,e8⟩:=aq.o _ K)
  |(go_at_call 13;refine(KJ.o _ _ _ (ae.o.1.below K) (ae.o.2.below K)).mono ?_;rintro e w6 ⟨rfl,ar⟩;have R:Ϟ i w6:=bT K ar)
  |(go_at_call 18;refine(KC.o _ _ _ _ _ (ch.Ct HA.o.1 R) (ch.Ct HA.o.2 R)).mono ?_;rintro e w7 ⟨rfl,au⟩;have S:Ϟ i w7:=bT R au)
  |(go_at_call 21;refine(KI.o _ _ _ _ _ (pl.Au HI.o.1 S) (pl.Au HI.o.2 S)).mono ?_;rintro e w8 ⟨rfl,av⟩))
 have al:Ϟ i w8:=bT S av;refine bodyPost_ret (v:=.bool true) (by simp[results,results5,go_sem]) rfl ?_
 first|exact⟨rfl,bT af al⟩|exact bT af al
end jn
end Go.Proofs.YtdohnkkbkfhphaaGreat
