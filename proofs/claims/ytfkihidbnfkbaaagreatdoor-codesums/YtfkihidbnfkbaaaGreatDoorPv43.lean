import Derived.Test.YtfkihidbnfkbaaaGreatDoorPv42
set_option linter.all false
set_option maxHeartbeats 8000000
set_option maxRecDepth 100000
open Go.ChangeShapes Go.WideShapes Go.ChangeAt Go.RowKit List
namespace Go.Proofs.YtfkihidbnfkbaaaGreatDoor
open Go.Proofs.Tryz
namespace jn
open vl bf
attribute [local go_sem] Oper.semAt_some
theorem Mp{p:pl.Pln}(h:pl.An p=0)(w:Ϙ):enAt w ⟨Cv p,[]⟩ ex0:=⟨Og h w,λi a=>absurd a (Nat.not_lt_zero i)⟩
theorem Sa{e0:Eng}{y0:EX}{wr d:Ϙ}{e:Eng}{y:EX}{N:Nat}(h:eAt e0 y0 d wr e y)(c:∀W,enAt W e0 y0)(b:Ae wr N 42)(l:List Value):enAt (wr.setCells N 0 l) e y:=by
 rcases h.2 with a|a
 ·obtain⟨⟨rfl,rfl⟩,_⟩:=a;exact c _
 ·exact⟨⟨(Bj CN _ _ _ a.1 b).at,(Bj CN _ _ _ a.2.1 b).at⟩,(EF _ _ _ a.2.2 b).at⟩
theorem UI(p:pl.Pln)(x:pl.PA)(l:List Ev)(xs:List RX)(A:ϙ)(J:Nat)(E:Nat->Eng)(R:Nat->Int×Eng×List ch.Chg)(w:Ϙ)(I:pl.wfPlan p)(H:pl.planAt w p x)(X:p.grouped=false)(s:pl.An p=0)(S:E 0=⟨Cv p,[]⟩)(aa:playsTo p l E R)(hv:IB w A l xs)(Z:l.length<=120):
 η 22 #[pl.Aq p x,vS A l.length J] w λe o=>(∃a t i,e= .returned (.tuple #[enV (E l.length) a,t,i,ω])/\enAt o (E l.length) a)/\ϛ w o:=by
 have k:=hIz (λ(c:Ϙ) (y:ϛ w c)=>Sr p x c I (pl.Ag H y) s);have q:Ϛ (∀c r,ϛ w c->Bp c r p x->CT 46 #[enV ⟨Cv p,[]⟩ ex0,vS A l.length J,.func (.func 47) #[] #[μ r]] c λe o=>(∃a t i,e= .returned (.tuple #[enV (E l.length) a,t,i,ω])/\eAt ⟨Cv p,[]⟩ ex0 c o (E l.length) a)/\ϛ c o):=λc r y ae=>
  RV p x ⟨Cv p,[]⟩ ex0 l xs A J r E R c I (pl.Ag H y) X ae (Mp s c) S aa (Pv hv y) Z
 have O:Ϛ (∀W,enAt W ⟨Cv p,[]⟩ ex0):=λW=>Mp s W;obtain⟨K,T⟩:=nM (⟨Cv p,[]⟩:Eng);obtain⟨b,B⟩:=nM (E l.length);obtain⟨n,G⟩:=nM l.length;rw[T]at k q O;rw[B,G]at q;rw[B,G];clear T B G I H hv Z X s S aa;unfold pl.Aq at k⊢;rw[Cq K ex0]at k q;go_enter func22,ntmps22;go_wp2_with fail;generalize u:(World.alloc (World.alloc w _) _)=V;have D:ϛ w V:=by rw[<-u];exact ϧ.alloc Ϟ _
 have j:Ϛ (Bp V w p x):=by
  subst u;exact Ak (CH ..) ϧ
 have d:Ϛ (DL V (w.heap.size+1)/\Ae V (w+1) 42):=by
  subst u;have P:=E9 (ξ w (Φ p x) 32);have Q:=World.alloc_heap_new (ξ w (Φ p x) 32) (.cells #[ω,ψ,ψ,ω,ψ,ψ,ω,ω,ω,ψ,ψ] 42);rw[World.size_alloc]at P Q;exact⟨P,_,_,Q⟩
 clear u;refine(k.o _ D).mono ?_;rintro e c ⟨rfl,m⟩;have ad:ϛ w c:=bT D m;replace j:Ϛ (Bp c w p x):=Ak j.o m;replace d:Ϛ (DL c (w.heap.size+1)/\Ae c (w+1) 42):=⟨Be d.o.1 m,Ad d.o.2 m⟩;have lz:(w.heap.size+1)<c.heap.size:=NV d.o.1;clear D m k;go_upto_region 4 with fail;generalize C:(World.alloc c _)=g;have z:ϛ c g:=by rw[<-C];exact ϧ
 have M:Ϛ (Bn g c.heap.size K ex0):=by
  subst C;exact Cg ..
 clear C;have U:ϛ w g:=bT ad z;obtain⟨u0,u1,u2,u3,u4,u5,u6,u7,u8,u9,u10⟩:=M.o;replace d:Ϛ (DL g (w.heap.size+1)/\Ae g (w+1) 42):=⟨Be d.o.1 z,Ad d.o.2 z⟩;replace j:Ϛ (Bp g w p x):=Ak j.o z;go_wp2_with fail;refine(q.o g w.heap.size U j.o).mono ?_;rintro e h ⟨⟨a,t,i,rfl,Y⟩,F⟩;clear u0 u1 u2 u3 u4 u5 u6 u7 u8 u9 u10 M;have ac:ϛ w h:=bT U F;replace d:Ϛ (DL h (w.heap.size+1)/\Ae h (w+1) 42):=⟨Be d.o.1 F,Ad d.o.2 F⟩;have N:Ϛ (enAt (World.setCells h (w.heap.size+1) 0 [vI b.j.L.lim,vS a.y.l.m.1.1 a.y.l.m.1.2.1 a.y.l.m.1.2.2,vS a.y.l.ra a.y.l.rs.length a.y.l.rc,vI b.j.R.lim,vS a.y.r.m.1.1 a.y.r.m.1.2.1 a.y.r.m.1.2.2,vS a.y.r.ra a.y.r.rs.length a.y.r.rc,vI b.j.lm,vI b.j.rm,vI b.j.seq,ψ,vS a.va b.v.length a.vc]) b a):=Sa Y O.o d.o.2 _;clear Y;rw[Cq b a];have f:Ϛ ((World.setCells h (w.heap.size+1) 0 [vI b.j.L.lim,vS a.y.l.m.1.1 a.y.l.m.1.2.1 a.y.l.m.1.2.2,vS a.y.l.ra a.y.l.rs.length a.y.l.rc,vI b.j.R.lim,vS a.y.r.m.1.1 a.y.r.m.1.2.1 a.y.r.m.1.2.2,vS a.y.r.ra a.y.r.rs.length a.y.r.rc,vI b.j.lm,vI b.j.rm,vI b.j.seq,ψ,vS a.va b.v.length a.vc]).rangeAt (w.heap.size+1) 0 [vI b.j.L.lim,vS a.y.l.m.1.1 a.y.l.m.1.2.1 a.y.l.m.1.2.2,vS a.y.l.ra a.y.l.rs.length a.y.l.rc,vI b.j.R.lim,vS a.y.r.m.1.1 a.y.r.m.1.2.1 a.y.r.m.1.2.2,vS a.y.r.ra a.y.r.rs.length a.y.r.rc,vI b.j.lm,vI b.j.rm,vI b.j.seq,ψ,vS a.va b.v.length a.vc]):=D3 d.o.1 rfl;have L:Ϛ (ϛ w (World.setCells h (w.heap.size+1) 0 [vI b.j.L.lim,vS a.y.l.m.1.1 a.y.l.m.1.2.1 a.y.l.m.1.2.2,vS a.y.l.ra a.y.l.rs.length a.y.l.rc,vI b.j.R.lim,vS a.y.r.m.1.1 a.y.r.m.1.2.1 a.y.r.m.1.2.2,vS a.y.r.ra a.y.r.rs.length a.y.r.rc,vI b.j.lm,vI b.j.rm,vI b.j.seq,ψ,vS a.va b.v.length a.vc])):=below_setCells Ϝ _ 0 _ ac
 go_wp2_with ((with_reducible refine wpList_store_mid ?_ 42 (.tmp 4) (.tmp 23) ?_ (w.heap.size+1) 0 #[vI b.j.L.lim,vS a.y.l.m.1.1 a.y.l.m.1.2.1 a.y.l.m.1.2.2,vS a.y.l.ra a.y.l.rs.length a.y.l.rc,vI b.j.R.lim,vS a.y.r.m.1.1 a.y.r.m.1.2.1 a.y.r.m.1.2.2,vS a.y.r.ra a.y.r.rs.length a.y.r.rc,vI b.j.lm,vI b.j.rm,vI b.j.seq,ψ,vS a.va b.v.length a.vc] ?_ ?_ ?_ ?_ ?_ ?_);exact rfl;exact rfl;exact rfl;exact rfl;exact d.o.1;exact Fu;exact ϥ);generalize (World.setCells h (w.heap.size+1) 0 [vI b.j.L.lim,vS a.y.l.m.1.1 a.y.l.m.1.2.1 a.y.l.m.1.2.2,vS a.y.l.ra a.y.l.rs.length a.y.l.rc,vI b.j.R.lim,vS a.y.r.m.1.1 a.y.r.m.1.2.1 a.y.r.m.1.2.2,vS a.y.r.ra a.y.r.rs.length a.y.r.rc,vI b.j.lm,vI b.j.rm,vI b.j.seq,ψ,vS a.va b.v.length a.vc])=W' at f L N⊢;have z0:=f.o 0 _ rfl;have z1:=f.o 1 _ rfl;have z2:=f.o 2 _ rfl;have z3:=f.o 3 _ rfl;have z4:=f.o 4 _ rfl;have z5:=f.o 5 _ rfl;have z6:=f.o 6 _ rfl;have z7:=f.o 7 _ rfl;have z8:=f.o 8 _ rfl;have z9:=f.o 9 _ rfl;have ab:=f.o 10 _ rfl;simp only[Nat.zero_add]at z0 z1 z2 z3 z4 z5 z6 z7 z8 z9 ab;exact bodyPost_ret (v:=.tuple #[.agg #[vI b.j.L.lim,vS a.y.l.m.1.1 a.y.l.m.1.2.1 a.y.l.m.1.2.2,vS a.y.l.ra a.y.l.rs.length a.y.l.rc,vI b.j.R.lim,vS a.y.r.m.1.1 a.y.r.m.1.2.1 a.y.r.m.1.2.2,vS a.y.r.ra a.y.r.rs.length a.y.r.rc,vI b.j.lm,vI b.j.rm,vI b.j.seq,ψ,vS a.va b.v.length a.vc],t,i,ω]) (by simp[results,results22,go_sem,z0,z1,z2,z3,z4,z5,z6,z7,z8,z9,ab]) rfl ⟨⟨a,t,i,rfl,N.o⟩,L.o⟩
end jn
namespace cd
open vl bf jn
attribute [local go_sem] Oper.semAt_some
theorem Kd(w:Ϙ)(h:GC w):η 9 #[] w (θ w (.bool true)):=by
 obtain⟨A3,ah⟩:=nM ({data:=#[97,98,99]}:ByteArray);have P:Ϛ (CT 10 #[.string {data:=#[97,98,99]}] w (θ w (.tuple #[.string ⟨LQ.toArray⟩,ω]))):=by
  have:=Hv {data:=#[97,98,99]} w h;rw[show({data:=#[97,98,99]}:ByteArray).data.toList=[97,98,99]from rfl,YQ]at this;exact this
 have Q:Ϛ (∀a,ϛ w a->CT 14 #[.string ⟨LQ.toArray⟩] a (θ a (.tuple #[.string {data:=#[97,98,99]},ω]))):=λa q=>by
  have hl:(⟨LQ.toArray⟩:ByteArray).size=11:=size_toArray.trans SV;have:=J7 ⟨LQ.toArray⟩ a (nibAt_below h q) (by rw[hl];decide);rw[show(⟨LQ.toArray⟩:ByteArray).data.toList=LQ from rfl,YR]at this;exact this
 have af:Ϛ (∀a,ϛ w a->CT 12 #[.string {data:=#[49,50,51,52,53,54,55,56,57]}] a λo c=>o= .returned (.int .u32 3421780262)/\c=a):=λa q=>by
  have:=Lc {data:=#[49,50,51,52,53,54,55,56,57]} a (nibAt_below h q) ϝ;rw[show({data:=#[49,50,51,52,53,54,55,56,57]}:ByteArray).data.toList=[49,50,51,52,53,54,55,56,57]from rfl,Wz]at this;exact this
 have v:Ϛ (∀a,CT 23 #[] a λo c=>(∃x,o= .returned (pl.Aq sP x)/\pl.planAt c sP x)/\ϛ a c):=λa=>by
  refine(pl.Sj a).mono ?_;rintro o c ⟨⟨x,rfl,i,_⟩,q⟩;exact⟨⟨x,rfl,i⟩,q⟩
 have ag:=hIz (λ(a:Ϙ)=>Uw a);have L:Ϛ (∀x b s a,pl.planAt a sP x->IB a (τ b) Il s->CT 22 #[pl.Aq sP x,vS (τ b) 5 5] a λo c=>(∃y t nv,o= .returned (.tuple #[enV En5 y,t,nv,ω])/\enAt c En5 y)/\ϛ a c):=λx b s a i H=>by
  obtain⟨E,R,ay,ai,aj⟩:=Wv;have:=UI sP x Il s (τ b) 5 E R a pl.Kf i rfl pl.CE ai ay H ϝ;rw[show Il.length=5 from rfl,aj]at this;exact this
 have A:=hIz (λx y (a:Ϙ) (i:pl.planAt a sP x) (ha:enAt a En5 y)=>Va sP x En5 y a pl.Kf i rfl ha Wy Ul Ww Wx Aat ϝ (Nat.le_trans SU ϝ));have z:=hIz (λx (a:Ϙ) (i:pl.planAt a sP x)=>VW sP x En5 a pl.Kf i rfl Ul Wy AaU lim5 (Nat.le_trans SU ϝ));have T:Ϛ (∀x y a,enAt a En5 x->enAt a En5 y->CT 20 #[enV En5 x,enV En5 y] a (θ a (.bool true))):=λx y a hx I=>UW En5 x y a hx I Wy AaV;have O:Ϛ ((⟨LQ.toArray⟩:ByteArray).size=11):=size_toArray.trans SV;obtain⟨F,X⟩:=nM (⟨LQ.toArray⟩:ByteArray);obtain⟨B,W⟩:=nM (⟨(Eo En5).toArray⟩:ByteArray);obtain⟨p,i⟩:=nM sP;obtain⟨e,he⟩:=nM En5;rw[X]at P Q O;rw[W]at A z;rw[i]at v L A z;rw[he]at L A z T;clear X W i he ah A3 h;go_enter func9,ntmps9;go_wp2_with fail;refine P.o.mono ?_;rintro o a ⟨rfl,Y⟩;go_wp2_with fail;refine(Q.o _ Y).mono ?_;rintro o w2 ⟨rfl,al⟩;have ar:ϛ w w2:=bT Y al;go_wp2_with fail;refine(v.o _).mono ?_;rintro o w3 ⟨⟨x,rfl,k⟩,am⟩;have au:ϛ w w3:=bT ar am;go_wp2_with fail;refine(ag.o _).mono ?_;rintro o w4 ⟨⟨b,s,rfl,H⟩,Z⟩;have av:ϛ w w4:=bT au Z;go_wp2_with fail;refine(L.o x b s w4 (pl.Ag k Z) H).mono ?_;rintro o d ⟨⟨y,t,nv,rfl,I⟩,an⟩;have aw:ϛ w d:=bT av an;have g:=hqz I;clear I H k;rw[Cq e y];go_upto_region 4 with fail;generalize l:(World.alloc d _)=V;have G:ϛ d V:=by rw[<-l];exact ϧ
 have f:Ϛ (Bn V d.heap.size e y):=by
  subst l;exact Cg ..
 clear l;have aq:ϛ w V:=bT aw G;replace g:Ϛ (enAt V e y):=g.o.below G;refine gr.CP 8 rfl ϟ (S:=(λc=>Δ c d 0 (vI e.j.L.lim)/\Δ c d 1 (vS y.y.l.m.1.1 y.y.l.m.1.2.1 y.y.l.m.1.2.2)/\Δ c d 2 (vS y.y.l.ra y.y.l.rs.length y.y.l.rc)/\Δ c d 3 (vI e.j.R.lim)/\Δ c d 4 (vS y.y.r.m.1.1 y.y.r.m.1.2.1 y.y.r.m.1.2.2)/\Δ c d 5 (vS y.y.r.ra y.y.r.rs.length y.y.r.rc)/\Δ c d 6 (vI e.j.lm)/\Δ c d 7 (vI e.j.rm)/\Δ c d 8 (vI e.j.seq)/\Δ c d 9 (vS none 0 0)/\Δ c d 10 (vS y.va e.v.length y.vc))) (AH f.o bR.drew) (λj=>?_);refine tkz 1 32 j ?_;refine rD 0 λK n=>?_;go_simp;go_at_call 23;refine(v.o _).mono ?_;rintro o w6 ⟨⟨x2,rfl,k⟩,G⟩;have N:ϛ V w6:=bR.drew.trans G;go_wp2_with fail;refine n.out _ _ (AH f.o N) (λj=>?_);clear n K
 try simp only[Act.put,sI,sZ,sS]
 refine rD 2 λK n=>?_;go_simp;go_at_call 16;rw[<-Cq e y];refine(A.o x2 y w6 k (g.o.below N)).mono ?_;rintro o r ⟨rfl,ao⟩;have C:ϛ V r:=bT N ao;go_wp2_with fail;refine n.out _ _ (AH f.o C) (λj=>?_);clear n K
 try simp only[Act.put,sI,sZ,sS]
 refine tkz 3 30 j ?_;refine tkz 4 34 j ?_;refine tkz 5 35 j ?_;refine tkz 6 9 j ?_;refine tkz 7 10 j ?_;refine wpAnyH_done ϟ ?_ _;have ac:ϛ w r:=bT aq C;replace g:Ϛ (enAt r e y):=g.o.below C;replace f:Ϛ (Bn r d.heap.size e y):=AH f.o C;clear j k;go_wp2_with fail;refine(v.o _).mono ?_;rintro o w8 ⟨⟨x3,rfl,k⟩,aa⟩;have az:ϛ w w8:=bT ac aa;go_wp2_with fail;refine(z.o x3 w8 k).mono ?_;rintro o m ⟨⟨u,rfl,ad⟩,ap⟩;have M:ϛ r m:=bT aa ap;have ax:ϛ w m:=bT ac M;rw[Cq e u];replace g:Ϛ (enAt m e y):=g.o.below M;replace f:Ϛ (Bn m d.heap.size e y):=AH f.o M;have J:=hqz ad;clear ad k;go_upto_region 6 with fail;generalize l:(World.alloc m _)=U;have D:ϛ m U:=by rw[<-l];exact ϧ
 have ae:Ϛ (Bn U m.heap.size e u):=by
  subst l;exact Cg ..
 clear l;have ab:ϛ w U:=bT ax D;replace g:Ϛ (enAt U e y):=g.o.below D;replace J:Ϛ (enAt U e u):=J.o.below D;replace f:Ϛ (Bn U d.heap.size e y):=AH f.o D;obtain⟨u0,u1,u2,u3,u4,u5,u6,u7,u8,u9,u10⟩:=f.o;obtain⟨v0,v1,v2,v3,v4,v5,v6,v7,v8,v9,a1⟩:=ae.o;have a0:=O.o;go_wp2_with fail;refine(af.o _ ab).mono ?_;rintro o a2 ⟨rfl,rfl⟩;go_wp2_with fail;rw[<-Cq e y,<-Cq e u];refine(T.o y u _ g.o J.o).mono ?_;rintro o a3 ⟨rfl,ak⟩;go_wp2;go_ret;exact⟨rfl,bT ab ak⟩
end cd
end Go.Proofs.YtfkihidbnfkbaaaGreatDoor
