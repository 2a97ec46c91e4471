import Derived.Test.YtfkihidbnfkbaaaGreatDoorPb36
set_option linter.all false
set_option maxHeartbeats 8000000
set_option maxRecDepth 100000
open Go.ChangeShapes Go.WideShapes Go.ChangeAt Go.RowKit
namespace Go.Proofs.YtfkihidbnfkbaaaGreatDoor
open Go.Proofs.Tryz
namespace jn
open vl bf
attribute [local go_sem] Oper.semAt_some
theorem MX{p:pl.Pln}(h:pl.Ag p=0)(w:ϙ):enAt w ⟨C5 p,[]⟩ ex0:=⟨Pk h w,λi a=>absurd a (Nat.not_lt_zero i)⟩
theorem TA{e0:Eng}{y0:EX}{wr d:ϙ}{e:Eng}{y:EX}{N:Nat}(h:eAt e0 y0 d wr e y)(c:∀W,enAt W e0 y0)(b:Ai wr N 42)(l:List Value):enAt (wr.setCells N 0 l) e y:=by
 rcases h.2 with a|a
 ·obtain⟨⟨rfl,rfl⟩,_⟩:=a;exact c _
 ·exact⟨⟨(Bt He _ _ _ a.1 b).at,(Bt He _ _ _ a.2.1 b).at⟩,(Hf _ _ _ a.2.2 b).at⟩
theorem Xc(p:pl.Pln)(x:pl.PA)(l:List Ev)(xs:List RX)(A:Ϛ)(J:Nat)(E:Nat->Eng)(R:Nat->Int×Eng×List ch.Chg)(w:ϙ)(I:pl.wfPlan p)(H:pl.planAt w p x)(X:p.grouped=false)(s:pl.Ag p=0)(S:E 0=⟨C5 p,[]⟩)(aa:playsTo p l E R)(hv:Jp w A l xs)(Z:l.length<=120):
 η 22 #[pl.Ap p x,vS A l.length J] w λe o=>(∃a t i,e= .returned (.tuple #[enV (E l.length) a,t,i,ω])/\enAt o (E l.length) a)/\Ϝ w o:=by
 have k:=hIz (λ(c:ϙ) (y:Ϝ w c)=>Uz p x c I (pl.Ae H y) s);have q:ϛ (∀c r,Ϝ w c->Bh c r p x->CT 46 #[enV ⟨C5 p,[]⟩ ex0,vS A l.length J,.func (.func 47) #[] #[μ r]] c λe o=>(∃a t i,e= .returned (.tuple #[enV (E l.length) a,t,i,ω])/\eAt ⟨C5 p,[]⟩ ex0 c o (E l.length) a)/\Ϝ c o):=λc r y ae=>
  Uv p x ⟨C5 p,[]⟩ ex0 l xs A J r E R c I (pl.Ae H y) X ae (MX s c) S aa (Q5 hv y) Z
 have O:ϛ (∀W,enAt W ⟨C5 p,[]⟩ ex0):=λW=>MX s W;obtain⟨K,T⟩:=nM (⟨C5 p,[]⟩:Eng);obtain⟨b,B⟩:=nM (E l.length);obtain⟨n,G⟩:=nM l.length;rw[T]at k q O;rw[B,G]at q;rw[B,G];clear T B G I H hv Z X s S aa;unfold pl.Ap at k⊢;rw[ET K ex0]at k q;go_enter func22,ntmps22;go_wp2_with fail;generalize u:(World.alloc (World.alloc w _) _)=V;have D:Ϝ w V:=by rw[<-u];exact Ϩ.alloc ϟ _
 have j:ϛ (Bh V w p x):=by
  subst u;exact Ah (Cg ..) Ϩ
 have d:ϛ (Fx V (w.heap.size+1)/\Ai V (w+1) 42):=by
  subst u;have P:=Hu (ξ w (Φ p x) 32);have Q:=World.alloc_heap_new (ξ w (Φ p x) 32) (.cells #[ω,ψ,ψ,ω,ψ,ψ,ω,ω,ω,ψ,ψ] 42);rw[World.size_alloc]at P Q;exact⟨P,_,_,Q⟩
 clear u;refine(k.o _ D).mono ?_;rintro e c ⟨rfl,m⟩;have ad:Ϝ w c:=bT D m;replace j:ϛ (Bh c w p x):=Ah j.o m;replace d:ϛ (Fx c (w.heap.size+1)/\Ai c (w+1) 42):=⟨BK d.o.1 m,Ad d.o.2 m⟩;have lz:(w.heap.size+1)<c.heap.size:=AbF d.o.1;clear D m k;go_upto_region 4 with fail;generalize C:(World.alloc c _)=g;have z:Ϝ c g:=by rw[<-C];exact Ϩ
 have M:ϛ (Dp g c.heap.size K ex0):=by
  subst C;exact Ey ..
 clear C;have U:Ϝ w g:=bT ad z;obtain⟨u0,u1,u2,u3,u4,u5,u6,u7,u8,u9,u10⟩:=M.o;replace d:ϛ (Fx g (w.heap.size+1)/\Ai g (w+1) 42):=⟨BK d.o.1 z,Ad d.o.2 z⟩;replace j:ϛ (Bh g w p x):=Ah j.o z;go_wp2_with fail;refine(q.o g w.heap.size U j.o).mono ?_;rintro e h ⟨⟨a,t,i,rfl,Y⟩,F⟩;clear u0 u1 u2 u3 u4 u5 u6 u7 u8 u9 u10 M;have ac:Ϝ w h:=bT U F;replace d:ϛ (Fx h (w.heap.size+1)/\Ai h (w+1) 42):=⟨BK d.o.1 F,Ad d.o.2 F⟩;have N:ϛ (enAt (World.setCells h (w.heap.size+1) 0 [vI b.j.L.lim,vS a.y.l.m.1.1 a.y.l.m.1.2.1 a.y.l.m.1.2.2,vS a.y.l.ra a.y.l.rs.length a.y.l.rc,vI b.j.R.lim,vS a.y.r.m.1.1 a.y.r.m.1.2.1 a.y.r.m.1.2.2,vS a.y.r.ra a.y.r.rs.length a.y.r.rc,vI b.j.lm,vI b.j.rm,vI b.j.seq,ψ,vS a.va b.v.length a.vc]) b a):=TA Y O.o d.o.2 _;clear Y;rw[ET b a];have f:ϛ ((World.setCells h (w.heap.size+1) 0 [vI b.j.L.lim,vS a.y.l.m.1.1 a.y.l.m.1.2.1 a.y.l.m.1.2.2,vS a.y.l.ra a.y.l.rs.length a.y.l.rc,vI b.j.R.lim,vS a.y.r.m.1.1 a.y.r.m.1.2.1 a.y.r.m.1.2.2,vS a.y.r.ra a.y.r.rs.length a.y.r.rc,vI b.j.lm,vI b.j.rm,vI b.j.seq,ψ,vS a.va b.v.length a.vc]).rangeAt (w.heap.size+1) 0 [vI b.j.L.lim,vS a.y.l.m.1.1 a.y.l.m.1.2.1 a.y.l.m.1.2.2,vS a.y.l.ra a.y.l.rs.length a.y.l.rc,vI b.j.R.lim,vS a.y.r.m.1.1 a.y.r.m.1.2.1 a.y.r.m.1.2.2,vS a.y.r.ra a.y.r.rs.length a.y.r.rc,vI b.j.lm,vI b.j.rm,vI b.j.seq,ψ,vS a.va b.v.length a.vc]):=Fs d.o.1 rfl;have L:ϛ (Ϝ w (World.setCells h (w.heap.size+1) 0 [vI b.j.L.lim,vS a.y.l.m.1.1 a.y.l.m.1.2.1 a.y.l.m.1.2.2,vS a.y.l.ra a.y.l.rs.length a.y.l.rc,vI b.j.R.lim,vS a.y.r.m.1.1 a.y.r.m.1.2.1 a.y.r.m.1.2.2,vS a.y.r.ra a.y.r.rs.length a.y.r.rc,vI b.j.lm,vI b.j.rm,vI b.j.seq,ψ,vS a.va b.v.length a.vc])):=below_setCells ϝ _ 0 _ ac
 go_wp2_with ((with_reducible refine wpList_store_mid ?_ 42 (.tmp 4) (.tmp 23) ?_ (w.heap.size+1) 0 #[vI b.j.L.lim,vS a.y.l.m.1.1 a.y.l.m.1.2.1 a.y.l.m.1.2.2,vS a.y.l.ra a.y.l.rs.length a.y.l.rc,vI b.j.R.lim,vS a.y.r.m.1.1 a.y.r.m.1.2.1 a.y.r.m.1.2.2,vS a.y.r.ra a.y.r.rs.length a.y.r.rc,vI b.j.lm,vI b.j.rm,vI b.j.seq,ψ,vS a.va b.v.length a.vc] ?_ ?_ ?_ ?_ ?_ ?_);exact rfl;exact rfl;exact rfl;exact rfl;exact d.o.1;exact Jg;exact Ϧ);generalize (World.setCells h (w.heap.size+1) 0 [vI b.j.L.lim,vS a.y.l.m.1.1 a.y.l.m.1.2.1 a.y.l.m.1.2.2,vS a.y.l.ra a.y.l.rs.length a.y.l.rc,vI b.j.R.lim,vS a.y.r.m.1.1 a.y.r.m.1.2.1 a.y.r.m.1.2.2,vS a.y.r.ra a.y.r.rs.length a.y.r.rc,vI b.j.lm,vI b.j.rm,vI b.j.seq,ψ,vS a.va b.v.length a.vc])=W' at f L N⊢;have z0:=f.o 0 _ rfl;have z1:=f.o 1 _ rfl;have z2:=f.o 2 _ rfl;have z3:=f.o 3 _ rfl;have z4:=f.o 4 _ rfl;have z5:=f.o 5 _ rfl;have z6:=f.o 6 _ rfl;have z7:=f.o 7 _ rfl;have z8:=f.o 8 _ rfl;have z9:=f.o 9 _ rfl;have ab:=f.o 10 _ rfl;simp only[Nat.zero_add]at z0 z1 z2 z3 z4 z5 z6 z7 z8 z9 ab;exact bodyPost_ret (v:=.tuple #[.agg #[vI b.j.L.lim,vS a.y.l.m.1.1 a.y.l.m.1.2.1 a.y.l.m.1.2.2,vS a.y.l.ra a.y.l.rs.length a.y.l.rc,vI b.j.R.lim,vS a.y.r.m.1.1 a.y.r.m.1.2.1 a.y.r.m.1.2.2,vS a.y.r.ra a.y.r.rs.length a.y.r.rc,vI b.j.lm,vI b.j.rm,vI b.j.seq,ψ,vS a.va b.v.length a.vc],t,i,ω]) (by simp[results,results22,go_sem,z0,z1,z2,z3,z4,z5,z6,z7,z8,z9,ab]) rfl ⟨⟨a,t,i,rfl,N.o⟩,L.o⟩
end jn
end Go.Proofs.YtfkihidbnfkbaaaGreatDoor
