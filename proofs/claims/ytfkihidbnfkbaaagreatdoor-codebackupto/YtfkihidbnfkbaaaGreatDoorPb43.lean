import Derived.Test.YtfkihidbnfkbaaaGreatDoorPb42
set_option linter.all false
set_option maxHeartbeats 8000000
set_option maxRecDepth 100000
open Go.ChangeShapes Go.WideShapes Go.ChangeAt Go.RowKit List
open Inhabited renaming default->ϰ
namespace Go.Proofs.YtfkihidbnfkbaaaGreatDoor
open Go.Proofs.Tryz
namespace cd
open vl bf bt jn
variable {r : List Cel} {w w' : ϙ} {p : pl.Pln} {e : Egg} {b : Buf}
theorem LH(p:pl.Pln)(x:pl.PA)(a:Ϛ)(cap:Nat)(y:List gr.GX)(d:List gr.Grp)(w:ϙ)(u:pl.wfPlan p)(t:pl.planAt w p x)(s:gr.gsAt w a y d)(v:∀g∈d,gr.wfG g)(q:d.length<=χ):
 η 51 #[pl.Ap p x,vS a d.length cap] w (θ w (vI (GH p d))):=by
 have f:=hIz (λ(j:ϙ) (m:Ϝ w j)=>gr.AH p x a cap y d j u (pl.Ae t m) (s.below m) v q);obtain⟨R,i⟩:=nM (GH p d);have c:=hqz i;rw[i];clear i u t s v;unfold GH at c;obtain⟨n,C⟩:=nM d.length;rw[C]at f c q⊢;unfold pl.Ap at f⊢;by_cases h:p.grouped=true
 ·rw[if_pos h]at c;rw[h]at f⊢;go_enter func51,ntmps51;go_wp2_with fail;generalize l:(World.alloc w _)=V;have o:Ϝ w V:=by rw[<-l];exact Ϩ
  clear l;refine(f.o V o).mono ?_;rintro e j ⟨rfl,A⟩;go_wp2;go_ret;exact⟨Aj c.o,bT o A⟩
 ·rw[if_neg h]at c;have B:p.grouped=false:=by simpa using h
  rw[B];by_cases k:0<n
  ·rw[if_pos k]at c;have z:(0:Int)<(n:Int):=ϝ;go_enter func51,ntmps51;go_wp2;go_ret;exact⟨Aj c.o,Ϩ⟩
  ·rw[if_neg k]at c;have z:¬(0:Int)<(n:Int):=ϝ;go_enter func51,ntmps51;go_wp2;go_ret;exact⟨Aj c.o,Ϩ⟩
theorem Ua(p:pl.Pln)(x:pl.PA)(a:Ϛ)(m:Nat)(v:List ch.Cnt)(w:ϙ)(L:pl.wfPlan p)(K:pl.planAt w p x)(o:pl.Ag p=0)(B:ch.viewAt w a v)(C:ch.BJ v)(A:v.length<=χ):
 η 52 #[pl.Ap p x,vS a v.length m] w (θ w (vI (if ch.Ar v≠0 then ch.Ar v else bt.Ej (pl.Dv p) v))):=by
 have l:=hIz (λ(c:ϙ) (f:Ϝ w c)=>ch.AH a m v c (ch.Bg B f) C A);have F:=hIz (λ(c:ϙ) (f:Ϝ w c)=>pl.UF p x c L (pl.Ae K f));have KV:=hIz (λ(c:ϙ) i E (f:Ϝ w c) (Q:pl.Ay c i (pl.Dv p))=>bt.IH a i m E v (pl.Dv p) c A (ch.Bg B f) C Q (AaM o));obtain⟨R,t⟩:=nM (if ch.Ar v≠0 then ch.Ar v else bt.Ej (pl.Dv p) v);have g:=hqz t;have N:=hqz o;rw[t];clear t L K B C A o;obtain⟨j,q⟩:=nM (ch.Ar v);obtain⟨U,s⟩:=nM (bt.Ej (pl.Dv p) v);obtain⟨n,h⟩:=nM v.length;rw[q,h]at l;rw[s,h]at KV;rw[q,s]at g;rw[h];clear q s h;unfold pl.Ap at F⊢;go_enter func52,ntmps52;go_wp2_with fail;generalize u:(World.alloc w _)=V;have y:Ϝ w V:=by rw[<-u];exact Ϩ
 have k:ϛ (Bh V w p x):=by
  subst u;exact Cg ..
 clear u;refine(l.o _ y).mono ?_;rintro e c ⟨rfl,z⟩;have d:Ϝ w c:=bT y z;replace k:ϛ (Bh c w p x):=Ah k.o z;clear z y l;by_cases D:j=0
 rotate_left
 ·have W:(j !=0)=true:=by simpa using D
  have O:ϛ (j=R):=by show _=_;rw[<-g.o,if_pos D]
  go_wp2;go_ret;exact⟨Aj O.o,d⟩
 subst D;rw[if_neg Ϟ]at g;obtain⟨X,Y,v2,v3,v4,v5,v6,v7,v8,v9,Z,aa,ab⟩:=k.o;go_wp2_with fail;refine(F.o _ d).mono ?_;rintro e M ⟨S,H⟩;replace d:Ϝ w M:=bT d H;rcases S with⟨T,_⟩|⟨_,i,E,rfl,I⟩
 ·exact absurd N.o T
 have G:=KV.o M i E d I;obtain⟨on,J⟩:=nM ((pl.Dv p).length);rw[J]at G⊢;clear J I H;go_wp2_with fail;refine G.mono ?_;rintro e w3 ⟨rfl,P⟩;go_wp2;go_ret;exact⟨Aj g.o,bT d P⟩
theorem LC(p:pl.Pln)(x:pl.PA)(e:Egg)(y:GGX)(w:ϙ)(q:pl.wfPlan p)(o:pl.planAt w p x)(h:eggAt w e y)(j:wfEg e):
 η 27 #[pl.Ap p x,egV e y] w (θ w (vI (Bp p e))):=by
 have k:=hIz (λ(c:ϙ) (f:Ϝ w c)=>AH p x e.j y.y c q (pl.Ae o f) (h.j.below f) j.j);have v:=hIz (λ(c:ϙ) (f:Ϝ w c)=>LH p x y.ga y.gc y.xs e.gs c q (pl.Ae o f) (h.g.below f) j.g j.gl);have KV:ϛ (AQ p e.j=0->∀c,Ϝ w c->CT 52 #[pl.Ap p x,vS y.va e.v.length y.vc] c (θ c (vI (if ch.Ar e.v≠0 then ch.Ar e.v else bt.Ej (pl.Dv p) e.v)))):=λW c f=>Ua p x y.va y.vc e.v c q (pl.Ae o f) (GO W) (ch.Bg h.v f) j.v j.n;obtain⟨R,z⟩:=nM (Bp p e);have d:=hqz z;rw[z];clear z q o h j;unfold Bp at d;obtain⟨s,E⟩:=nM (AQ p e.j);obtain⟨Y,F⟩:=nM (if ch.Ar e.v≠0 then ch.Ar e.v else bt.Ej (pl.Dv p) e.v);obtain⟨t,G⟩:=nM (GH p e.gs);rw[E]at k KV d;rw[F]at KV d;rw[G]at v d;clear E F G;unfold pl.Ap at k v KV⊢;rw[AK]at k;unfold egV egC;go_enter func27,ntmps27;go_wp2_with fail;generalize l:(World.alloc (World.alloc w _) _)=V;have A:Ϝ w V:=by rw[<-l];exact Ϩ.alloc ϟ _
 have i:ϛ (Bh V w p x):=by
  subst l;exact Ah (Cg ..) Ϩ
 have a:ϛ (SB V (w.heap.size+1) (egC e y)):=by
  subst l;have:=SB.new (ξ w (Φ p x) 32) (egC e y) 42;rw[World.size_alloc]at this;exact this
 clear l;refine(k.o _ A).mono ?_;rintro Z c ⟨rfl,m⟩;have g:Ϝ w c:=bT A m;replace i:ϛ (Bh c w p x):=Ah i.o m;replace a:ϛ (SB c (w.heap.size+1) (egC e y)):=a.o.below m;clear m A k;by_cases B:s=0
 rotate_left
 ·have aa:(s !=0)=true:=by simpa using B
  have u:ϛ (s=R):=by show _=_;rw[<-d.o,if_pos B]
  go_wp2;go_ret;exact⟨Aj u.o,g⟩
 subst B;rw[if_neg Ϟ]at d;obtain⟨H,I,M,N,O,P,Q,S,T,U,J,K,L⟩:=i.o;have u0:=a.o.cell 0 _ rfl;have u1:=a.o.cell 1 _ rfl;have u2:=a.o.cell 2 _ rfl;have u3:=a.o.cell 3 _ rfl;have u4:=a.o.cell 4 _ rfl;have u5:=a.o.cell 5 _ rfl;have u6:=a.o.cell 6 _ rfl;have u7:=a.o.cell 7 _ rfl;have u8:=a.o.cell 8 _ rfl;have u9:=a.o.cell 9 _ rfl;have u10:=a.o.cell 10 _ rfl;go_wp2_with fail;refine(v.o _ g).mono ?_;rintro e2 D ⟨rfl,n⟩;replace g:Ϝ w D:=bT g n;replace i:ϛ (Bh D w p x):=Ah i.o n;replace a:ϛ (SB D (w.heap.size+1) (egC e y)):=a.o.below n;clear H I M N O P Q S T U J K L u0 u1 u2 u3 u4 u5 u6 u7 u8 u9 u10 n;by_cases C:t=0
 rotate_left
 ·have ab:(t !=0)=true:=by simpa using C
  have u:ϛ (t=R):=by show _=_;rw[<-d.o,if_pos C]
  go_wp2;go_ret;exact⟨Aj u.o,g⟩
 subst C;rw[if_neg Ϟ]at d;obtain⟨H,I,M,N,O,P,Q,S,T,U,J,K,L⟩:=i.o;have u0:=a.o.cell 0 _ rfl;have u1:=a.o.cell 1 _ rfl;have u2:=a.o.cell 2 _ rfl;have u3:=a.o.cell 3 _ rfl;have u4:=a.o.cell 4 _ rfl;have u5:=a.o.cell 5 _ rfl;have u6:=a.o.cell 6 _ rfl;have u7:=a.o.cell 7 _ rfl;have u8:=a.o.cell 8 _ rfl;have u9:=a.o.cell 9 _ rfl;have u10:=a.o.cell 10 _ rfl;go_wp2_with fail;refine(KV.o ϥ _ g).mono ?_;rintro e3 w3 ⟨rfl,X⟩;go_wp2;go_ret;exact⟨Aj d.o,bT g X⟩
theorem DL(h:rowOk r):B9 r/\A5 r=0:=by
 refine⟨λc d=>(h.2 c d).2,?_⟩;unfold A5;rw[if_neg (by have:=h.1;omega)];exact Nm r r.length nR (λi a=>by
  rw[gDe,gEe a];exact(h.2 _ (getElem_mem a)).1)
theorem N7(h:rowOk r):(C7 r).length<=1056:=Gi h.1 (DL h).2
theorem XL(base C B:Nat)(g:List UInt8)(t:Tal)(w:ϙ)(u:base<=w.heap.size)(h:WR w base B g)(o:WP w C B)(l:rowOk [t.1])(M:g.length<=9000000000000):
 η 111 #[.agg #[vI t.1.k,vI t.1.n,.string t.1.s,vI t.2],μ C] w (WO base B w (g++Bq t)):=by
 have z:=hIz (λ(c:ϙ) a (f:Ϝ w c) (ha:vl.rowAt c a [t.1])=>GI base B g a 1 [t.1] c (Nat.le_trans u f.size) (h.below f) ϝ ha (DL l).1 l.1 (DL l).2);have y:ϛ (∀c,WR c base B (g++C7 [t.1])->base<=c.heap.size->CT 60 #[μ B,vI t.2] c (WO base B c (g++Bq t))):=λc H f=>by
  have:=BI base B _ t.2 c f H (by have:=N7 l;rw[lAp];omega);unfold Bq;rw[<-append_assoc];exact this
 obtain⟨⟨k,n,q⟩,m⟩:=t;dsimp only at *;have L:=A2 o.1;have D:=o.2;clear l h;go_enter func111,ntmps111;go_wp2_with fail;generalize d:(World.alloc (World.alloc w _) _)=V;have j:Ϝ w V:=by rw[<-d];exact Ϩ.alloc ϟ _
 have x:Ai V w 121:=by subst d;exact Ad ⟨_,_,World.alloc_heap_new _ _⟩ Ϩ
 have s:ϛ (CW V w.heap.size 121 3 (vI m)/\WP V C B/\vl.rowAt V (τ (w+1)) [⟨k,n,q⟩]):=by
  refine⟨⟨x,by subst d;go_simp⟩,o.below j,λi E=>?_⟩;have:i=0:=by simpa using E
  subst this;exact⟨_,_,rfl,by subst d;go_simp,by subst d;go_simp,by subst d;go_simp⟩
 clear d x o D;refine(z.o V _ j s.o.2.2).mono ?_;rintro e c ⟨rfl,I,f,v⟩;have N:=(s.o.2.1.keep v).2;have K:=(s.o.1.keep v Ϟ Ϟ).2;have G:base<=c.heap.size:=Nat.le_trans (Nat.le_trans u j.size) f.size;go_wp2_with fail;refine(y.o c I G).mono ?_;rintro e O ⟨rfl,J,A,F⟩;go_wp2
 go_end0
 exact⟨rfl,J,(j.mono u).trans (f.trans A),(keepW.of j).trans (v.trans F)⟩
theorem XM(c:ϙ)(C B:Nat)(f:List UInt8)(a:Ϛ)(cap:Nat)(l:List Tal)(w:ϙ)(M:Ϝ c w)(h:WR w c.heap.size B f)(hc:WP w C B)(ha:bt.EV c a l)(ho:∀x∈l,rowOk [(x).1])(hn:l.length<=χ)(hl:f.length+(lst Bq l).length<=8500000000000):
 η 110 #[μ B,vS a l.length cap,.func (.func 111) #[] #[μ C]] w (WO c.heap.size B w (f++lst Bq l)):=by
 have ag:(lst Bq l).length=8+(l.flatMap Bq).length:=by unfold lst;rw[lAp,Am]
 have V:=hIz (λn=>BI c.heap.size B f n w M.size h ϝ);have P:=hy ha;have R:∀i,i<l.length->rowOk [((l.getD i ϰ)).1]:=λi hi=>ho _ (by rw[gDe,gEe hi];exact getElem_mem hi);have T:ϛ (∀k,k<l.length->f.length+8+((l.take k).flatMap Bq).length+(Bq (l.getD k ϰ)).length<=8500000000000):=λk j=>by
  have L:=Dm Bq l k j;have W:=congrArg List.length (congrArg (λz=>z.flatMap Bq) (take_append_drop (k+1) l));simp only[flatMap_append,lAp]at W;rw[L,lAp]at W;omega
 have D:ϛ (∀k,k<l.length->(l.take (k+1)).flatMap Bq=(l.take k).flatMap Bq++Bq (l.getD k ϰ)):=λk j=>Dm Bq l k j;have Q:ϛ (f++AU l.length++(l.take l.length).flatMap Bq=f++lst Bq l):=by
  show _=_;unfold lst;rw[take_length,append_assoc]
 have F:ϛ (∀k,k<l.length->∀d m,Ϝ c d->WR d c.heap.size B m->WP d C B->m.length+(Bq (l.getD k ϰ)).length<=8500000000000->CT 111 #[.agg #[vI (l.getD k ϰ).1.k,vI (l.getD k ϰ).1.n,.string (l.getD k ϰ).1.s,vI (l.getD k ϰ).2],μ C] d (WO c.heap.size B d (m++Bq (l.getD k ϰ)))):=λk j d m t L ad ai=>XL c.heap.size C B m _ d t.size L ad (R k j) ϝ;obtain⟨n,v⟩:=nM l.length;have HN:=hqz v;rw[v]at D F hn T⊢;rw[v]at Q;have HC:=hqz hc;have HB:=hqz M;clear ha ho v h hc M R ag hl;go_enter func110,ntmps110;go_wp2_with fail;refine(V.o _).mono ?_;rintro e d ⟨rfl,ab,t,aa⟩;have U:ϛ (WR d c.heap.size B (f++AU n)/\Below c.heap.size w d/\keepW w d):=⟨ab,t,aa⟩;clear ab t aa V;go_wp2_with fail
 go_loopw [14] (λi wr=> ∃k:Nat,k<=n/\i=vI k/\WR wr c.heap.size B (f++AU n++(l.take k).flatMap Bq)/\Below c.heap.size w wr/\keepW w wr) (λi _=>n - (intOf i).toNat)
 case atStart=>exact⟨0,Nat.zero_le _,rfl,by simpa using U.o.1,U.o.2⟩
 case round=>
  obtain⟨k,j,rfl,y,q,N⟩:=hrel;by_cases u:k<n
  ·obtain⟨b,ak,e,G,H,I,J⟩:=P.o k (by rw[HN.o];exact u);subst e;have g:=HB.o.trans q;replace G:=cLz g G;replace H:=cLz g H;replace I:=cLz g I;replace J:=cLz g J;have O:=T.o k u;have K:=F.o k u;have S:ϛ ((l.take (k+1)).flatMap Bq=(l.take k).flatMap Bq++Bq (l.getD k ϰ)):=D.o k u;obtain⟨E,Y⟩:=nM (Bq (l.getD k ϰ));rw[Y]at K S O;obtain⟨X,Z⟩:=nM (l.getD k ϰ);rw[Z]at K G H I J;clear Z;have KH:=hy K;have s:ϛ (WR wr c.heap.size B (f++AU n++(l.take k).flatMap Bq)/\Below c.heap.size w wr/\keepW w wr):=⟨y,q,N⟩;have aj:=q.size;have i1:(0:Int)<=(k:Int):=ϝ;have i2:(k:Int)<(n:Int):=ϝ;have HL:=hy O;have A:=hy g;clear K Y y q N g F P D O;go_wp2_with fail;have o:Ϝ wr (ξ wr #[vI X.1.k,vI X.1.n,.string X.1.s,vI X.2] 121):=Ϩ;refine(KH.o _ _ (A.o.trans (o.mono A.o.size)) (s.o.1.below o) ((HC.o.keep s.o.2.2).below o) (by have:=HL.o;simp only[lAp,Am];omega)).mono ?_;rintro e w2 ⟨rfl,ah,ac,ae⟩;go_wp2;go_roundw
   case rel=>exact⟨k+1,ϝ,by go_num,by rw[S.o,<-append_assoc];exact ah,s.o.2.1.trans ((o.mono A.o.size).trans ac),s.o.2.2.trans ((keepW.of o).trans ae)⟩
   case measure=>simp[intOf];omega
  ·have af:k=n:=ϝ;subst af;have i2:¬((k:Int)<(k:Int)):=ϝ;rw[Q.o]at y;go_wp2
   go_end0
   exact⟨rfl,y,q,N⟩
theorem Aat(c:ϙ)(C B:Nat)(d:List UInt8)(a:Ϛ)(cap:Nat)(l:List Tal)(w:ϙ)(q:Ϝ c w)(h:WR w c.heap.size B d)(f:WP w C B)(ha:bt.EV c a l)(o:∀x∈l,rowOk [(x).1])(k:l.length<=χ)(j:d.length+(Bo l).length<=8500000000000):
 η 109 #[vS a l.length cap,μ C] w (WO c.heap.size B w (d++Bo l)):=by
 have A:∀(i:Fn) (first cap:Array Value) (w:ϙ),(Instr.makeFunc i first cap).run Tryz.prog w= .ok (.func i first cap) w:=λ_ _ _ _=>rfl;have g:=hy (XM c C B d a cap l w q h f ha o k j);have z:=f.2;have y:=A2 f.1;unfold Bo;obtain⟨n,m⟩:=nM l.length;rw[m]at g⊢;clear ha o h f m k j;go_enter func109,ntmps109;go_wp2_with fail;refine g.o.mono ?_;rintro v D ⟨rfl,u,s,t⟩;go_wp2
 go_end0
 exact⟨rfl,u,s,t⟩
theorem XN(c:ϙ)(C B:Nat)(f:List UInt8)(a:Ϛ)(cap:Nat)(g:List (Option Addr×Nat×Nat))(l:List (List Tal))(w:ϙ)(J:Ϝ c w)(h:WR w c.heap.size B f)(hc:WP w C B)(ha:pl.IU c a g)(ab:g.length=l.length)(ac:∀i,i<l.length->(g.getD i (none,0,0)).2.1=(l.getD i []).length)(aa:∀i,i<l.length->bt.EV c (g.getD i (none,0,0)).1 (l.getD i []))(af:∀x∈l,x.length<=χ)(ho:∀x∈l,∀t∈id x,rowOk [t.1])(hn:l.length<=χ)(hl:f.length+(lst Bo l).length<=8500000000000):
 η 108 #[μ B,vS a l.length cap,.func (.func 109) #[] #[μ C]] w (WO c.heap.size B w (f++lst Bo l)):=by
 have ap:(lst Bo l).length=8+(l.flatMap Bo).length:=by unfold lst;rw[lAp,Am]
 have V:=hIz (λn=>BI c.heap.size B f n w J.size h ϝ);have P:=hy ha;have R:∀i,i<l.length->∀t∈id (l.getD i ϰ),rowOk [t.1]:=λi hi=>ho _ (by rw[gDe,gEe hi];exact getElem_mem hi);have T:ϛ (∀k,k<l.length->f.length+8+((l.take k).flatMap Bo).length+(Bo (l.getD k ϰ)).length<=8500000000000):=λk j=>by
  have G:=Dm Bo l k j;have W:=congrArg List.length (congrArg (λz=>z.flatMap Bo) (take_append_drop (k+1) l));simp only[flatMap_append,lAp]at W;rw[G,lAp]at W;omega
 have D:ϛ (∀k,k<l.length->(l.take (k+1)).flatMap Bo=(l.take k).flatMap Bo++Bo (l.getD k ϰ)):=λk j=>Dm Bo l k j;have Q:ϛ (f++AU l.length++(l.take l.length).flatMap Bo=f++lst Bo l):=by
  show _=_;unfold lst;rw[take_length,append_assoc]
 have F:ϛ (∀k,k<l.length->∀d o,Ϝ c d->WR d c.heap.size B o->WP d C B->o.length+(Bo (l.getD k ϰ)).length<=8500000000000->CT 109 #[vS (g.getD k (none,0,0)).1 (l.getD k ϰ).length (g.getD k (none,0,0)).2.2,μ C] d (WO c.heap.size B d (o++Bo (l.getD k ϰ)))):=λk j d o y G al ao=>Aat c C B o _ _ _ d y G al (aa k j) (R k j) (af _ (by rw[gDe,gEe j];exact getElem_mem j)) ao;obtain⟨n,m⟩:=nM l.length;have HN:=hqz m;rw[m]at D F hn T⊢;rw[m]at Q;have HC:=hqz hc;have HB:=hqz J;have ai:ϛ (g.length=n):=ab.trans m;have aj:ϛ (∀k,k<n->(g.getD k (none,0,0)).2.1=(l.getD k []).length):=by rw[<-m];exact ac
 clear ha ho m h hc J R ap hl ab ac aa af;go_enter func108,ntmps108;go_wp2_with fail;refine(V.o _).mono ?_;rintro e d ⟨rfl,ag,y,ae⟩;have U:ϛ (WR d c.heap.size B (f++AU n)/\Below c.heap.size w d/\keepW w d):=⟨ag,y,ae⟩;clear ag y ae V;go_wp2_with fail
 go_loopw [14] (λi wr=> ∃k:Nat,k<=n/\i=vI k/\WR wr c.heap.size B (f++AU n++(l.take k).flatMap Bo)/\Below c.heap.size w wr/\keepW w wr) (λi _=>n - (intOf i).toNat)
 case atStart=>exact⟨0,Nat.zero_le _,rfl,by simpa using U.o.1,U.o.2⟩
 case round=>
  obtain⟨k,j,rfl,A,q,N⟩:=hrel;by_cases s:k<n
  ·obtain⟨b,au,e,v⟩:=P.o k (by rw[ai.o];exact s);subst e;have L:=HB.o.trans q;replace v:=cLz L v;have O:=T.o k s;have K:=F.o k s;have S:ϛ ((l.take (k+1)).flatMap Bo=(l.take k).flatMap Bo++Bo (l.getD k ϰ)):=D.o k s;obtain⟨E,Y⟩:=nM (Bo (l.getD k ϰ));rw[Y]at K S O;rw[aj.o k s]at v;obtain⟨X,H⟩:=nM ((l.getD k ϰ).length);obtain⟨ad,I⟩:=nM ((g.getD k (none,0,0)).1);obtain⟨cp,M⟩:=nM ((g.getD k (none,0,0)).2.2);have Z:(l.getD k []).length=X:=H;rw[H,I,M]at K;rw[Z,I,M]at v;clear H I M Z;have KH:=hy K;have u:ϛ (WR wr c.heap.size B (f++AU n++(l.take k).flatMap Bo)/\Below c.heap.size w wr/\keepW w wr):=⟨A,q,N⟩;have ar:=q.size;have i1:(0:Int)<=(k:Int):=ϝ;have i2:(k:Int)<(n:Int):=ϝ;have HL:=hy O;have ah:=hy L;clear K Y A q N L F P D O;go_wp2_with fail;refine(KH.o _ _ ah.o u.o.1 (HC.o.keep u.o.2.2) (by have:=HL.o;simp only[lAp,Am];omega)).mono ?_;rintro e w2 ⟨rfl,aq,ak,am⟩;go_wp2;go_roundw
   case rel=>exact⟨k+1,ϝ,by go_num,by rw[S.o,<-append_assoc];exact aq,u.o.2.1.trans ak,u.o.2.2.trans am⟩
   case measure=>simp[intOf];omega
  ·have an:k=n:=ϝ;subst an;have i2:¬((k:Int)<(k:Int)):=ϝ;rw[Q.o]at A;go_wp2
   go_end0
   exact⟨rfl,A,q,N⟩
def Aau(g:gr.Grp):Prop:=rowOk g.row/\(∀x∈g.bags,∀t∈id x,rowOk [t.1])/\g.bags.length<=χ/\∀x∈g.bags,x.length<=χ
theorem Ub(c:ϙ)(B:Nat)(i:List UInt8)(x:gr.GX)(g:gr.Grp)(w:ϙ)(l:Ϝ c w)(h:WR w c.heap.size B i)(ha:gr.gAt c x g)(j:Aau g)(v:i.length+(AM g).length<=8500000000000):
 η 56 #[μ B,gr.Hz x g] w (WO c.heap.size B w (i++AM g)):=by
 have aa:∀(H:Fn) (first G:Array Value) (w:ϙ),(Instr.makeFunc H first G).run Tryz.prog w= .ok (.func H first G) w:=λ_ _ _ _=>rfl;have S:=N7 j.1;have F:=hIz (λ(a:ϙ) (f:Ϝ w a)=>GI c.heap.size B i x.r x.rc g.row a (Nat.le_trans l.size f.size) (h.below f) ϝ (vl.Ab (vl.Ab ha.row l) f) (DL j.1).1 j.1.1 (DL j.1).2);have N:ϛ (∀a,WR a c.heap.size B (i++C7 g.row)->c.heap.size<=a.heap.size->CT 60 #[μ B,vI g.n] a (WO c.heap.size B a (i++C7 g.row++AU g.n))):=λa A f=>BI c.heap.size B _ g.n a f A (by rw[lAp];omega);have u:ϛ (∀C a,Ϝ c a->WR a c.heap.size B (i++C7 g.row++AU g.n)->WP a C B->CT 108 #[μ B,vS x.b g.bags.length x.bc,.func (.func 109) #[] #[μ C]] a (WO c.heap.size B a (i++AM g))):=λC a f A Q=>by
  have:=XN c C B _ x.b x.bc x.hs g.bags a f A Q ha.hs ha.len ha.hl ha.bag j.2.2.2 j.2.1 j.2.2.1 (by unfold AM at v;simp only[lAp]at v⊢;omega);unfold AM;simp only[append_assoc]at this⊢;exact this
 obtain⟨E,K⟩:=nM (AM g);rw[K]at u⊢;unfold gr.Hz;have Y:=hqz h;obtain⟨X,I⟩:=nM g.row.length;obtain⟨n,J⟩:=nM g.bags.length;rw[I]at F⊢;rw[J]at u⊢;clear ha j v K S h I J;go_enter func56,ntmps56;go_wp2_with fail;generalize k:(World.alloc (World.alloc w _) _)=V;have o:Ϝ w V:=by rw[<-k];exact Ϩ.alloc ϟ _
 have y:=World.alloc_heap_new (ξ w #[μ B] 66) (.cells #[vS x.r X x.rc,vI g.n,vS x.b n x.bc] 102);rw[World.size_alloc,k]at y;have z:Ai V (w+1) 102:=⟨_,_,y⟩;have d:ϛ (CW V (w.heap.size+1) 102 1 (vI g.n)/\CW V (w.heap.size+1) 102 2 (vS x.b n x.bc)/\WP V w.heap.size B):=
  ⟨⟨z,by subst k;go_simp⟩,⟨z,by subst k;go_simp⟩,⟨by subst k;exact Ad ⟨_,_,World.alloc_heap_new _ _⟩ Ϩ,by subst k;go_simp⟩⟩
 clear k z y;refine(F.o V o).mono ?_;rintro e a ⟨rfl,T,f,m⟩;replace d:ϛ (CW a (w.heap.size+1) 102 1 (vI g.n)/\CW a (w.heap.size+1) 102 2 (vS x.b n x.bc)/\WP a w.heap.size B):=⟨d.o.1.keep m Ϟ Ϟ,d.o.2.1.keep m Ϟ Ϟ,d.o.2.2.keep m⟩;have q:Below c.heap.size w a:=(o.mono l.size).trans f;have t:keepW w a:=(keepW.of o).trans m;have M:=d.o.2.2.2;have O:=d.o.1.2;clear f m o;go_wp2_with fail;refine(N.o a T (Nat.le_trans l.size t.1.size)).mono ?_;rintro e D ⟨rfl,U,L,s⟩;replace d:ϛ (CW D (w.heap.size+1) 102 2 (vS x.b n x.bc)/\WP D w.heap.size B):=⟨d.o.2.1.keep s Ϟ Ϟ,d.o.2.2.keep s⟩;replace q:=q.trans L;replace t:=t.trans s;clear M O L s;have M:=d.o.2.2;have Z:=d.o.1.2;go_wp2_with fail;refine(u.o w.heap.size D (l.trans q) U d.o.2).mono ?_;rintro e w3 ⟨rfl,W,P,R⟩;go_wp2
 go_end0
 exact⟨rfl,W,q.trans P,t.trans R⟩
theorem XO(a:ϙ)(C B:Nat)(c:List UInt8)(x:gr.GX)(g:gr.Grp)(w:ϙ)(l:Ϝ a w)(h:WR w a.heap.size B c)(i:WP w C B)(ha:gr.gAt a x g)(n:Aau g)(m:c.length+(AM g).length<=8500000000000):
 η 55 #[gr.Hz x g,μ C] w (WO a.heap.size B w (c++AM g)):=by
 have k:=hIz (λ(j:ϙ) (d:Ϝ w j)=>Ub a B c x g j (bT l d) (h.below d) ha n m);have u:=i.2;have t:=A2 i.1;unfold gr.Hz at k⊢;clear ha n h i m;go_enter func55,ntmps55;go_wp2_with fail;have f:Ϝ w (ξ w #[vS x.r g.row.length x.rc,vI g.n,vS x.b g.bags.length x.bc] 102):=Ϩ;refine(k.o _ f).mono ?_;rintro s j ⟨rfl,q,d,o⟩;go_wp2
 go_end0
 exact⟨rfl,q,(f.mono l.size).trans d,(keepW.of f).trans o⟩
theorem XP(c:ϙ)(C B:Nat)(f:List UInt8)(a:Ϛ)(cap:Nat)(j:List gr.GX)(l:List gr.Grp)(w:ϙ)(N:Ϝ c w)(h:WR w c.heap.size B f)(hc:WP w C B)(ha:gr.gsAt c a j l)(ho:∀x∈l,Aau x)(hn:l.length<=χ)(hl:f.length+(lst AM l).length<=8500000000000):
 η 54 #[μ B,vS a l.length cap,.func (.func 55) #[] #[μ C]] w (WO c.heap.size B w (f++lst AM l)):=by
 have ah:(lst AM l).length=8+(l.flatMap AM).length:=by unfold lst;rw[lAp,Am]
 have W:=hIz (λn=>BI c.heap.size B f n w N.size h ϝ);have Q:=hy ha;have S:∀i,i<l.length->Aau (l.getD i ϰ):=λi hi=>ho _ (by rw[gDe,gEe hi];exact getElem_mem hi);have U:ϛ (∀k,k<l.length->f.length+8+((l.take k).flatMap AM).length+(AM (l.getD k ϰ)).length<=8500000000000):=λk g=>by
  have L:=Dm AM l k g;have Z:=congrArg List.length (congrArg (λz=>z.flatMap AM) (take_append_drop (k+1) l));simp only[flatMap_append,lAp]at Z;rw[L,lAp]at Z;omega
 have F:ϛ (∀k,k<l.length->(l.take (k+1)).flatMap AM=(l.take k).flatMap AM++AM (l.getD k ϰ)):=λk g=>Dm AM l k g;have R:ϛ (f++AU l.length++(l.take l.length).flatMap AM=f++lst AM l):=by
  show _=_;unfold lst;rw[take_length,append_assoc]
 have G:ϛ (∀k,k<l.length->∀d m,Ϝ c d->WR d c.heap.size B m->WP d C B->m.length+(AM (l.getD k ϰ)).length<=8500000000000->CT 55 #[.agg #[vS (j.getD k ϰ).r (l.getD k ϰ).row.length (j.getD k ϰ).rc,vI (l.getD k ϰ).n,vS (j.getD k ϰ).b (l.getD k ϰ).bags.length (j.getD k ϰ).bc],μ C] d (WO c.heap.size B d (m++AM (l.getD k ϰ)))):=λk g d m u L ad ag=>XO c C B m _ _ d u L ad (ha.each k g) (S k g) ag;obtain⟨n,y⟩:=nM l.length;have HN:=hqz y;rw[y]at F G hn U⊢;rw[y]at R;have HC:=hqz hc;have HB:=hqz N;clear ha ho y h hc N S ah hl;go_enter func54,ntmps54;go_wp2_with fail;refine(W.o _).mono ?_;rintro e d ⟨rfl,ab,u,aa⟩;have V:ϛ (WR d c.heap.size B (f++AU n)/\Below c.heap.size w d/\keepW w d):=⟨ab,u,aa⟩;clear ab u aa W;go_wp2_with fail
 go_loopw [14] (λi wr=> ∃k:Nat,k<=n/\i=vI k/\WR wr c.heap.size B (f++AU n++(l.take k).flatMap AM)/\Below c.heap.size w wr/\keepW w wr) (λi _=>n - (intOf i).toNat)
 case atStart=>exact⟨0,Nat.zero_le _,rfl,by simpa using V.o.1,V.o.2⟩
 case round=>
  obtain⟨k,g,rfl,A,s,O⟩:=hrel;by_cases v:k<n
  ·obtain⟨b,ak,e,H,I,J⟩:=Q.o.cells k (by rw[HN.o];exact v);subst e;have o:=HB.o.trans s;replace H:=cLz o H;replace I:=cLz o I;replace J:=cLz o J;have P:=U.o k v;have K:=G.o k v;have T:ϛ ((l.take (k+1)).flatMap AM=(l.take k).flatMap AM++AM (l.getD k ϰ)):=F.o k v;obtain⟨E,hE⟩:=nM (AM (l.getD k ϰ));rw[hE]at K T P;obtain⟨X,M⟩:=nM (l.getD k ϰ);obtain⟨Y,hY⟩:=nM (j.getD k ϰ);rw[M,hY]at K H J;rw[M]at I;clear M hY;have KH:=hy K;have t:ϛ (WR wr c.heap.size B (f++AU n++(l.take k).flatMap AM)/\Below c.heap.size w wr/\keepW w wr):=⟨A,s,O⟩;have aj:=s.size;have i1:(0:Int)<=(k:Int):=ϝ;have i2:(k:Int)<(n:Int):=ϝ;have HL:=hy P;have D:=hy o;clear K hE A s O o G Q F P;go_wp2_with fail;have q:Ϝ wr (ξ wr #[vS Y.r X.row.length Y.rc,vI X.n,vS Y.b X.bags.length Y.bc] 102):=Ϩ;refine(KH.o _ _ (D.o.trans (q.mono D.o.size)) (t.o.1.below q) ((HC.o.keep t.o.2.2).below q) (by have:=HL.o;simp only[lAp,Am];omega)).mono ?_;rintro e w2 ⟨rfl,ai,ac,ae⟩;go_wp2;go_roundw
   case rel=>exact⟨k+1,ϝ,by go_num,by rw[T.o,<-append_assoc];exact ai,t.o.2.1.trans ((q.mono D.o.size).trans ac),t.o.2.2.trans ((keepW.of q).trans ae)⟩
   case measure=>simp[intOf];omega
  ·have af:k=n:=ϝ;subst af;have i2:¬((k:Int)<(k:Int)):=ϝ;rw[R.o]at A;go_wp2
   go_end0
   exact⟨rfl,A,s,O⟩
theorem Aav{R:List UInt8×Int}{l:List UInt8}{i:Int}{q:ByteArray}(h:(l,i)=R)(a:(⟨l.toArray⟩:ByteArray)=q):Ending.returned (.tuple #[.string q,vI i])= .returned (.tuple #[.string ⟨R.1.toArray⟩,vI R.2]):=by
 subst h a;rfl
structure okEW(e:Egg):Prop where
 l:okBW e.j.L
 r:okBW e.j.R
 g:∀x∈e.gs,Aau x
 gn:e.gs.length<=χ
 v:∀c∈e.v,okC c
 vn:e.v.length<=10000
theorem SB.keepW{N:Nat}{T:TypeId}{f:List Value}(h:SB w N f/\Ai w N T)(c:T≠5)(d:T≠64)(a:cd.keepW w w'):SB w' N f/\Ai w' N T:=
 ⟨h.1.same (a.2 N T h.2 c d) a.1.size,A0 h.2 (a.2 N T h.2 c d)⟩
theorem Uc{s:Jn}(a:okBW s.L)(c:okBW s.R):(FY s).length<=90000000:=by
 have d:=Ou a;have f:=Ou c;unfold FY;simp only[lAp,Am];omega
theorem Su(d:ϙ)(B:Nat)(g:List UInt8)(e:Egg)(y:GGX)(w:ϙ)(n:Ϝ d w)(h:WR w d.heap.size B g)(ha:eggAt d e y)(j:okEW e)(O:g.length+(lst AM e.gs).length<=3000000000000):
 η 28 #[μ B,egV e y] w (WO d.heap.size B w (g++Cc e)):=by
 have S:∀(D:Fn) (first A:Array Value) (w:ϙ),(Instr.makeFunc D first A).run Tryz.prog w= .ok (.func D first A) w:=λ_ _ _ _=>rfl;have M:=Uc j.l j.r;have z:=hIz (λ(c:ϙ) (l:Ϝ d c) (k:WR c d.heap.size B g)=>YJ d B g e.j y.y c l k ha.j j.l j.r ϝ);have J:ϛ (∀C c,Ϝ d c->WR c d.heap.size B (g++FY e.j)->WP c C B->CT 54 #[μ B,vS y.ga e.gs.length y.gc,.func (.func 55) #[] #[μ C]] c (WO d.heap.size B c (g++FY e.j++lst AM e.gs))):=λC c l k x=>XP d C B _ y.ga y.gc y.xs e.gs c l k x ha.g j.g j.gn (by simp only[lAp];omega);have KV:ϛ (∀C c,Ϝ d c->WR c d.heap.size B (g++FY e.j++lst AM e.gs)->WP c C B->CT 57 #[μ B,vS y.va e.v.length y.vc,.func (.func 58) #[] #[μ C]] c (WO d.heap.size B c (g++Cc e))):=λC c l k x=>by
  have:=ZK d C B _ y.va y.vc e.v c l k x ha.v j.v j.vn (by simp only[lAp];omega);have K:Hx e.v=lst Ci e.v:=rfl;rw[K]at this;unfold Cc;simp only[append_assoc]at this⊢;exact this
 rw[AK]at z;have R:ϛ (egC e y=egC e y):=rfl;unfold egV egC;clear ha j O M;go_enter func28,ntmps28;go_wp2_with fail;generalize m:(World.alloc (World.alloc w _) _)=V;have q:Ϝ w V:=by rw[<-m];exact Ϩ.alloc ϟ _
 have a:ϛ (SB V (w.heap.size+1) (egC e y)/\Ai V (w+1) 42):=by
  subst m;have k:=SB.new (ξ w #[μ B] 66) (egC e y) 42;have E:=World.alloc_heap_new (ξ w #[μ B] 66) (.cells (egC e y).toArray 42);rw[World.size_alloc]at k E;exact⟨k,_,_,E⟩
 have i:ϛ (WP V w.heap.size B):=by
  subst m;exact⟨Ad ⟨_,_,World.alloc_heap_new _ _⟩ Ϩ,ϡ⟩
 have f:ϛ (keepW w V/\Below d.heap.size w V):=⟨keepW.of q,q.mono n.size⟩;have F:Ϝ d V:=n.trans f.o.2;have H:WR V d.heap.size B g:=h.below q;clear m q h;have u0:=a.o.1.cell 0 _ rfl;have u1:=a.o.1.cell 1 _ rfl;have u2:=a.o.1.cell 2 _ rfl;have u3:=a.o.1.cell 3 _ rfl;have u4:=a.o.1.cell 4 _ rfl;have u5:=a.o.1.cell 5 _ rfl;have u6:=a.o.1.cell 6 _ rfl;have u7:=a.o.1.cell 7 _ rfl;have u8:=a.o.1.cell 8 _ rfl;have u9:=a.o.1.cell 9 _ rfl;have u10:=a.o.1.cell 10 _ rfl;have u:=i.o.2;refine(z.o V F H).mono ?_;rintro o c ⟨rfl,I,l,s⟩;replace a:=hy (SB.keepW a.o Ϟ Ϟ s);replace i:ϛ (WP c w.heap.size B):=i.o.keep s;replace f:ϛ (keepW w c/\Below d.heap.size w c):=⟨f.o.1.trans s,f.o.2.trans l⟩;clear u0 u1 u2 u3 u4 u5 u6 u7 u8 u9 u10 u H F s l;have u0:=a.o.1.cell 0 _ rfl;have u1:=a.o.1.cell 1 _ rfl;have u2:=a.o.1.cell 2 _ rfl;have u3:=a.o.1.cell 3 _ rfl;have u4:=a.o.1.cell 4 _ rfl;have u5:=a.o.1.cell 5 _ rfl;have u6:=a.o.1.cell 6 _ rfl;have u7:=a.o.1.cell 7 _ rfl;have u8:=a.o.1.cell 8 _ rfl;have u9:=a.o.1.cell 9 _ rfl;have u10:=a.o.1.cell 10 _ rfl;have u:=i.o.2;go_wp2_with fail;refine(J.o _ c (n.trans f.o.2) I i.o).mono ?_;rintro o v ⟨rfl,P,G,t⟩;replace a:=hy (SB.keepW a.o Ϟ Ϟ t);replace i:ϛ (WP v w.heap.size B):=i.o.keep t;replace f:ϛ (keepW w v/\Below d.heap.size w v):=⟨f.o.1.trans t,f.o.2.trans G⟩;clear u0 u1 u2 u3 u4 u5 u6 u7 u8 u9 u10 u I t G;have u0:=a.o.1.cell 0 _ rfl;have u1:=a.o.1.cell 1 _ rfl;have u2:=a.o.1.cell 2 _ rfl;have u3:=a.o.1.cell 3 _ rfl;have u4:=a.o.1.cell 4 _ rfl;have u5:=a.o.1.cell 5 _ rfl;have u6:=a.o.1.cell 6 _ rfl;have u7:=a.o.1.cell 7 _ rfl;have u8:=a.o.1.cell 8 _ rfl;have u9:=a.o.1.cell 9 _ rfl;have u10:=a.o.1.cell 10 _ rfl;have u:=i.o.2;go_wp2_with fail;refine(KV.o _ v (n.trans f.o.2) P i.o).mono ?_;rintro o T ⟨rfl,Q,L,N⟩;go_wp2
 go_end0
 exact⟨rfl,Q,f.o.2.trans L,f.o.1.trans N⟩
noncomputable def wrS(p:pl.Pln)(e:Egg):List UInt8×Int:=if Bp p e≠0 then([],Bp p e)else if 1048576<(Cc e).length then([],2)else(Cc e,0)
theorem Jm(p:pl.Pln)(x:pl.PA)(e:Egg)(y:GGX)(w:ϙ)(I:pl.wfPlan p)(H:pl.planAt w p x)(ha:eggAt w e y)(J:wfEg e)(v:Bp p e=0->okEW e/\(lst AM e.gs).length<=3000000000000):
 η 16 #[pl.Ap p x,egV e y] w (θ w (.tuple #[.string ⟨(wrS p e).1.toArray⟩,vI (wrS p e).2])):=by
 have i:=hIz (λ(a:ϙ) (k:Ϝ w a)=>LC p x e y a I (pl.Ae H k) (ha.below k) J);have j:ϛ (Bp p e=0->∀B a,Ϝ w a->WR a w.heap.size B []->CT 28 #[μ B,egV e y] a (WO w.heap.size B a (Cc e))):=λC B a k g=>by
  have:=Su w B [] e y a k g ha (v C).1 (by have:=(v C).2;simpa using this);rw[nil_append]at this;exact this
 have A:ϛ (∀B a,WR a w.heap.size B (Cc e)->CT 29 #[μ B] a λo w'=>o= .returned (.string ⟨(Cc e).toArray⟩)/\w'=a):=λB a g=>Wk _ B _ a g;obtain⟨R,m⟩:=nM (wrS p e);have d:=hqz m;rw[m];unfold wrS at d;obtain⟨E,D⟩:=nM (Cc e);obtain⟨X,F⟩:=nM (Bp p e);rw[D]at j A d;rw[F]at i j d;clear D F I H ha J v m;unfold pl.Ap at i⊢;unfold egV egC at i j⊢;go_enter func16,ntmps16;go_wp2_with fail;generalize n:(World.alloc (World.alloc w _) _)=V;have s:Ϝ w V:=by rw[<-n];exact Ϩ.alloc ϟ _
 have c:ϛ (SB V (w.heap.size+1) (egC e y)):=by
  subst n;have g:=SB.new (ξ w (Φ p x) 32) (egC e y) 42;rw[World.size_alloc]at g;exact g
 clear n;refine(i.o V s).mono ?_;rintro o a ⟨rfl,t⟩;have f:Ϝ w a:=bT s t;replace c:=hy (c.o.below t);clear t s i;by_cases z:X=0
 rotate_left
 ·have P:(X !=0)=true:=by simpa using z
  rw[if_pos z]at d;go_wp2
  go_ret2
  exact⟨Aav d.o rfl,f⟩
 subst z;rw[if_neg Ϟ]at d;have u0:=c.o.cell 0 _ rfl;have u1:=c.o.cell 1 _ rfl;have u2:=c.o.cell 2 _ rfl;have u3:=c.o.cell 3 _ rfl;have u4:=c.o.cell 4 _ rfl;have u5:=c.o.cell 5 _ rfl;have u6:=c.o.cell 6 _ rfl;have u7:=c.o.cell 7 _ rfl;have u8:=c.o.cell 8 _ rfl;have u9:=c.o.cell 9 _ rfl;have u10:=c.o.cell 10 _ rfl;have Q:=c.o.lt;go_wp2_with fail;have u:Ϝ a (ξ a #[ψ] 64):=Ϩ;refine(j.o ϥ _ _ (bT f u) ((SY a).mono f.size)).mono ?_;rintro o S ⟨rfl,N,G,O⟩;go_wp2_with fail;refine(A.o _ _ N).mono ?_;rintro o T ⟨rfl,rfl⟩;have l:(⟨E.toArray⟩:ByteArray).size=E.length:=size_mk E;by_cases K:1048576<E.length
 ·rw[if_pos K]at d;obtain⟨q,h⟩:∃q,(⟨E.toArray⟩:ByteArray)=q:=⟨_,rfl⟩;rw[h]at l⊢;have M:(1048576:Int)<(q.size:Int):=ϝ;clear l h;go_wp2
  go_ret2
  exact⟨Aav d.o rfl,f.trans ((u.mono f.size).trans G)⟩
 ·rw[if_neg K]at d;obtain⟨q,h⟩:∃q,(⟨E.toArray⟩:ByteArray)=q:=⟨_,rfl⟩;have L:=hqz h;rw[h]at l⊢;have M:(q.size:Int)<=1048576:=ϝ;clear l h;go_wp2
  go_ret2
  exact⟨Aav d.o L.o,f.trans ((u.mono f.size).trans G)⟩
theorem I4(h:A5 r=0)(d:B9 r):rowOk r:=by
 unfold A5 at h;split at h
 ·cases h
 ·rename_i f;exact⟨ϝ,λc a=>⟨H3 h c a,d c a⟩⟩
theorem OX{k:ByteArray}(h:isKey k):k.size<=1048:=by
 obtain⟨r,a,e⟩:=h;have d:=Dh r (λc f=>(a.2 c f).1);rw[e,AL]at d;have:=a.1;omega
theorem LU{α:Type}{f:α->List UInt8}{l:List α}{x:α}(h:x∈l):(f x).length<=(l.flatMap f).length:=by
 induction l with
 |nil=>cases h
 |cons y l ih=>
  rw[flatMap_cons,lAp];rcases mem_cons.1 h with rfl|h
  ·omega
  ·have:=ih h;omega
theorem Sv:∀{l:List (List Ent)},(∀r∈l,0<r.length)->l.length<=l.flatten.length
 |[],_=>by simp
 |r::l,h=>by
  have c:=h r (mem_cons_self ..);have d:=Sv (l:=l) (λx a=>h x (mem_cons_of_mem _ a));rw[flatten_cons,lAp,length_cons];omega
theorem Vq{m:Int}(h:Ei m=true):okN m:=by
 unfold Ei noMark tm.Br at h;unfold okN;simp only[Bool.or_eq_true,decide_eq_true_eq,Bool.and_eq_true]at h;omega
theorem Vr{f:Int}:∀{l:List Tal} {rest:Int} {d:Option Cel},gr.Dq f rest d l=true->∀t∈l,t.1.ok
 |[],_,_,_,t,a=>by cases a
 |u::l,rest,d,h,t,a=>by
  rw[gr.Dq,Bool.and_eq_true]at h;rcases mem_cons.1 a with rfl|a
  ·have c:=h.1;unfold gr.Lg gr.PZ at c;simp only[Bool.and_eq_true,decide_eq_true_eq]at c;exact c.1.1.1.1
  ·exact Vr h.2 t a
structure goodE(p:pl.Pln)(e:Egg):Prop where
 j:okJ p e.j
 g:∀g∈e.gs,A5 g.row=0/\∀l∈g.bags,∀t∈l,t.1.ok
 v:∀c∈e.v,A5 c.r=0
 vn:e.v.length<=4096
theorem Aco{a:List gr.Grp}(h:gr.FC p a=0):∀g∈a,A5 g.row=0/\∀l∈g.bags,∀t∈l,t.1.ok:=by
 unfold gr.FC at h;split at h
 ·rename_i k;exact absurd h k
 split at h
 ·cases h
 split at h
 ·cases h
 split at h
 ·cases h
 rename_i s;have m:pl.allB a.length (gr.Ji p a)=true:=by simpa using s
 rw[pl.A9]at m;intro g u;obtain⟨i,n,rfl⟩:=getElem_of_mem u;have k:=m i n;have e:a.getD i ϰ=a[i]:=by rw[gDe,gEe n];rfl
 unfold gr.Ji at k;rw[e]at k;simp only[Bool.and_eq_true,decide_eq_true_eq]at k;refine⟨k.1.1.1.1,λl v t d=>?_⟩;have f:=k.2;unfold gr.Ka at f;rw[Bool.and_eq_true,pl.A9]at f;obtain⟨j,o,rfl⟩:=getElem_of_mem v;have c:=f.2 j o;have q:(a[i]).bags.getD j []=(a[i]).bags[j]:=by rw[gDe,gEe o];rfl
 unfold gr.Qa at c;rw[q]at c;split at c
 ·have:(a[i]).bags[j].length=0:=by simpa using c
  rw[length_eq_zero_iff.1 this]at d
  cases d
 ·exact Vr c t d
theorem GV(h:Bp p e=0):goodE p e:=by
 unfold Bp at h;by_cases d:AQ p e.j=0
 ·rw[if_neg (by simp[d])]at h;by_cases a:GH p e.gs=0
  ·rw[if_neg (by simp[a])]at h;by_cases f:ch.Ar e.v=0
   ·have l:=bt.Qd f;refine⟨(Dl d).2,?_,λc m=>by
     obtain⟨i,j,rfl⟩:=getElem_of_mem m;have k:=l.2 i j;unfold ch.FW at k;rw[gDe,gEe j]at k;exact k.1,l.1⟩
    unfold GH at a;split at a
    ·exact Aco a
    ·split at a
     ·cases a
     ·rename_i k;have:e.gs=[]:=length_eq_zero_iff.1 ϝ;rw[this];intro g n
      cases n
   ·rw[if_pos f]at h;exact absurd h f
  ·rw[if_pos a]at h;exact absurd h a
 ·rw[if_pos d]at h;exact absurd h d
theorem Acp{y:Ent}(h:Eh y)(f:wfE y)(a:wfP (Bd y)):Eg y:=by
 obtain⟨c,d,g,i,j⟩:=h;have k:=OX c;exact⟨by unfold okT;rw[AL];omega,a.time,a.seq,I4 d f.row⟩
theorem Vs:(∀y∈b.mem,y∈Ac b)/\∀r∈b.runs,∀y∈r,y∈Ac b:=
 ⟨λy h=>mem_flatten.2 ⟨_,mem_cons_self ..,h⟩,λr a y h=>mem_flatten.2 ⟨r,mem_cons_of_mem _ a,h⟩⟩
theorem Sw(h:okB b):∀y∈Ac b,Eh y:=λy hy=>by
 obtain⟨l,a,c⟩:=mem_flatten.1 hy;exact h.fine l a y c
theorem Lp(b:Buf):(Ac b).length=b.mem.length+b.runs.flatten.length:=by
 show(b.mem::b.runs).flatten.length=_;rw[flatten_cons,lAp]
theorem Sx(h:okB b):b.runs.length<=4096:=by
 have c:=Sv h.full;have a:=h.all;rw[Lp]at a;omega
theorem Aaw(h:okB b)(c:wfB b)(f:b.lim=p.limit):Lr p.limit b:=by
 have hy:∀y∈Ac b,Eg y:=λy hy=>Acp (Sw h y hy) (c.ents y hy).1 (c.ents y hy).2;have d:=h.all;rw[Lp]at d;refine⟨f,⟨ϝ,λy k=>hy y (Vs.1 y k)⟩,⟨by have:=Sx h;omega,λr a=>⟨?_,λy k=>hy y (Vs.2 r a y k)⟩⟩⟩;have:=EU a;omega
theorem Aax(h:okB b)(c:wfB b):okBW b:=by
 refine⟨λy hy=>?_,by have:=h.all;omega,by have:=Sx h;omega⟩;obtain⟨d,a,g⟩:=Sw h y hy;have f:=I4 a (c.ents y hy).1.row;exact⟨by have:=OX d;omega,(c.ents y hy).1.row,f.1,a⟩
theorem Aay{t:Tal}(h:t.1.ok)(d:t.1.wf):rowOk [t.1]:=⟨ϟ,λc a=>by rw[mem_singleton.1 a];exact⟨h,d⟩⟩
theorem Ud{g:gr.Grp}(h:gr.wfG g):∀l∈g.bags,∀t∈l,t.1.wf/\okN t.2:=λl a t c=>⟨⟨((h.tl l a).2 t c).2.1,((h.tl l a).2 t c).1⟩,((h.tl l a).2 t c).2.2⟩
theorem Qn(h:goodE p e)(a:wfEg e):okEW e where
 l:=Aax h.j.L a.j.l
 r:=Aax h.j.R a.j.r
 g:=λg d=>⟨I4 (h.g g d).1 (a.g g d).row,λl i t j=>Aay ((h.g g d).2 l i t j) (Ud (a.g g d) l i t j).1,(a.g g d).bl,λl i=>((a.g g d).tl l i).1⟩
 gn:=a.gl
 v:=λc f=>⟨(a.v c f).1,(I4 (h.v c f) (a.v c f).1).1,h.v c f⟩
 vn:=by have:=h.vn;omega
theorem Km(h:goodE p e)(a:wfEg e):Fb p.limit e:=
 ⟨⟨Aaw h.j.L a.j.l h.j.ll,Aaw h.j.R a.j.r h.j.rl,Vq h.j.lm,Vq h.j.rm,a.j.seq⟩,
  ⟨a.gl,λg d=>⟨I4 (h.g g d).1 (a.g g d).row,(a.g g d).n,(a.g g d).bl,λl f=>⟨((a.g g d).tl l f).1,λt j=>⟨Aay ((h.g g d).2 l f t j) (Ud (a.g g d) l f t j).1,(Ud (a.g g d) l f t j).2⟩⟩⟩⟩,
  ⟨a.n,λc i=>⟨I4 (h.v c i) (a.v c i).1,(a.v c i).2.2⟩⟩⟩
theorem N8{A:Int}(h:Fb A e)(a:(Cc e).length<=1048576):wfEg e:=by
 obtain⟨⟨D,E,K,L,C⟩,u,k⟩:=h;unfold Cc FY at a;simp only[lAp]at a;have ent:∀{b:Buf},Lr A b->(Cp b).length<=1048576->wfB b:=λ{b} s j=>by
  have M:(lst AN b.mem).length+(lst (lst AN) b.runs).length<=1048576:=by rw[Kt]at j;unfold Ac7 ptB cat at j;rw[lAp]at j;exact j
  have one:∀{l:List Ent},(∀y∈l,Eg y)->(lst AN l).length<=1048576->∀y∈l,wfE y/\wfP (Bd y):=λ{l} G i y hy=>by
   have x:=LU (f:=AN) hy;have z:(lst AN l).length=8+(l.flatMap AN).length:=by unfold lst;rw[lAp,Am]
   have H:y.key.size<=(AN y).length:=by
    unfold AN;simp only[lAp,Iv,AL];omega
   obtain⟨o,q,d,B⟩:=G y hy;exact⟨⟨ϧ,(DL B).1,by have:=B.1;omega⟩,⟨by show y.key.size<=maxLen;unfold maxLen;omega,q,d⟩⟩
  refine⟨λy hy=>?_,?_⟩
  ·obtain⟨l,i,v⟩:=mem_flatten.1 hy;rcases mem_cons.1 i with rfl|i
   ·exact one s.2.1.2 ϝ y v
   ·refine one (s.2.2.2 l i).2 ?_ y v;have x:=LU (f:=lst AN) i;have z:(lst (lst AN) b.runs).length=8+(b.runs.flatMap (lst AN)).length:=by unfold lst;rw[lAp,Am]
    omega
  ·have x:=E6 Td b.mem;have z:(lst AN b.mem).length=8+(b.mem.flatMap AN).length:=by unfold lst;rw[lAp,Am]
   have H:(lst (lst AN) b.runs).length=8+(b.runs.flatMap (lst AN)).length:=by unfold lst;rw[lAp,Am]
   have I:∀l:List (List Ent),8 * l.flatten.length<=(l.flatMap (lst AN)).length:=λl=>by
    induction l with
    |nil=>simp
    |cons r l ih=>
     have J:=E6 Td r;have N:(lst AN r).length=8+(r.flatMap AN).length:=by unfold lst;rw[lAp,Am]
     rw[flatMap_cons,lAp,flatten_cons,lAp];omega
   have J:=I b.runs;rw[Lp];omega
 refine⟨⟨ent D ϝ,ent E ϝ,C⟩,λg F=>?_,u.1,λc m=>⟨(DL (k.2 c m).1).1,by have:=(k.2 c m).1.1;omega,(k.2 c m).2⟩,k.1⟩;obtain⟨o,q,d⟩:=u.2 g F;exact⟨(DL o).1,by have:=o.1;omega,q,d.1,λl a=>⟨(d.2 l a).1,λt n=>⟨(((d.2 l a).2 t n).1.2 t.1 ϟ).2.2,(((d.2 l a).2 t n).1.2 t.1 ϟ).2.1,((d.2 l a).2 t n).2⟩⟩⟩
def zEg:Egg:=⟨j0,[],[]⟩
def zGx:GGX:=⟨jx0,none,0,[],none,0⟩
def RdR(p:pl.Pln)(s:List UInt8)(w:World)(o:Ending)(w':World):Prop:=
 Ϝ w w'/\((pl.Ag p≠0/\o= .returned (.tuple #[egV zEg zGx,vI (pl.Ag p)]))\/
  (pl.Ag p=0/\∃e x,Fb p.limit e/\s=Cc e/\s.length<=1048576/\Bp p e=0/\o= .returned (.tuple #[egV e x,ω])/\eggAt w' e x)\/
  (pl.Ag p=0/\(∀e,Fb p.limit e->s=Cc e->s.length<=1048576->Bp p e≠0)/\o= .returned (.tuple #[egV zEg zGx,vI 1])))
theorem OE1.below{x:GGX}{a:List (gr.GX×gr.Grp)}{c:List ((Option Addr×Nat)×ch.Cnt)}{b:Nat}(h:OE1 x a c e w b)(d:Ϝ w w'):OE1 x a c e w' b:=
 I9 x a c e w w' b b h nR d.size (λg T f _=>d.block g (A2 f))
theorem OY(p:pl.Pln)(x:pl.PA)(s:List UInt8)(w:ϙ)(hw:pl.wfPlan p)(hp:pl.planAt w p x)(N:∃T a,Δ w 1 0 (.iface T a)):
 η 18 #[pl.Ap p x,.string ⟨s.toArray⟩] w (RdR p s w):=by
 have Y:=hIz (λ(d:ϙ) (O:Ϝ w d)=>pl.C0 p x d hw (pl.Ae hp O));have KT:ϛ (s.length<=1048576->∀Z K d,Ϝ w d->Δ d Z 5 (vI p.limit)->SB d K zE->Ai d K 42->CT 33 #[.string ⟨s.toArray⟩,.func (.func 34) #[] #[μ Z,μ K]] d (TRd K p.limit s d)):=λhm Z K d O h1 M h3=>by
  obtain⟨T,a,ha⟩:=N;exact Yu Z K p.limit s d ⟨T,a,cLz O ha⟩ ϝ h1 M h3
 have KC:=hIz (λe y (d:ϙ) (hl:s.length<=1048576) (S:Fb p.limit e) (U:s=Cc e) (O:Ϝ w d) (h:eggAt d e y)=>LC p x e y d hw (pl.Ae hp O) h (N8 S (by rw[<-U];exact hl)));have av:∀(fn:Fn) (first ak:Array Value) (w:ϙ),(Instr.makeFunc fn first ak).run Tryz.prog w= .ok (.func fn first ak) w:=λ_ _ _ _=>rfl;have ap:(⟨s.toArray⟩:ByteArray).size=s.length:=size_mk s;obtain⟨q,hq⟩:=nM (⟨s.toArray⟩:ByteArray);rw[hq]at KT ap⊢;obtain⟨P,hP⟩:=nM (pl.Ag p);have L:=hqz hP;rw[hP]at Y;clear hq hw hp N hP;unfold pl.Ap at Y KC⊢;go_enter func18,ntmps18;go_wp2_with fail;generalize I:(World.alloc (World.alloc w _) _)=V;have ad:Ϝ w V:=by rw[<-I];exact Ϩ.alloc ϟ _
 have i:ϛ (Bh V w p x/\SB V (w.heap.size+1) zE/\Ai V (w+1) 42):=by
  subst I;have h1:=SB.new (ξ w (Φ p x) 32) zE 42;have M:=World.alloc_heap_new (ξ w (Φ p x) 32) (.cells zE.toArray 42);rw[World.size_alloc]at h1 M;exact⟨Ah (Cg ..) Ϩ,h1,_,_,M⟩
 clear I;refine(Y.o V ad).mono ?_;rintro o d ⟨rfl,Q⟩;have G:Ϝ w d:=bT ad Q;replace i:ϛ (Bh d w p x/\SB d (w.heap.size+1) zE/\Ai d (w+1) 42):=⟨Ah i.o.1 Q,i.o.2.1.below Q,Ad i.o.2.2 Q⟩;clear ad Q Y;by_cases k1:P=0
 rotate_left
 ·have ay:(P !=0)=true:=by simpa using k1
  have k:ϛ (d.there (w.heap.size+1) 0 11):=i.o.2.1.there;have c:ϛ ((World.setCells d (w.heap.size+1) 0 [ω,ψ,ψ,ω,ψ,ψ,ω,ω,ω,ψ,ψ]).rangeAt (w.heap.size+1) 0 [ω,ψ,ψ,ω,ψ,ψ,ω,ω,ω,ψ,ψ]):=World.rangeAt_setCells_same _ _ _ _ k.o;have j:ϛ (Ϝ w (World.setCells d (w.heap.size+1) 0 [ω,ψ,ψ,ω,ψ,ψ,ω,ω,ω,ψ,ψ])):=below_setCells (Nat.le_succ _) _ 0 _ G;go_wp2_with ((with_reducible refine wpList_store_mid ?_ 42 (.tmp 4) (.tmp 13) ?_ (w.heap.size+1) 0 #[ω,ψ,ψ,ω,ψ,ψ,ω,ω,ω,ψ,ψ] ?_ ?_ ?_ ?_ ?_ ?_);exact rfl;exact rfl;exact rfl;exact rfl;exact k.o;exact GW;exact Ϧ);generalize (World.setCells d (w.heap.size+1) 0 [ω,ψ,ψ,ω,ψ,ψ,ω,ω,ω,ψ,ψ])=W' at c j⊢;have l:=c.o 0 _ rfl;have m:=c.o 1 _ rfl;have t:=c.o 2 _ rfl;have u:=c.o 3 _ rfl;have z:=c.o 4 _ rfl;have A:=c.o 5 _ rfl;have B:=c.o 6 _ rfl;have C:=c.o 7 _ rfl;have D:=c.o 8 _ rfl;have E:=c.o 9 _ rfl;have n:=c.o 10 _ rfl;simp only[Nat.zero_add]at l m t u z A B C D E n;exact bodyPost_ret (v:=.tuple #[.agg #[ω,ψ,ψ,ω,ψ,ψ,ω,ω,ω,ψ,ψ],vI P]) (by simp[results,results18,go_sem,l,m,t,u,z,A,B,C,D,E,n]) rfl ⟨j.o,.inl ⟨by rw[L.o];exact k1,by rw[L.o];rfl⟩⟩
 subst k1;by_cases k2:1048576<s.length
 ·have M:(1048576:Int)<(q.size:Int):=ϝ;have k:ϛ (d.there (w.heap.size+1) 0 11):=i.o.2.1.there;have c:ϛ ((World.setCells d (w.heap.size+1) 0 [ω,ψ,ψ,ω,ψ,ψ,ω,ω,ω,ψ,ψ]).rangeAt (w.heap.size+1) 0 [ω,ψ,ψ,ω,ψ,ψ,ω,ω,ω,ψ,ψ]):=World.rangeAt_setCells_same _ _ _ _ k.o;have j:ϛ (Ϝ w (World.setCells d (w.heap.size+1) 0 [ω,ψ,ψ,ω,ψ,ψ,ω,ω,ω,ψ,ψ])):=below_setCells (Nat.le_succ _) _ 0 _ G;go_wp2_with ((with_reducible refine wpList_store_mid ?_ 42 (.tmp 4) (.tmp 18) ?_ (w.heap.size+1) 0 #[ω,ψ,ψ,ω,ψ,ψ,ω,ω,ω,ψ,ψ] ?_ ?_ ?_ ?_ ?_ ?_);exact rfl;exact rfl;exact rfl;exact rfl;exact k.o;exact GW;exact Ϧ);generalize (World.setCells d (w.heap.size+1) 0 [ω,ψ,ψ,ω,ψ,ψ,ω,ω,ω,ψ,ψ])=W' at c j⊢;have l:=c.o 0 _ rfl;have m:=c.o 1 _ rfl;have t:=c.o 2 _ rfl;have u:=c.o 3 _ rfl;have z:=c.o 4 _ rfl;have A:=c.o 5 _ rfl;have B:=c.o 6 _ rfl;have C:=c.o 7 _ rfl;have D:=c.o 8 _ rfl;have E:=c.o 9 _ rfl;have n:=c.o 10 _ rfl;simp only[Nat.zero_add]at l m t u z A B C D E n;exact bodyPost_ret (v:=.tuple #[.agg #[ω,ψ,ψ,ω,ψ,ψ,ω,ω,ω,ψ,ψ],vI 1]) (by simp[results,results18,go_sem,l,m,t,u,z,A,B,C,D,E,n]) rfl ⟨j.o,.inr (.inr ⟨L.o,λ_ _ _ h=>absurd h ϝ,rfl⟩)⟩
 have M:(q.size:Int)<=1048576:=ϝ;have lz:=i.o.2.1.lt;go_wp2_with fail;generalize I:(World.alloc d _)=F;have aa:Ϝ d F:=by rw[<-I];exact Ϩ
 have HE:ϛ (SB F d.heap.size zE/\Ai F d 42):=by
  subst I;exact⟨SB.new d zE _,_,_,World.alloc_heap_new d _⟩
 clear I;have ae:Ϝ w F:=bT G aa;replace i:ϛ (Bh F w p x/\SB F (w.heap.size+1) zE/\Ai F (w+1) 42):=⟨Ah i.o.1 aa,i.o.2.1.below aa,Ad i.o.2.2 aa⟩;have ax:d.heap.size<F.heap.size:=HE.o.1.lt;refine(KT.o ϝ w.heap.size d.heap.size F ae i.o.1.2.2.2.2.2.1 HE.o.1 HE.o.2).mono ?_;rintro o H ⟨R,ao⟩;have an:Ϝ w H:=ae.trans (R.below G.size (by have:=ae.size;omega));have ab:∀g,g<F.heap.size->g≠d.heap.size->H.heap[g]? =F.heap[g]? :=R.2;have aj:ϛ (Bh H w p x/\SB H (w.heap.size+1) zE/\Ai H (w+1) 42):=⟨Wl i.o.1 (ab _ ϝ ϝ),i.o.2.1.same (ab _ ϝ ϝ) R.1.size,A0 i.o.2.2 (ab _ ϝ ϝ)⟩;have aw:=R.1.size;clear R ab i KT G;have i:=hy aj.o;have G:=an;clear aj;rcases ao with⟨e,y,W,su,S,ag,rfl,am,ah,af⟩|⟨al,rfl⟩
 rotate_left
 ·have HN:=hy al;clear al;have k:ϛ (H.there (w.heap.size+1) 0 11):=i.o.2.1.there;have c:ϛ ((World.setCells H (w.heap.size+1) 0 [ω,ψ,ψ,ω,ψ,ψ,ω,ω,ω,ψ,ψ]).rangeAt (w.heap.size+1) 0 [ω,ψ,ψ,ω,ψ,ψ,ω,ω,ω,ψ,ψ]):=World.rangeAt_setCells_same _ _ _ _ k.o;have j:ϛ (Ϝ w (World.setCells H (w.heap.size+1) 0 [ω,ψ,ψ,ω,ψ,ψ,ω,ω,ω,ψ,ψ])):=below_setCells (Nat.le_succ _) _ 0 _ G;go_wp2_with ((with_reducible refine wpList_store_mid ?_ 42 (.tmp 4) (.tmp 30) ?_ (w.heap.size+1) 0 #[ω,ψ,ψ,ω,ψ,ψ,ω,ω,ω,ψ,ψ] ?_ ?_ ?_ ?_ ?_ ?_);exact rfl;exact rfl;exact rfl;exact rfl;exact k.o;exact GW;exact Ϧ);generalize (World.setCells H (w.heap.size+1) 0 [ω,ψ,ψ,ω,ψ,ψ,ω,ω,ω,ψ,ψ])=W' at c j⊢;have l:=c.o 0 _ rfl;have m:=c.o 1 _ rfl;have t:=c.o 2 _ rfl;have u:=c.o 3 _ rfl;have z:=c.o 4 _ rfl;have A:=c.o 5 _ rfl;have B:=c.o 6 _ rfl;have C:=c.o 7 _ rfl;have D:=c.o 8 _ rfl;have E:=c.o 9 _ rfl;have n:=c.o 10 _ rfl;simp only[Nat.zero_add]at l m t u z A B C D E n;exact bodyPost_ret (v:=.tuple #[.agg #[ω,ψ,ψ,ω,ψ,ψ,ω,ω,ω,ψ,ψ],vI 1]) (by simp[results,results18,go_sem,l,m,t,u,z,A,B,C,D,E,n]) rfl ⟨j.o,.inr (.inr ⟨L.o,λe N U _=>absurd U (HN.o e N),rfl⟩)⟩
 have f:ϛ (Fb p.limit e/\s=Cc e/\SB H d.heap.size (egC e y)/\y.xs=W.map (·.1)/\OE1 y W su e H F.heap.size):=⟨S,ag,am,ah,af⟩;have ac:=KC.o e y H ϝ S ag G (af.at ah);clear S ag am ah af KC;obtain⟨v0,v1,v2,v3,v4,v5,v6,v7,v8,v9,aq,ar,au⟩:=i.o.1;have u0:=f.o.2.2.1.cell 0 _ rfl;have u1:=f.o.2.2.1.cell 1 _ rfl;have u2:=f.o.2.2.1.cell 2 _ rfl;have u3:=f.o.2.2.1.cell 3 _ rfl;have u4:=f.o.2.2.1.cell 4 _ rfl;have u5:=f.o.2.2.1.cell 5 _ rfl;have u6:=f.o.2.2.1.cell 6 _ rfl;have u7:=f.o.2.2.1.cell 7 _ rfl;have u8:=f.o.2.2.1.cell 8 _ rfl;have u9:=f.o.2.2.1.cell 9 _ rfl;have u10:=f.o.2.2.1.cell 10 _ rfl;unfold egV egC at ac;go_wp2_with fail;refine ac.mono ?_;rintro o w4 ⟨rfl,J⟩;replace G:Ϝ w w4:=bT G J;replace i:ϛ (Bh w4 w p x/\SB w4 (w.heap.size+1) zE/\Ai w4 (w+1) 42):=⟨Ah i.o.1 J,i.o.2.1.below J,Ad i.o.2.2 J⟩;replace f:ϛ (Fb p.limit e/\s=Cc e/\SB w4 d.heap.size (egC e y)/\y.xs=W.map (·.1)/\OE1 y W su e w4 F.heap.size):=⟨f.o.1,f.o.2.1,f.o.2.2.1.below J,f.o.2.2.2.1,f.o.2.2.2.2.below J⟩;clear v0 v1 v2 v3 v4 v5 v6 v7 v8 v9 aq ar au u0 u1 u2 u3 u4 u5 u6 u7 u8 u9 u10 J ac;obtain⟨X,hX⟩:=nM (Bp p e);have ai:=hqz hX;rw[hX];clear hX;by_cases k3:X=0
 rotate_left
 ·have az:(X !=0)=true:=by simpa using k3
  have k:ϛ (w4.there (w.heap.size+1) 0 11):=i.o.2.1.there;have c:ϛ ((World.setCells w4 (w.heap.size+1) 0 [ω,ψ,ψ,ω,ψ,ψ,ω,ω,ω,ψ,ψ]).rangeAt (w.heap.size+1) 0 [ω,ψ,ψ,ω,ψ,ψ,ω,ω,ω,ψ,ψ]):=World.rangeAt_setCells_same _ _ _ _ k.o;have j:ϛ (Ϝ w (World.setCells w4 (w.heap.size+1) 0 [ω,ψ,ψ,ω,ψ,ψ,ω,ω,ω,ψ,ψ])):=below_setCells (Nat.le_succ _) _ 0 _ G;go_wp2_with ((with_reducible refine wpList_store_mid ?_ 42 (.tmp 4) (.tmp 30) ?_ (w.heap.size+1) 0 #[ω,ψ,ψ,ω,ψ,ψ,ω,ω,ω,ψ,ψ] ?_ ?_ ?_ ?_ ?_ ?_);exact rfl;exact rfl;exact rfl;exact rfl;exact k.o;exact GW;exact Ϧ);generalize (World.setCells w4 (w.heap.size+1) 0 [ω,ψ,ψ,ω,ψ,ψ,ω,ω,ω,ψ,ψ])=W' at c j⊢;have l:=c.o 0 _ rfl;have m:=c.o 1 _ rfl;have t:=c.o 2 _ rfl;have u:=c.o 3 _ rfl;have z:=c.o 4 _ rfl;have A:=c.o 5 _ rfl;have B:=c.o 6 _ rfl;have C:=c.o 7 _ rfl;have D:=c.o 8 _ rfl;have E:=c.o 9 _ rfl;have n:=c.o 10 _ rfl;simp only[Nat.zero_add]at l m t u z A B C D E n;exact bodyPost_ret (v:=.tuple #[.agg #[ω,ψ,ψ,ω,ψ,ψ,ω,ω,ω,ψ,ψ],vI 1]) (by simp[results,results18,go_sem,l,m,t,u,z,A,B,C,D,E,n]) rfl ⟨j.o,.inr (.inr ⟨L.o,λe2 N U _=>by rw[(Qy p.limit e2 e [] [] N f.o.1 (by rw[<-U,<-f.o.2.1])).1,ai.o];exact k3,rfl⟩)⟩
 subst k3;have u0:=f.o.2.2.1.cell 0 _ rfl;have u1:=f.o.2.2.1.cell 1 _ rfl;have u2:=f.o.2.2.1.cell 2 _ rfl;have u3:=f.o.2.2.1.cell 3 _ rfl;have u4:=f.o.2.2.1.cell 4 _ rfl;have u5:=f.o.2.2.1.cell 5 _ rfl;have u6:=f.o.2.2.1.cell 6 _ rfl;have u7:=f.o.2.2.1.cell 7 _ rfl;have u8:=f.o.2.2.1.cell 8 _ rfl;have u9:=f.o.2.2.1.cell 9 _ rfl;have u10:=f.o.2.2.1.cell 10 _ rfl;have k:ϛ (w4.there (w.heap.size+1) 0 11):=i.o.2.1.there;have c:ϛ ((World.setCells w4 (w.heap.size+1) 0 [vI e.j.L.lim,vS y.y.l.m.1.1 y.y.l.m.1.2.1 y.y.l.m.1.2.2,vS y.y.l.ra y.y.l.rs.length y.y.l.rc,vI e.j.R.lim,vS y.y.r.m.1.1 y.y.r.m.1.2.1 y.y.r.m.1.2.2,vS y.y.r.ra y.y.r.rs.length y.y.r.rc,vI e.j.lm,vI e.j.rm,vI e.j.seq,vS y.ga e.gs.length y.gc,vS y.va e.v.length y.vc]).rangeAt (w.heap.size+1) 0 [vI e.j.L.lim,vS y.y.l.m.1.1 y.y.l.m.1.2.1 y.y.l.m.1.2.2,vS y.y.l.ra y.y.l.rs.length y.y.l.rc,vI e.j.R.lim,vS y.y.r.m.1.1 y.y.r.m.1.2.1 y.y.r.m.1.2.2,vS y.y.r.ra y.y.r.rs.length y.y.r.rc,vI e.j.lm,vI e.j.rm,vI e.j.seq,vS y.ga e.gs.length y.gc,vS y.va e.v.length y.vc]):=World.rangeAt_setCells_same _ _ _ _ k.o;have j:ϛ (Ϝ w (World.setCells w4 (w.heap.size+1) 0 [vI e.j.L.lim,vS y.y.l.m.1.1 y.y.l.m.1.2.1 y.y.l.m.1.2.2,vS y.y.l.ra y.y.l.rs.length y.y.l.rc,vI e.j.R.lim,vS y.y.r.m.1.1 y.y.r.m.1.2.1 y.y.r.m.1.2.2,vS y.y.r.ra y.y.r.rs.length y.y.r.rc,vI e.j.lm,vI e.j.rm,vI e.j.seq,vS y.ga e.gs.length y.gc,vS y.va e.v.length y.vc])):=below_setCells (Nat.le_succ _) _ 0 _ G
 go_wp2_with ((with_reducible refine wpList_store_mid ?_ 42 (.tmp 4) (.tmp 31) ?_ (w.heap.size+1) 0 #[vI e.j.L.lim,vS y.y.l.m.1.1 y.y.l.m.1.2.1 y.y.l.m.1.2.2,vS y.y.l.ra y.y.l.rs.length y.y.l.rc,vI e.j.R.lim,vS y.y.r.m.1.1 y.y.r.m.1.2.1 y.y.r.m.1.2.2,vS y.y.r.ra y.y.r.rs.length y.y.r.rc,vI e.j.lm,vI e.j.rm,vI e.j.seq,vS y.ga e.gs.length y.gc,vS y.va e.v.length y.vc] ?_ ?_ ?_ ?_ ?_ ?_);exact rfl;exact rfl;exact rfl;exact rfl;exact k.o;exact GW;exact Ϧ);have HF:ϛ (eggAt (World.setCells w4 (w.heap.size+1) 0 [vI e.j.L.lim,vS y.y.l.m.1.1 y.y.l.m.1.2.1 y.y.l.m.1.2.2,vS y.y.l.ra y.y.l.rs.length y.y.l.rc,vI e.j.R.lim,vS y.y.r.m.1.1 y.y.r.m.1.2.1 y.y.r.m.1.2.2,vS y.y.r.ra y.y.r.rs.length y.y.r.rc,vI e.j.lm,vI e.j.rm,vI e.j.seq,vS y.ga e.gs.length y.gc,vS y.va e.v.length y.vc]) e y):=OE1.at ((I9 y W su e).sets (T:=42) Ϟ _ 0 w4 f.o.2.2.2.2 i.o.2.2) f.o.2.2.2.1;generalize (World.setCells w4 (w.heap.size+1) 0 [vI e.j.L.lim,vS y.y.l.m.1.1 y.y.l.m.1.2.1 y.y.l.m.1.2.2,vS y.y.l.ra y.y.l.rs.length y.y.l.rc,vI e.j.R.lim,vS y.y.r.m.1.1 y.y.r.m.1.2.1 y.y.r.m.1.2.2,vS y.y.r.ra y.y.r.rs.length y.y.r.rc,vI e.j.lm,vI e.j.rm,vI e.j.seq,vS y.ga e.gs.length y.gc,vS y.va e.v.length y.vc])=W' at c j HF⊢;have l:=c.o 0 _ rfl;have m:=c.o 1 _ rfl;have t:=c.o 2 _ rfl;have u:=c.o 3 _ rfl;have z:=c.o 4 _ rfl;have A:=c.o 5 _ rfl;have B:=c.o 6 _ rfl;have C:=c.o 7 _ rfl;have D:=c.o 8 _ rfl;have E:=c.o 9 _ rfl;have n:=c.o 10 _ rfl;simp only[Nat.zero_add]at l m t u z A B C D E n
 exact bodyPost_ret (v:=.tuple #[.agg #[vI e.j.L.lim,vS y.y.l.m.1.1 y.y.l.m.1.2.1 y.y.l.m.1.2.2,vS y.y.l.ra y.y.l.rs.length y.y.l.rc,vI e.j.R.lim,vS y.y.r.m.1.1 y.y.r.m.1.2.1 y.y.r.m.1.2.2,vS y.y.r.ra y.y.r.rs.length y.y.r.rc,vI e.j.lm,vI e.j.rm,vI e.j.seq,vS y.ga e.gs.length y.gc,vS y.va e.v.length y.vc],ω]) (by simp[results,results18,go_sem,l,m,t,u,z,A,B,C,D,E,n]) rfl ⟨j.o,.inr (.inl ⟨L.o,e,y,f.o.1,f.o.2.1,ϝ,ai.o,rfl,HF.o⟩)⟩
end cd
end Go.Proofs.YtfkihidbnfkbaaaGreatDoor
