import Derived.Test.YtfkihidbnfkbaaaGreatDoorPv39
set_option linter.all false
set_option maxHeartbeats 8000000
set_option maxRecDepth 100000
open Inhabited renaming default->ϰ
open List renaming length->ϲ
namespace Go.Proofs.YtfkihidbnfkbaaaGreatDoor
open ChangeShapes WideShapes ChangeAt RowKit List Proofs.Tryz
namespace cd
open vl bf bt jn
variable {V w w' : ϟ} {N n : Nat} {p : pl.Pln} {e : Egg} {b : Buf}
theorem AaL(c:ϟ)(C B:Nat)(f:List UInt8)(a:Ϡ)(cap:Nat)(l:List Tal)(w:ϟ)(J:Ϣ c w)(h:WR w c.heap.size B f)(hc:WP w C B)(ha:bt.GW c a l)(ho:∀x∈l,rowOk [(x).1])(hn:ϲ l<=ύ)(hl:ϲ f+ϲ (lst BC l)<=8500000000000):
 χ 110 #[ω B,vS a (ϲ l) cap,.func (.func 111) #[] #[ω C]] w (WO c.heap.size B w (f++lst BC l)):=by
 have ag:ϲ (lst BC l)=8+ϲ (l.flatMap BC):=by unfold lst;rw[lAp,As]
 have W:=hIz (λn=>Cd c.heap.size B f n w J.size h ϣ);have P:=hy ha;have R:∀i,i<ϲ l->rowOk [((l.getD i ϰ)).1]:=λi hi=>ho _ (by rw[gDe,gEe hi];exact GE hi);have T:ϡ (∀k,k<ϲ l->ϲ f+8+ϲ ((l.take k).flatMap BC)+ϲ (BC (l.getD k ϰ))<=8500000000000):=λk g=>by
  have I:=Ec BC l k g;have Y:=Bk List.length (Bk (λz=>z.flatMap BC) (PP (k+1) l));simp only[SN,lAp]at Y;rw[I,lAp]at Y;omega
 have G:ϡ (∀k,k<ϲ l->(l.take (k+1)).flatMap BC=(l.take k).flatMap BC++BC (l.getD k ϰ)):=λk g=>Ec BC l k g;have Q:ϡ (f++AM (ϲ l)++(l.take (ϲ l)).flatMap BC=f++lst BC l):=by
  show _=_;unfold lst;rw[Ok,Bx]
 have H:ϡ (∀k,k<ϲ l->∀d j,Ϣ c d->WR d c.heap.size B j->WP d C B->ϲ j+ϲ (BC (l.getD k ϰ))<=8500000000000->CT 111 #[.agg #[vI (l.getD k ϰ).1.k,vI (l.getD k ϰ).1.n,.string (l.getD k ϰ).1.s,vI (l.getD k ϰ).2],ω C] d (WO c.heap.size B d (j++BC (l.getD k ϰ)))):=λk g d j v I ad ai=>ZQ c.heap.size C B j _ d v.size I ad (R k g) ϣ;obtain⟨n,A⟩:=nM (ϲ l);have HN:=hV0 A;rw[A]at G H hn T⊢;rw[A]at Q;have HC:=hV0 hc;have HB:=hV0 J;clear ha ho A h hc J R ag hl;go_enter func110,ntmps110;go_wp2_with fail;refine(W.o _).mono ?_;rintro e d ⟨rfl,ab,v,aa⟩;have U:ϡ (WR d c.heap.size B (f++AM n)/\Below c.heap.size w d/\keepW w d):=⟨ab,v,aa⟩;clear ab v aa W;go_wp2_with fail
 go_loopw [14] (λi wr=> ∃k:Nat,k<=n/\i=vI k/\WR wr c.heap.size B (f++AM n++(l.take k).flatMap BC)/\Below c.heap.size w wr/\keepW w wr) (λi _=>n - (intOf i).toNat)
 case atStart=>exact⟨0,At _,rfl,by simpa using U.o.1,U.o.2⟩
 case round=>
  obtain⟨k,g,rfl,D,o,M⟩:=hrel;by_cases y:k<n
  ·obtain⟨b,ak,e,r,s,t,u⟩:=P.o k (by rw[HN.o];exact y);subst e;have L:=HB.o.trans o;have zz:=lk4 L r s t u;clear r s t u;obtain⟨r,s,t,u⟩:=zz;have O:=T.o k y;have K:=H.o k y;have S:ϡ ((l.take (k+1)).flatMap BC=(l.take k).flatMap BC++BC (l.getD k ϰ)):=G.o k y;obtain⟨E,Z⟩:=nM (BC (l.getD k ϰ));rw[Z]at K S O;obtain⟨X,hX⟩:=nM (l.getD k ϰ);rw[hX]at K r s t u;clear hX;have KH:=hy K;have q:ϡ (WR wr c.heap.size B (f++AM n++(l.take k).flatMap BC)/\Below c.heap.size w wr/\keepW w wr):=⟨D,o,M⟩;have aj:=o.size;have i1:=nn0 k;have i2:(k:Int)<(n:Int):=ϣ;have HL:=hy O;have F:=hy L;clear K Z D o M L H P G O;go_wp2_with fail;have m:Ϣ wr (ϊ wr #[vI X.1.k,vI X.1.n,.string X.1.s,vI X.2] 121):=Ϯ;refine(KH.o _ _ (F.o.trans (m.mono F.o.size)) (q.o.1.below m) ((HC.o.keep q.o.2.2).below m) (by have:=HL.o;simp only[lAp,As];omega)).mono ?_;rintro e w2 ⟨rfl,ah,ac,ae⟩;go_wp2;go_roundw;exact⟨k+1,ϣ,by go_num,by rw[S.o,<-Bx];exact ah,q.o.2.1.trans ((m.mono F.o.size).trans ac),q.o.2.2.trans ((keepW.of m).trans ae)⟩;simp[intOf];omega
  ·have af:k=n:=ϣ;subst af;have i2:¬((k:Int)<(k:Int)):=ϣ;rw[Q.o]at D;go_wp2
   go_end0
   exact⟨rfl,D,o,M⟩
theorem Adx(c:ϟ)(C B:Nat)(d:List UInt8)(a:Ϡ)(cap:Nat)(l:List Tal)(w:ϟ)(q:Ϣ c w)(h:WR w c.heap.size B d)(f:WP w C B)(ha:bt.GW c a l)(o:∀x∈l,rowOk [(x).1])(k:ϲ l<=ύ)(j:ϲ d+ϲ (B6 l)<=8500000000000):
 χ 109 #[vS a (ϲ l) cap,ω C] w (WO c.heap.size B w (d++B6 l)):=by
 have z:∀(i:Fn) (first cap:Array Value) (w:ϟ),(Instr.makeFunc i first cap).run prog w= .ok (.func i first cap) w:=λ_ _ _ _=>rfl;have g:=hy (AaL c C B d a cap l w q h f ha o k j);have y:=f.2;have v:=A7 f.1;unfold B6;obtain⟨n,m⟩:=nM (ϲ l);rw[m]at g⊢;clear ha o h f m k j;go_enter func109,ntmps109;go_wp2_with fail;refine g.o.mono ?_;rintro u A ⟨rfl,t,r,s⟩;go_wp2
 go_end0
 exact⟨rfl,t,r,s⟩
theorem AaM(c:ϟ)(C B:Nat)(f:List UInt8)(a:Ϡ)(cap:Nat)(g:List (Option Addr×Nat×Nat))(l:List (List Tal))(w:ϟ)(I:Ϣ c w)(h:WR w c.heap.size B f)(hc:WP w C B)(ha:pl.M8 c a g)(ac:ϲ g=ϲ l)(ae:∀i,i<ϲ l->(g.getD i (none,0,0)).2.1=ϲ (l.getD i []))(ab:∀i,i<ϲ l->bt.GW c (g.getD i (none,0,0)).1 (l.getD i []))(ag:∀x∈l,ϲ x<=ύ)(ho:∀x∈l,∀t∈id x,rowOk [t.1])(hn:ϲ l<=ύ)(hl:ϲ f+ϲ (lst B6 l)<=8500000000000):
 χ 108 #[ω B,vS a (ϲ l) cap,.func (.func 109) #[] #[ω C]] w (WO c.heap.size B w (f++lst B6 l)):=by
 have aq:ϲ (lst B6 l)=8+ϲ (l.flatMap B6):=by unfold lst;rw[lAp,As]
 have W:=hIz (λn=>Cd c.heap.size B f n w I.size h ϣ);have P:=hy ha;have R:∀i,i<ϲ l->∀t∈id (l.getD i ϰ),rowOk [t.1]:=λi hi=>ho _ (by rw[gDe,gEe hi];exact GE hi);have T:ϡ (∀k,k<ϲ l->ϲ f+8+ϲ ((l.take k).flatMap B6)+ϲ (B6 (l.getD k ϰ))<=8500000000000):=λk j=>by
  have F:=Ec B6 l k j;have Y:=Bk List.length (Bk (λz=>z.flatMap B6) (PP (k+1) l));simp only[SN,lAp]at Y;rw[F,lAp]at Y;omega
 have A:ϡ (∀k,k<ϲ l->(l.take (k+1)).flatMap B6=(l.take k).flatMap B6++B6 (l.getD k ϰ)):=λk j=>Ec B6 l k j;have Q:ϡ (f++AM (ϲ l)++(l.take (ϲ l)).flatMap B6=f++lst B6 l):=by
  show _=_;unfold lst;rw[Ok,Bx]
 have D:ϡ (∀k,k<ϲ l->∀d o,Ϣ c d->WR d c.heap.size B o->WP d C B->ϲ o+ϲ (B6 (l.getD k ϰ))<=8500000000000->CT 109 #[vS (g.getD k (none,0,0)).1 (ϲ (l.getD k ϰ)) (g.getD k (none,0,0)).2.2,ω C] d (WO c.heap.size B d (o++B6 (l.getD k ϰ)))):=λk j d o v F am ap=>Adx c C B o _ _ _ d v F am (ab k j) (R k j) (ag _ (by rw[gDe,gEe j];exact GE j)) ap;obtain⟨n,m⟩:=nM (ϲ l);have HN:=hV0 m;rw[m]at A D hn T⊢;rw[m]at Q;have HC:=hV0 hc;have HB:=hV0 I;have aj:ϡ (ϲ g=n):=ac.trans m;have ak:ϡ (∀k,k<n->(g.getD k (none,0,0)).2.1=ϲ (l.getD k [])):=by rw[<-m];exact ae
 clear ha ho m h hc I R aq hl ac ae ab ag;go_enter func108,ntmps108;go_wp2_with fail;refine(W.o _).mono ?_;rintro e d ⟨rfl,ah,v,af⟩;have U:ϡ (WR d c.heap.size B (f++AM n)/\Below c.heap.size w d/\keepW w d):=⟨ah,v,af⟩;clear ah v af W;go_wp2_with fail
 go_loopw [14] (λi wr=> ∃k:Nat,k<=n/\i=vI k/\WR wr c.heap.size B (f++AM n++(l.take k).flatMap B6)/\Below c.heap.size w wr/\keepW w wr) (λi _=>n - (intOf i).toNat)
 case atStart=>exact⟨0,At _,rfl,by simpa using U.o.1,U.o.2⟩
 case round=>
  obtain⟨k,j,rfl,y,q,M⟩:=hrel;by_cases r:k<n
  ·obtain⟨b,av,e,u⟩:=P.o k (by rw[aj.o];exact r);subst e;have J:=HB.o.trans q;replace u:=cLz J u;have O:=T.o k r;have K:=D.o k r;have S:ϡ ((l.take (k+1)).flatMap B6=(l.take k).flatMap B6++B6 (l.getD k ϰ)):=A.o k r;obtain⟨E,Z⟩:=nM (B6 (l.getD k ϰ));rw[Z]at K S O;rw[ak.o k r]at u;obtain⟨X,G⟩:=nM (ϲ (l.getD k ϰ));obtain⟨ad,H⟩:=nM ((g.getD k (none,0,0)).1);obtain⟨cp,L⟩:=nM ((g.getD k (none,0,0)).2.2);have aa:ϲ (l.getD k [])=X:=G;rw[G,H,L]at K;rw[aa,H,L]at u;clear G H L aa;have KH:=hy K;have s:ϡ (WR wr c.heap.size B (f++AM n++(l.take k).flatMap B6)/\Below c.heap.size w wr/\keepW w wr):=⟨y,q,M⟩;have au:=q.size;have i1:=nn0 k;have i2:(k:Int)<(n:Int):=ϣ;have HL:=hy O;have ai:=hy J;clear K Z y q M J D P A O;go_wp2_with fail;refine(KH.o _ _ ai.o s.o.1 (HC.o.keep s.o.2.2) (by have:=HL.o;simp only[lAp,As];omega)).mono ?_;rintro e w2 ⟨rfl,ar,al,an⟩;go_wp2;go_roundw;exact⟨k+1,ϣ,by go_num,by rw[S.o,<-Bx];exact ar,s.o.2.1.trans al,s.o.2.2.trans an⟩;simp[intOf];omega
  ·have ao:k=n:=ϣ;subst ao;have i2:¬((k:Int)<(k:Int)):=ϣ;rw[Q.o]at y;go_wp2
   go_end0
   exact⟨rfl,y,q,M⟩
def Ady(g:gr.Grp):Prop:=rowOk g.row/\(∀x∈g.bags,∀t∈id x,rowOk [t.1])/\(ϲ g.bags)<=ύ/\∀x∈g.bags,ϲ x<=ύ
theorem Xx(c:ϟ)(B:Nat)(i:List UInt8)(x:gr.GX)(g:gr.Grp)(w:ϟ)(l:Ϣ c w)(h:WR w c.heap.size B i)(ha:gr.gAt c x g)(j:Ady g)(v:ϲ i+ϲ (AX g)<=8500000000000):
 χ 56 #[ω B,gr.Jf x g] w (WO c.heap.size B w (i++AX g)):=by
 have aa:∀(H:Fn) (first G:Array Value) (w:ϟ),(Instr.makeFunc H first G).run prog w= .ok (.func H first G) w:=λ_ _ _ _=>rfl;have T:=Ua j.1;have F:=hIz (λ(a:ϟ) (f:Ϣ w a)=>Iv c.heap.size B i x.r x.rc g.row a (B0 l.size f.size) (h.below f) ϣ (vl.Ac (vl.Ac ha.row l) f) (EV j.1).1 j.1.1 (EV j.1).2);have O:ϡ (∀a,WR a c.heap.size B (i++Ck g.row)->c.heap.size<=a.heap.size->CT 60 #[ω B,vI g.n] a (WO c.heap.size B a (i++Ck g.row++AM g.n))):=λa A f=>Cd c.heap.size B _ g.n a f A (by rw[lAp];omega);have u:ϡ (∀C a,Ϣ c a->WR a c.heap.size B (i++Ck g.row++AM g.n)->WP a C B->CT 108 #[ω B,vS x.b (ϲ g.bags) x.bc,.func (.func 109) #[] #[ω C]] a (WO c.heap.size B a (i++AX g))):=λC a f A R=>by
  have:=AaM c C B _ x.b x.bc x.hs g.bags a f A R ha.hs ha.len ha.hl ha.bag j.2.2.2 j.2.1 j.2.2.1 (by unfold AX at v;simp only[lAp]at v⊢;omega);unfold AX;simp only[Bx]at this⊢;exact this
 obtain⟨E,K⟩:=nM (AX g);rw[K]at u⊢;unfold gr.Jf;have Z:=hV0 h;obtain⟨Y,I⟩:=nM (ϲ g.row);obtain⟨o,J⟩:=nM (ϲ g.bags);rw[I]at F⊢;rw[J]at u⊢;clear ha j v K T h I J;go_enter func56,ntmps56;go_wp2_with fail;generalize k:(World.alloc (World.alloc w _) _)=V;have q:Ϣ w V:=by rw[<-k];exact Ϯ.alloc ϥ _
 have y:=DE (ϊ w #[ω B] 66) (.cells #[vS x.r Y x.rc,vI g.n,vS x.b o x.bc] 102);rw[D0,k]at y;have z:Am V (w+1) 102:=⟨_,_,y⟩;have d:ϡ (CW V (w.heap.size+1) 102 1 (vI g.n)/\CW V (w.heap.size+1) 102 2 (vS x.b o x.bc)/\WP V w.heap.size B):=
  ⟨⟨z,by subst k;go_simp⟩,⟨z,by subst k;go_simp⟩,⟨by subst k;exact Ak ⟨_,_,DE _ _⟩ Ϯ,by subst k;go_simp⟩⟩
 clear k z y;refine(F.o V q).mono ?_;rintro e a ⟨rfl,U,f,m⟩;replace d:ϡ (CW a (w.heap.size+1) 102 1 (vI g.n)/\CW a (w.heap.size+1) 102 2 (vS x.b o x.bc)/\WP a w.heap.size B):=⟨d.o.1.keep m Ϥ Ϥ,d.o.2.1.keep m Ϥ Ϥ,d.o.2.2.keep m⟩;have r:Below c.heap.size w a:=(q.mono l.size).trans f;have t:keepW w a:=(keepW.of q).trans m;have M:=d.o.2.2.2;have P:=d.o.1.2;clear f m q;go_wp2_with fail;refine(O.o a U (B0 l.size t.1.size)).mono ?_;rintro e D ⟨rfl,W,L,s⟩;replace d:ϡ (CW D (w.heap.size+1) 102 2 (vS x.b o x.bc)/\WP D w.heap.size B):=⟨d.o.2.1.keep s Ϥ Ϥ,d.o.2.2.keep s⟩;replace r:=r.trans L;replace t:=t.trans s;clear M P L s;have M:=d.o.2.2;have c2:=d.o.1.2;go_wp2_with fail;refine(u.o w.heap.size D (l.trans r) W d.o.2).mono ?_;rintro e w3 ⟨rfl,X,Q,S⟩;go_wp2
 go_end0
 exact⟨rfl,X,r.trans Q,t.trans S⟩
theorem AaN(a:ϟ)(C B:Nat)(c:List UInt8)(x:gr.GX)(g:gr.Grp)(w:ϟ)(l:Ϣ a w)(h:WR w a.heap.size B c)(i:WP w C B)(ha:gr.gAt a x g)(o:Ady g)(m:ϲ c+ϲ (AX g)<=8500000000000):
 χ 55 #[gr.Jf x g,ω C] w (WO a.heap.size B w (c++AX g)):=by
 have k:=hIz (λ(j:ϟ) (d:Ϣ w j)=>Xx a B c x g j (bT l d) (h.below d) ha o m);have u:=i.2;have t:=A7 i.1;unfold gr.Jf at k⊢;clear ha o h i m;go_enter func55,ntmps55;go_wp2_with fail;have f:Ϣ w (ϊ w #[vS x.r (ϲ g.row) x.rc,vI g.n,vS x.b (ϲ g.bags) x.bc] 102):=Ϯ;refine(k.o _ f).mono ?_;rintro s j ⟨rfl,r,d,q⟩;go_wp2
 go_end0
 exact⟨rfl,r,(f.mono l.size).trans d,(keepW.of f).trans q⟩
theorem AaO(c:ϟ)(C B:Nat)(f:List UInt8)(a:Ϡ)(cap:Nat)(j:List gr.GX)(l:List gr.Grp)(w:ϟ)(M:Ϣ c w)(h:WR w c.heap.size B f)(hc:WP w C B)(ha:gr.gsAt c a j l)(ho:∀x∈l,Ady x)(hn:ϲ l<=ύ)(hl:ϲ f+ϲ (lst AX l)<=8500000000000):
 χ 54 #[ω B,vS a (ϲ l) cap,.func (.func 55) #[] #[ω C]] w (WO c.heap.size B w (f++lst AX l)):=by
 have ah:ϲ (lst AX l)=8+ϲ (l.flatMap AX):=by unfold lst;rw[lAp,As]
 have Z:=hIz (λn=>Cd c.heap.size B f n w M.size h ϣ);have Q:=hy ha;have S:∀i,i<ϲ l->Ady (l.getD i ϰ):=λi hi=>ho _ (by rw[gDe,gEe hi];exact GE hi);have U:ϡ (∀k,k<ϲ l->ϲ f+8+ϲ ((l.take k).flatMap AX)+ϲ (AX (l.getD k ϰ))<=8500000000000):=λk g=>by
  have J:=Ec AX l k g;have h2:=Bk List.length (Bk (λz=>z.flatMap AX) (PP (k+1) l));simp only[SN,lAp]at h2;rw[J,lAp]at h2;omega
 have D:ϡ (∀k,k<ϲ l->(l.take (k+1)).flatMap AX=(l.take k).flatMap AX++AX (l.getD k ϰ)):=λk g=>Ec AX l k g;have R:ϡ (f++AM (ϲ l)++(l.take (ϲ l)).flatMap AX=f++lst AX l):=by
  show _=_;unfold lst;rw[Ok,Bx]
 have F:ϡ (∀k,k<ϲ l->∀d m,Ϣ c d->WR d c.heap.size B m->WP d C B->ϲ m+ϲ (AX (l.getD k ϰ))<=8500000000000->CT 55 #[.agg #[vS (j.getD k ϰ).r (ϲ (l.getD k ϰ).row) (j.getD k ϰ).rc,vI (l.getD k ϰ).n,vS (j.getD k ϰ).b (ϲ (l.getD k ϰ).bags) (j.getD k ϰ).bc],ω C] d (WO c.heap.size B d (m++AX (l.getD k ϰ)))):=λk g d m t J ad ag=>AaN c C B m _ _ d t J ad (ha.each k g) (S k g) ag;obtain⟨n,v⟩:=nM (ϲ l);have HN:=hV0 v;rw[v]at D F hn U⊢;rw[v]at R;have HC:=hV0 hc;have HB:=hV0 M;clear ha ho v h hc M S ah hl;go_enter func54,ntmps54;go_wp2_with fail;refine(Z.o _).mono ?_;rintro e d ⟨rfl,ab,t,aa⟩;have W:ϡ (WR d c.heap.size B (f++AM n)/\Below c.heap.size w d/\keepW w d):=⟨ab,t,aa⟩;clear ab t aa Z;go_wp2_with fail
 go_loopw [14] (λi wr=> ∃k:Nat,k<=n/\i=vI k/\WR wr c.heap.size B (f++AM n++(l.take k).flatMap AX)/\Below c.heap.size w wr/\keepW w wr) (λi _=>n - (intOf i).toNat)
 case atStart=>exact⟨0,At _,rfl,by simpa using W.o.1,W.o.2⟩
 case round=>
  obtain⟨k,g,rfl,y,r,O⟩:=hrel;by_cases u:k<n
  ·obtain⟨b,ak,e,G,H,I⟩:=Q.o.cells k (by rw[HN.o];exact u);subst e;have o:=HB.o.trans r;replace G:=cLz o G;replace H:=cLz o H;replace I:=cLz o I;have P:=U.o k u;have K:=F.o k u;have T:ϡ ((l.take (k+1)).flatMap AX=(l.take k).flatMap AX++AX (l.getD k ϰ)):=D.o k u;obtain⟨E,hE⟩:=nM (AX (l.getD k ϰ));rw[hE]at K T P;obtain⟨X,L⟩:=nM (l.getD k ϰ);obtain⟨Y,hY⟩:=nM (j.getD k ϰ);rw[L,hY]at K G I;rw[L]at H;clear L hY;have KH:=hy K;have s:ϡ (WR wr c.heap.size B (f++AM n++(l.take k).flatMap AX)/\Below c.heap.size w wr/\keepW w wr):=⟨y,r,O⟩;have aj:=r.size;have i1:=nn0 k;have i2:(k:Int)<(n:Int):=ϣ;have HL:=hy P;have A:=hy o;clear K hE y r O o F Q D P;go_wp2_with fail;have q:Ϣ wr (ϊ wr #[vS Y.r (ϲ X.row) Y.rc,vI X.n,vS Y.b (ϲ X.bags) Y.bc] 102):=Ϯ;refine(KH.o _ _ (A.o.trans (q.mono A.o.size)) (s.o.1.below q) ((HC.o.keep s.o.2.2).below q) (by have:=HL.o;simp only[lAp,As];omega)).mono ?_;rintro e w2 ⟨rfl,ai,ac,ae⟩;go_wp2;go_roundw;exact⟨k+1,ϣ,by go_num,by rw[T.o,<-Bx];exact ai,s.o.2.1.trans ((q.mono A.o.size).trans ac),s.o.2.2.trans ((keepW.of q).trans ae)⟩;simp[intOf];omega
  ·have af:k=n:=ϣ;subst af;have i2:¬((k:Int)<(k:Int)):=ϣ;rw[R.o]at y;go_wp2
   go_end0
   exact⟨rfl,y,r,O⟩
def Adz{R:List UInt8×Int}{l:List UInt8}{i:Int}{q:ByteArray}(h:(l,i)=R)(a:(⟨l.toArray⟩:ByteArray)=q):Ending.returned (.tuple #[.string q,vI i])= .returned (.tuple #[.string ⟨R.1.toArray⟩,vI R.2]):=by
 subst h a;rfl
structure okEW(e:Egg):Prop where
 l:okBW e.j.L
 r:okBW e.j.R
 g:∀x∈e.gs,Ady x
 gn:ϲ e.gs<=ύ
 v:∀c∈e.v,okC c
 vn:ϲ e.v<=10000
def SB.keepW{T:TypeId}{d:List Value}(h:SB w N d/\Am w N T)(h1:T≠5)(c:T≠64)(a:cd.keepW w w'):SB w' N d/\Am w' N T:=
 ⟨h.1.same (a.2 N T h.2 h1 c) a.1.size,A1 h.2 (a.2 N T h.2 h1 c)⟩
def Xy{s:Jn}(a:okBW s.L)(c:okBW s.R):ϲ (GI s)<=90000000:=by
 have d:=Q2 a;have f:=Q2 c;unfold GI;simp only[lAp,As];omega
theorem UY(c:ϟ)(B:Nat)(f:List UInt8)(e:Egg)(y:GGX)(w:ϟ)(q:Ϣ c w)(h:WR w c.heap.size B f)(ha:eggAt c e y)(i:okEW e)(P:ϲ f+ϲ (lst AX e.gs)<=3000000000000):
 χ 28 #[ω B,egV e y] w (WO c.heap.size B w (f++C0 e)):=by
 have T:∀(D:Fn) (first A:Array Value) (w:ϟ),(Instr.makeFunc D first A).run prog w= .ok (.func D first A) w:=λ_ _ _ _=>rfl;have M:=Xy i.l i.r;have z:=hIz (λ(a:ϟ) (k:Ϣ c a) (j:WR a c.heap.size B f)=>Acg c B f e.j y.y a k j ha.j i.l i.r ϣ);have J:ϡ (∀C a,Ϣ c a->WR a c.heap.size B (f++GI e.j)->WP a C B->CT 54 #[ω B,vS y.ga (ϲ e.gs) y.gc,.func (.func 55) #[] #[ω C]] a (WO c.heap.size B a (f++GI e.j++lst AX e.gs))):=λC a k j x=>AaO c C B _ y.ga y.gc y.xs e.gs a k j x ha.g i.g i.gn (by simp only[lAp];omega);have KV:ϡ (∀C a,Ϣ c a->WR a c.heap.size B (f++GI e.j++lst AX e.gs)->WP a C B->CT 57 #[ω B,vS y.va (ϲ e.v) y.vc,.func (.func 58) #[] #[ω C]] a (WO c.heap.size B a (f++C0 e))):=λC a k j x=>by
  have:=Ab6 c C B _ y.va y.vc e.v a k j x ha.v i.v i.vn (by simp only[lAp];omega);have K:IY e.v=lst Cf e.v:=rfl;rw[K]at this;unfold C0;simp only[Bx]at this⊢;exact this
 rw[AU]at z;have S:ϡ (egC e y=egC e y):=rfl;unfold egV egC;clear ha i P M;go_enter func28,ntmps28;go_wp2_with fail;generalize m:(World.alloc (World.alloc w _) _)=V;have r:Ϣ w V:=by rw[<-m];exact Ϯ.alloc ϥ _
 have l:ϡ (SB V (w.heap.size+1) (egC e y)/\Am V (w+1) 42):=by
  subst m;have j:=SB.new (ϊ w #[ω B] 66) (egC e y) 42;have E:=DE (ϊ w #[ω B] 66) (.cells (egC e y).toArray 42);rw[D0]at j E;exact⟨j,_,_,E⟩
 have g:ϡ (WP V w.heap.size B):=by
  subst m;exact⟨Ak ⟨_,_,DE _ _⟩ Ϯ,ϧ⟩
 have d:ϡ (keepW w V/\Below c.heap.size w V):=⟨keepW.of r,r.mono q.size⟩;have F:Ϣ c V:=q.trans d.o.2;have H:WR V c.heap.size B f:=h.below r;clear m r h;obtain⟨u0,u1,u2,u3,u4,u5,u6,u7,u8,u9,u10⟩:=Ib l.o.1;have u:=g.o.2;refine(z.o V F H).mono ?_;rintro o a ⟨rfl,I,k,s⟩;replace l:=hy (SB.keepW l.o Ϥ Ϥ s);replace g:ϡ (WP a w.heap.size B):=g.o.keep s;replace d:ϡ (keepW w a/\Below c.heap.size w a):=⟨d.o.1.trans s,d.o.2.trans k⟩;clear u0 u1 u2 u3 u4 u5 u6 u7 u8 u9 u10 u H F s k;obtain⟨u0,u1,u2,u3,u4,u5,u6,u7,u8,u9,u10⟩:=Ib l.o.1;have u:=g.o.2;go_wp2_with fail;refine(J.o _ a (q.trans d.o.2) I g.o).mono ?_;rintro o v ⟨rfl,Q,G,t⟩;replace l:=hy (SB.keepW l.o Ϥ Ϥ t);replace g:ϡ (WP v w.heap.size B):=g.o.keep t;replace d:ϡ (keepW w v/\Below c.heap.size w v):=⟨d.o.1.trans t,d.o.2.trans G⟩;clear u0 u1 u2 u3 u4 u5 u6 u7 u8 u9 u10 u I t G;obtain⟨u0,u1,u2,u3,u4,u5,u6,u7,u8,u9,u10⟩:=Ib l.o.1;have u:=g.o.2;go_wp2_with fail;refine(KV.o _ v (q.trans d.o.2) Q g.o).mono ?_;rintro o U ⟨rfl,R,L,O⟩;go_wp2
 go_end0
 exact⟨rfl,R,d.o.2.trans L,d.o.1.trans O⟩
noncomputable def wrS(p:pl.Pln)(e:Egg):List UInt8×Int:=if BS p e≠0 then([],BS p e)else if 1048576<ϲ (C0 e) then([],2)else(C0 e,0)
theorem Xz(p:pl.Pln)(x:pl.PA)(e:Egg)(y:GGX)(w:ϟ)(I:pl.wfPlan p)(H:pl.planAt w p x)(ha:eggAt w e y)(J:wfEg e)(v:BS p e=0->okEW e/\(ϲ (lst AX e.gs))<=3000000000000):
 χ 16 #[pl.Ai p x,egV e y] w (ψ w (.tuple #[.string ⟨(wrS p e).1.toArray⟩,vI (wrS p e).2])):=by
 have h:=hIz (λ(a:ϟ) (k:Ϣ w a)=>MW p x e y a I (pl.Ae H k) (ha.below k) J);have j:ϡ (BS p e=0->∀B a,Ϣ w a->WR a w.heap.size B []->CT 28 #[ω B,egV e y] a (WO w.heap.size B a (C0 e))):=λC B a k f=>by
  have:=UY w B [] e y a k f ha (v C).1 (by have:=(v C).2;simpa using this);rw[JV]at this;exact this
 have A:ϡ (∀B a,WR a w.heap.size B (C0 e)->CT 29 #[ω B] a λo w'=>o= .returned (.string ⟨(C0 e).toArray⟩)/\w'=a):=λB a f=>Zg _ B _ a f;obtain⟨R,m⟩:=nM (wrS p e);have c:=hV0 m;rw[m];unfold wrS at c;obtain⟨E,D⟩:=nM (C0 e);obtain⟨X,F⟩:=nM (BS p e);rw[D]at j A c;rw[F]at h j c;clear D F I H ha J v m;unfold pl.Ai at h⊢;unfold egV egC at h j⊢;go_enter func16,ntmps16;go_wp2_with fail;generalize r:(World.alloc (World.alloc w _) _)=V;have s:Ϣ w V:=by rw[<-r];exact Ϯ.alloc ϥ _
 have i:ϡ (SB V (w.heap.size+1) (egC e y)):=by
  subst r;have f:=SB.new (ϊ w (Φ p x) 32) (egC e y) 42;rw[D0]at f;exact f
 clear r;refine(h.o V s).mono ?_;rintro o a ⟨rfl,t⟩;have d:Ϣ w a:=bT s t;replace i:=hy (i.o.below t);clear t s h;by_cases z:X=0
 rotate_left
 ·have Q:(X !=0)=true:=by simpa using z
  rw[AE z]at c;go_wp2
  go_ret2
  exact⟨Adz c.o rfl,d⟩
 subst z;rw[AC Ϥ]at c;obtain⟨u0,u1,u2,u3,u4,u5,u6,u7,u8,u9,u10⟩:=Ib i.o;have S:=i.o.lt;go_wp2_with fail;have u:Ϣ a (ϊ a #[ώ] 64):=Ϯ;refine(j.o ϫ _ _ (bT d u) ((VP a).mono d.size)).mono ?_;rintro o T ⟨rfl,O,G,P⟩;go_wp2_with fail;refine(A.o _ _ O).mono ?_;rintro o U ⟨rfl,rfl⟩;have l:(⟨E.toArray⟩:ByteArray).size=ϲ E:=size_mk E;by_cases K:1048576<ϲ E
 ·rw[AE K]at c;obtain⟨q,g⟩:∃q,(⟨E.toArray⟩:ByteArray)=q:=⟨_,rfl⟩;rw[g]at l⊢;have M:(1048576:Int)<(q.size:Int):=ϣ;clear l g;go_wp2
  go_ret2
  exact⟨Adz c.o rfl,d.trans ((u.mono d.size).trans G)⟩
 ·rw[AC K]at c;obtain⟨q,g⟩:∃q,(⟨E.toArray⟩:ByteArray)=q:=⟨_,rfl⟩;have L:=hV0 g;rw[g]at l⊢;have M:(q.size:Int)<=1048576:=ϣ;clear l g;go_wp2
  go_ret2
  exact⟨Adz c.o L.o,d.trans ((u.mono d.size).trans G)⟩
def JP{r:List Cel}(h:Aq r=0)(d:B8 r):rowOk r:=by
 unfold Aq at h;split at h
 ·cases h
 ·rename_i f;exact⟨ϣ,λc a=>⟨IU h c a,d c a⟩⟩
def QX{k:ByteArray}(h:isKey k):k.size<=1048:=by
 obtain⟨r,a,e⟩:=h;have d:=DU r (λc f=>(a.2 c f).1);rw[e,A2]at d;have:=a.1;omega
theorem JQ{α:Type}{f:α->List UInt8}{l:List α}{x:α}(h:x∈l):ϲ (f x)<=ϲ (l.flatMap f):=by
 induction l with
 |nil=>cases h
 |cons y l ih=>
  rw[aH,lAp];rcases E3.1 h with rfl|h
  ·omega
  ·have:=ih h;omega
theorem UZ:∀{l:List (List Ent)},(∀r∈l,0<ϲ r)->ϲ l<=ϲ l.flatten
 |[],_=>by simp
 |r::l,h=>by
  have c:=h r (E0 ..);have d:=UZ (l:=l) (λx a=>h x (EQ _ a));rw[aQ,lAp,DP];omega
def Y5{m:Int}(h:Dv m=true):okN m:=by
 unfold Dv noMark tm.Br at h;unfold okN;simp only[cX,Sh,G3]at h;omega
theorem Y6{f:Int}:∀{l:List Tal} {rest:Int} {d:Option Cel},gr.Dp f rest d l=true->∀t∈l,t.1.ok
 |[],_,_,_,t,a=>by cases a
 |u::l,rest,d,h,t,a=>by
  rw[gr.Dp,G3]at h;rcases E3.1 a with rfl|a
  ·have c:=h.1;unfold gr.Jg gr.PV at c;simp only[G3,Sh]at c;exact c.1.1.1.1
  ·exact Y6 h.2 t a
structure goodE(p:pl.Pln)(e:Egg):Prop where
 j:okJ p e.j
 g:∀g∈e.gs,Aq g.row=0/\∀l∈g.bags,∀t∈l,t.1.ok
 v:∀c∈e.v,Aq c.r=0
 vn:ϲ e.v<=4096
theorem Afu{a:List gr.Grp}(h:gr.CP p a=0):∀g∈a,Aq g.row=0/\∀l∈g.bags,∀t∈l,t.1.ok:=by
 unfold gr.CP at h;split at h
 ·rename_i k;exact absurd h k
 split at h
 ·cases h
 split at h
 ·cases h
 split at h
 ·cases h
 rename_i s;have m:pl.allB (ϲ a) (gr.Gb p a)=true:=by simpa using s
 rw[pl.AA]at m;intro g u;obtain⟨i,o,rfl⟩:=LT u;have k:=m i o;have e:a.getD i ϰ=a[i]:=by rw[gDe,gEe o];rfl
 unfold gr.Gb at k;rw[e]at k;simp only[G3,Sh]at k;refine⟨k.1.1.1.1,λl v t d=>?_⟩;have f:=k.2;unfold gr.Kd at f;rw[G3,pl.AA]at f;obtain⟨j,q,rfl⟩:=LT v;have c:=f.2 j q;have r:(a[i]).bags.getD j []=(a[i]).bags[j]:=by rw[gDe,gEe q];rfl
 unfold gr.Jh at c;rw[r]at c;split at c
 ·have:ϲ (a[i]).bags[j]=0:=by simpa using c
  rw[aL.1 this]at d
  cases d
 ·exact Y6 c t d
def Y7(h:BS p e=0):goodE p e:=by
 unfold BS at h;by_cases d:AV p e.j=0
 ·rw[AC (by simp[d])]at h;by_cases a:Hk p e.gs=0
  ·rw[AC (by simp[a])]at h;by_cases f:ch.Av e.v=0
   ·have l:=bt.RY f;refine⟨(Eh d).2,?_,λc m=>by
     obtain⟨i,j,rfl⟩:=LT m;have k:=l.2 i j;unfold ch.Fx at k;rw[gDe,gEe j]at k;exact k.1,l.1⟩
    unfold Hk at a;split at a
    ·exact Afu a
    ·split at a
     ·cases a
     ·rename_i k;have:e.gs=[]:=aL.1 ϣ;rw[this];intro g o
      cases o
   ·rw[AE f]at h;exact absurd h f
  ·rw[AE a]at h;exact absurd h a
 ·rw[AE d]at h;exact absurd h d
def Afv{y:Ent}(h:EK y)(f:wfE y)(a:wfP (AJ y)):Dg y:=by
 obtain⟨c,d,g,i,j⟩:=h;have k:=QX c;exact⟨by unfold okT;rw[A2];omega,a.time,a.seq,JP d f.row⟩
def Y8:(∀y∈b.mem,y∈Ab b)/\∀r∈b.runs,∀y∈r,y∈Ab b:=
 ⟨λy h=>Th.2 ⟨_,E0 ..,h⟩,λr a y h=>Th.2 ⟨r,EQ _ a,h⟩⟩
def Va(h:okB b):∀y∈Ab b,EK y:=λy hy=>by
 obtain⟨l,a,c⟩:=Th.1 hy;exact h.fine l a y c
def MG(b:Buf):ϲ (Ab b)=ϲ b.mem+ϲ b.runs.flatten:=by
 show(ϲ (b.mem::b.runs).flatten)=_;rw[aQ,lAp]
def Vb(h:okB b):ϲ b.runs<=4096:=by
 have c:=UZ h.full;have a:=h.all;rw[MG]at a;omega
def Ad0(h:okB b)(c:wfB b)(f:b.lim=p.limit):Ie p.limit b:=by
 have hy:∀y∈Ab b,Dg y:=λy hy=>Afv (Va h y hy) (c.ents y hy).1 (c.ents y hy).2;have d:=h.all;rw[MG]at d;refine⟨f,⟨ϣ,λy k=>hy y (Y8.1 y k)⟩,⟨by have:=Vb h;omega,λr a=>⟨?_,λy k=>hy y (Y8.2 r a y k)⟩⟩⟩;have:=FN a;omega
def Ad1(h:okB b)(c:wfB b):okBW b:=by
 refine⟨λy hy=>?_,by have:=h.all;omega,by have:=Vb h;omega⟩;obtain⟨d,a,g⟩:=Va h y hy;have f:=JP a (c.ents y hy).1.row;exact⟨by have:=QX d;omega,(c.ents y hy).1.row,f.1,a⟩
def Ad2{t:Tal}(h:t.1.ok)(d:t.1.wf):rowOk [t.1]:=⟨ϥ,λc a=>by rw[M2.1 a];exact⟨h,d⟩⟩
def X0{g:gr.Grp}(h:gr.wfG g):∀l∈g.bags,∀t∈l,t.1.wf/\okN t.2:=λl a t c=>⟨⟨((h.tl l a).2 t c).2.1,((h.tl l a).2 t c).1⟩,((h.tl l a).2 t c).2.2⟩
def Afw(h:goodE p e)(a:wfEg e):okEW e where
 l:=Ad1 h.j.L a.j.l
 r:=Ad1 h.j.R a.j.r
 g:=λg d=>⟨JP (h.g g d).1 (a.g g d).row,λl i t j=>Ad2 ((h.g g d).2 l i t j) (X0 (a.g g d) l i t j).1,(a.g g d).bl,λl i=>((a.g g d).tl l i).1⟩
 gn:=a.gl
 v:=λc f=>⟨(a.v c f).1,(JP (h.v c f) (a.v c f).1).1,h.v c f⟩
 vn:=by have:=h.vn;omega
def Y9(h:goodE p e)(a:wfEg e):Fv p.limit e:=
 ⟨⟨Ad0 h.j.L a.j.l h.j.ll,Ad0 h.j.R a.j.r h.j.rl,Y5 h.j.lm,Y5 h.j.rm,a.j.seq⟩,
  ⟨a.gl,λg d=>⟨JP (h.g g d).1 (a.g g d).row,(a.g g d).n,(a.g g d).bl,λl f=>⟨((a.g g d).tl l f).1,λt j=>⟨Ad2 ((h.g g d).2 l f t j) (X0 (a.g g d) l f t j).1,(X0 (a.g g d) l f t j).2⟩⟩⟩⟩,
  ⟨a.n,λc i=>⟨JP (h.v c i) (a.v c i).1,(a.v c i).2.2⟩⟩⟩
theorem GG{lim:Int}(h:Fv lim e)(a:ϲ (C0 e)<=1048576):wfEg e:=by
 obtain⟨⟨D,E,K,L,C⟩,v,k⟩:=h;unfold C0 GI at a;simp only[lAp]at a;have ent:∀{b:Buf},Ie lim b->ϲ (BV b)<=1048576->wfB b:=λ{b} u j=>by
  have M:ϲ (lst AD b.mem)+ϲ (lst (lst AD) b.runs)<=1048576:=by rw[Ju]at j;unfold Ad6 ptB cat at j;rw[lAp]at j;exact j
  have one:∀{l:List Ent},(∀y∈l,Dg y)->ϲ (lst AD l)<=1048576->∀y∈l,wfE y/\wfP (AJ y):=λ{l} G i y hy=>by
   have z:=JQ (f:=AD) hy;have A:ϲ (lst AD l)=8+ϲ (l.flatMap AD):=by unfold lst;rw[lAp,As]
   have H:y.key.size<=ϲ (AD y):=by
    unfold AD;simp only[lAp,JA,A2];omega
   obtain⟨q,s,d,B⟩:=G y hy;exact⟨⟨ϭ,(EV B).1,by have:=B.1;omega⟩,⟨by show y.key.size<=maxLen;unfold maxLen;omega,s,d⟩⟩
  refine⟨λy hy=>?_,?_⟩
  ·obtain⟨l,i,x⟩:=Th.1 hy;rcases E3.1 i with rfl|i
   ·exact one u.2.1.2 ϣ y x
   ·refine one (u.2.2.2 l i).2 ?_ y x;have z:=JQ (f:=lst AD) i;have A:ϲ (lst (lst AD) b.runs)=8+ϲ (b.runs.flatMap (lst AD)):=by unfold lst;rw[lAp,As]
    omega
  ·have z:=Ee OZ b.mem;have A:ϲ (lst AD b.mem)=8+ϲ (b.mem.flatMap AD):=by unfold lst;rw[lAp,As]
   have H:ϲ (lst (lst AD) b.runs)=8+ϲ (b.runs.flatMap (lst AD)):=by unfold lst;rw[lAp,As]
   have I:∀l:List (List Ent),8 * ϲ l.flatten<=ϲ (l.flatMap (lst AD)):=λl=>by
    induction l with
    |nil=>simp
    |cons r l ih=>
     have J:=Ee OZ r;have O:ϲ (lst AD r)=8+ϲ (r.flatMap AD):=by unfold lst;rw[lAp,As]
     rw[aH,lAp,aQ,lAp];omega
   have J:=I b.runs;rw[MG];omega
 refine⟨⟨ent D ϣ,ent E ϣ,C⟩,λg F=>?_,v.1,λc m=>⟨(EV (k.2 c m).1).1,by have:=(k.2 c m).1.1;omega,(k.2 c m).2⟩,k.1⟩;obtain⟨q,s,d⟩:=v.2 g F;exact⟨(EV q).1,by have:=q.1;omega,s,d.1,λl a=>⟨(d.2 l a).1,λt o=>⟨(((d.2 l a).2 t o).1.2 t.1 ϥ).2.2,(((d.2 l a).2 t o).1.2 t.1 ϥ).2.1,((d.2 l a).2 t o).2⟩⟩⟩
def zEg:Egg:=⟨j0,[],[]⟩
def zGx:GGX:=⟨jx0,none,0,[],none,0⟩
def RdR(p:pl.Pln)(s:List UInt8)(w:World)(o:Ending)(w':World):Prop:=
 Ϣ w w'/\((pl.Ag p≠0/\o= .returned (.tuple #[egV zEg zGx,vI (pl.Ag p)]))\/
  (pl.Ag p=0/\∃e x,Fv p.limit e/\s=C0 e/\(ϲ s)<=1048576/\BS p e=0/\o= .returned (.tuple #[egV e x,Ϗ])/\eggAt w' e x)\/
  (pl.Ag p=0/\(∀e,Fv p.limit e->s=C0 e->ϲ s<=1048576->BS p e≠0)/\o= .returned (.tuple #[egV zEg zGx,vI 1])))
def OE1.below{x:GGX}{st:List (gr.GX×gr.Grp)}{su:List ((Option Addr×Nat)×ch.Cnt)}{b:Nat}(h:OE1 x st su e w b)(a:Ϣ w w'):OE1 x st su e w' b:=
 I8 x st su e w w' b b h nR a.size (λg T c _=>a.block g (A7 c))
theorem X3(e:Egg)(x:GGX)(a:Below n w V)(c:n<=N)(h:V.there N 0 11):∃W,World.setCells V N 0 (ν e.j x.y.l x.y.r [vS x.ga (ϲ e.gs) x.gc,vS x.va (ϲ e.v) x.vc])=W/\Below n w W/\Δ W N 0 (vI e.j.L.lim)/\Δ W N 1 (vS x.y.l.m.1.1 x.y.l.m.1.2.1 x.y.l.m.1.2.2)/\Δ W N 2 (vS x.y.l.ra (ϲ x.y.l.rs) x.y.l.rc)/\Δ W N 3 (vI e.j.R.lim)/\Δ W N 4 (vS x.y.r.m.1.1 x.y.r.m.1.2.1 x.y.r.m.1.2.2)/\Δ W N 5 (vS x.y.r.ra (ϲ x.y.r.rs) x.y.r.rc)/\Δ W N 6 (vI e.j.lm)/\Δ W N 7 (vI e.j.rm)/\Δ W N 8 (vI e.j.seq)/\Δ W N 9 (vS x.ga (ϲ e.gs) x.gc)/\Δ W N 10 (vS x.va (ϲ e.v) x.vc):=
 have q:=Wf V N 0 (egC e x) h
 ⟨_,rfl,below_setCells c _ 0 _ a,q 0 _ rfl,q 1 _ rfl,q 2 _ rfl,q 3 _ rfl,q 4 _ rfl,q 5 _ rfl,q 6 _ rfl,q 7 _ rfl,q 8 _ rfl,q 9 _ rfl,q 10 _ rfl⟩
def Ni(a:Below n w V)(c:n<=N)(h:V.there N 0 11):∃W,World.setCells V N 0 [Ϗ,ώ,ώ,Ϗ,ώ,ώ,Ϗ,Ϗ,Ϗ,ώ,ώ]=W/\Below n w W/\Δ W N 0 (vI 0)/\Δ W N 1 (vS none 0 0)/\Δ W N 2 (vS none 0 0)/\Δ W N 3 (vI 0)/\Δ W N 4 (vS none 0 0)/\Δ W N 5 (vS none 0 0)/\Δ W N 6 (vI 0)/\Δ W N 7 (vI 0)/\Δ W N 8 (vI 0)/\Δ W N 9 (vS none 0 0)/\Δ W N 10 (vS none 0 0):=
 X3 zEg zGx a c h
theorem QY(p:pl.Pln)(x:pl.PA)(s:List UInt8)(w:ϟ)(hw:pl.wfPlan p)(hp:pl.planAt w p x)(O:∃T a,Δ w 1 0 (.iface T a)):
 χ 18 #[pl.Ai p x,.string ⟨s.toArray⟩] w (RdR p s w):=by
 have KP:=hIz (λ(c:ϟ) (R:Ϣ w c)=>pl.CY p x c hw (pl.Ae hp R));have KT:ϡ (ϲ s<=1048576->∀PB K c,Ϣ w c->Δ c PB 5 (vI p.limit)->SB c K zE->Am c K 42->CT 33 #[.string ⟨s.toArray⟩,.func (.func 34) #[] #[ω PB,ω K]] c (TRd K p.limit s c)):=λhm PB K c R h1 M h3=>by
  obtain⟨T,a,ha⟩:=O;exact ZP PB K p.limit s c ⟨T,a,cLz R ha⟩ ϣ h1 M h3
 have KC:=hIz (λe y (c:ϟ) (hl:ϲ s<=1048576) (Y:Fv p.limit e) (Z:s=C0 e) (R:Ϣ w c) (h:eggAt c e y)=>MW p x e y c hw (pl.Ae hp R) h (GG Y (by rw[<-Z];exact hl)));have av:∀(fn:Fn) (first ak:Array Value) (w:ϟ),(Instr.makeFunc fn first ak).run prog w= .ok (.func fn first ak) w:=λ_ _ _ _=>rfl;have ap:(⟨s.toArray⟩:ByteArray).size=ϲ s:=size_mk s;obtain⟨q,hq⟩:=nM (⟨s.toArray⟩:ByteArray);rw[hq]at KT ap⊢;obtain⟨P,hP⟩:=nM (pl.Ag p);have L:=hV0 hP;rw[hP]at KP;clear hq hw hp O hP;unfold pl.Ai at KP KC⊢;go_enter func18,ntmps18;go_wp2_with fail;generalize I:(World.alloc (World.alloc w _) _)=V;have ad:Ϣ w V:=by rw[<-I];exact Ϯ.alloc ϥ _
 have d:ϡ (boxP V w p x/\SB V (w.heap.size+1) zE/\Am V (w+1) 42):=by
  subst I;have h1:=SB.new (ϊ w (Φ p x) 32) zE 42;have M:=DE (ϊ w (Φ p x) 32) (.cells zE.toArray 42);rw[D0]at h1 M;exact⟨Af (BF ..) Ϯ,h1,_,_,M⟩
 clear I;refine(KP.o V ad).mono ?_;rintro o c ⟨rfl,S⟩;have l:Ϣ w c:=bT ad S;replace d:ϡ (boxP c w p x/\SB c (w.heap.size+1) zE/\Am c (w+1) 42):=⟨Af d.o.1 S,d.o.2.1.below S,Ak d.o.2.2 S⟩;clear ad S KP;by_cases k1:P=0
 rotate_left
 ·have ay:(P !=0)=true:=by simpa using k1
  have i:ϡ (c.there (w.heap.size+1) 0 11):=d.o.2.1.there;obtain⟨W,Q,j,r,t,z,A,B,C,D,E,F,G,u⟩:=Ni (N:=w.heap.size+1) l (PS _) i.o;have H:=hy j;clear j;go_wp2_with ((with_reducible refine Ft ?_ 42 (.tmp 4) (.tmp 13) ?_ (w.heap.size+1) 0 #[Ϗ,ώ,ώ,Ϗ,ώ,ώ,Ϗ,Ϗ,Ϗ,ώ,ώ] ?_ ?_ ?_ ?_ ?_ ?_);exact rfl;exact rfl;exact rfl;exact rfl;exact i.o;exact E9;exact Ϭ);exact CD (v:=.tuple #[.agg #[Ϗ,ώ,ώ,Ϗ,ώ,ώ,Ϗ,Ϗ,Ϗ,ώ,ώ],vI P]) (by simp[results,results18,go_sem,r,t,z,A,B,C,D,E,F,G,u]) rfl ⟨H.o,.inl ⟨by rw[L.o];exact k1,by rw[L.o];rfl⟩⟩
 subst k1;by_cases k2:1048576<ϲ s
 ·have M:(1048576:Int)<(q.size:Int):=ϣ;have i:ϡ (c.there (w.heap.size+1) 0 11):=d.o.2.1.there;obtain⟨W,Q,j,r,t,z,A,B,C,D,E,F,G,u⟩:=Ni (N:=w.heap.size+1) l (PS _) i.o;have H:=hy j;clear j;go_wp2_with ((with_reducible refine Ft ?_ 42 (.tmp 4) (.tmp 18) ?_ (w.heap.size+1) 0 #[Ϗ,ώ,ώ,Ϗ,ώ,ώ,Ϗ,Ϗ,Ϗ,ώ,ώ] ?_ ?_ ?_ ?_ ?_ ?_);exact rfl;exact rfl;exact rfl;exact rfl;exact i.o;exact E9;exact Ϭ);exact CD (v:=.tuple #[.agg #[Ϗ,ώ,ώ,Ϗ,ώ,ώ,Ϗ,Ϗ,Ϗ,ώ,ώ],vI 1]) (by simp[results,results18,go_sem,r,t,z,A,B,C,D,E,F,G,u]) rfl ⟨H.o,.inr (.inr ⟨L.o,λ_ _ _ h=>absurd h ϣ,rfl⟩)⟩
 have M:(q.size:Int)<=1048576:=ϣ;have lz:=d.o.2.1.lt;go_wp2_with fail;generalize I:(World.alloc c _)=k;have aa:Ϣ c k:=by rw[<-I];exact Ϯ
 have HE:ϡ (SB k c.heap.size zE/\Am k c 42):=by
  subst I;exact⟨SB.new c zE _,_,_,DE c _⟩
 clear I;have ae:Ϣ w k:=bT l aa;replace d:ϡ (boxP k w p x/\SB k (w.heap.size+1) zE/\Am k (w+1) 42):=⟨Af d.o.1 aa,d.o.2.1.below aa,Ak d.o.2.2 aa⟩;have ax:c.heap.size<k.heap.size:=HE.o.1.lt;refine(KT.o ϣ w.heap.size c.heap.size k ae d.o.1.2.2.2.2.2.1 HE.o.1 HE.o.2).mono ?_;rintro o m ⟨U,ao⟩;have an:Ϣ w m:=ae.trans (U.below l.size (by have:=ae.size;omega));have ab:∀g,g<k.heap.size->g≠c.heap.size->m.heap[g]? =k.heap[g]? :=U.2;have aj:ϡ (boxP m w p x/\SB m (w.heap.size+1) zE/\Am m (w+1) 42):=⟨Qt d.o.1 (ab _ ϣ ϣ),d.o.2.1.same (ab _ ϣ ϣ) U.1.size,A1 d.o.2.2 (ab _ ϣ ϣ)⟩;have aw:=U.1.size;clear U ab d KT l;have d:=hy aj.o;have l:=an;clear aj;rcases ao with⟨e,y,st,su,Y,ag,rfl,am,ah,af⟩|⟨al,rfl⟩
 rotate_left
 ·have HN:=hy al;clear al;have i:ϡ (m.there (w.heap.size+1) 0 11):=d.o.2.1.there;obtain⟨W,Q,j,r,t,z,A,B,C,D,E,F,G,u⟩:=Ni (N:=w.heap.size+1) l (PS _) i.o;have H:=hy j;clear j;go_wp2_with ((with_reducible refine Ft ?_ 42 (.tmp 4) (.tmp 30) ?_ (w.heap.size+1) 0 #[Ϗ,ώ,ώ,Ϗ,ώ,ώ,Ϗ,Ϗ,Ϗ,ώ,ώ] ?_ ?_ ?_ ?_ ?_ ?_);exact rfl;exact rfl;exact rfl;exact rfl;exact i.o;exact E9;exact Ϭ);exact CD (v:=.tuple #[.agg #[Ϗ,ώ,ώ,Ϗ,ώ,ώ,Ϗ,Ϗ,Ϗ,ώ,ώ],vI 1]) (by simp[results,results18,go_sem,r,t,z,A,B,C,D,E,F,G,u]) rfl ⟨H.o,.inr (.inr ⟨L.o,λe O Z _=>absurd Z (HN.o e O),rfl⟩)⟩
 have f:ϡ (Fv p.limit e/\s=C0 e/\SB m c.heap.size (egC e y)/\y.xs=st.map (·.1)/\OE1 y st su e m k.heap.size):=⟨Y,ag,am,ah,af⟩;have ac:=KC.o e y m ϣ Y ag l (af.at ah);clear Y ag am ah af KC;obtain⟨v0,v1,v2,v3,v4,v5,v6,v7,v8,v9,aq,ar,au⟩:=d.o.1;obtain⟨u0,u1,u2,u3,u4,u5,u6,u7,u8,u9,u10⟩:=Ib f.o.2.2.1;unfold egV egC at ac;go_wp2_with fail;refine ac.mono ?_;rintro o w4 ⟨rfl,J⟩;replace l:Ϣ w w4:=bT l J;replace d:ϡ (boxP w4 w p x/\SB w4 (w.heap.size+1) zE/\Am w4 (w+1) 42):=⟨Af d.o.1 J,d.o.2.1.below J,Ak d.o.2.2 J⟩;replace f:ϡ (Fv p.limit e/\s=C0 e/\SB w4 c.heap.size (egC e y)/\y.xs=st.map (·.1)/\OE1 y st su e w4 k.heap.size):=⟨f.o.1,f.o.2.1,f.o.2.2.1.below J,f.o.2.2.2.1,f.o.2.2.2.2.below J⟩;clear v0 v1 v2 v3 v4 v5 v6 v7 v8 v9 aq ar au u0 u1 u2 u3 u4 u5 u6 u7 u8 u9 u10 J ac;obtain⟨X,hX⟩:=nM (BS p e);have ai:=hV0 hX;rw[hX];clear hX;by_cases k3:X=0
 rotate_left
 ·have az:(X !=0)=true:=by simpa using k3
  have i:ϡ (w4.there (w.heap.size+1) 0 11):=d.o.2.1.there;obtain⟨W,Q,j,r,t,z,A,B,C,D,E,F,G,u⟩:=Ni (N:=w.heap.size+1) l (PS _) i.o;have H:=hy j;clear j;go_wp2_with ((with_reducible refine Ft ?_ 42 (.tmp 4) (.tmp 30) ?_ (w.heap.size+1) 0 #[Ϗ,ώ,ώ,Ϗ,ώ,ώ,Ϗ,Ϗ,Ϗ,ώ,ώ] ?_ ?_ ?_ ?_ ?_ ?_);exact rfl;exact rfl;exact rfl;exact rfl;exact i.o;exact E9;exact Ϭ);exact CD (v:=.tuple #[.agg #[Ϗ,ώ,ώ,Ϗ,ώ,ώ,Ϗ,Ϗ,Ϗ,ώ,ώ],vI 1]) (by simp[results,results18,go_sem,r,t,z,A,B,C,D,E,F,G,u]) rfl ⟨H.o,.inr (.inr ⟨L.o,λe2 O Z _=>by rw[(MH p.limit e2 e [] [] O f.o.1 (by rw[<-Z,<-f.o.2.1])).1,ai.o];exact k3,rfl⟩)⟩
 subst k3;obtain⟨u0,u1,u2,u3,u4,u5,u6,u7,u8,u9,u10⟩:=Ib f.o.2.2.1;have i:ϡ (w4.there (w.heap.size+1) 0 11):=d.o.2.1.there;obtain⟨W,Q,j,r,t,z,A,B,C,D,E,F,G,u⟩:=X3 e y (N:=w.heap.size+1) l (PS _) i.o;have HF:ϡ (eggAt W e y/\Ϣ w W):=⟨Q▸OE1.at ((I8 y st su e).sets (T:=42) Ϥ _ 0 w4 f.o.2.2.2.2 d.o.2.2) f.o.2.2.2.1,j⟩;clear j;go_wp2_with ((with_reducible refine Ft ?_ 42 (.tmp 4) (.tmp 31) ?_ (w.heap.size+1) 0 (ζ e.j y.y.l y.y.r [vS y.ga (ϲ e.gs) y.gc,vS y.va (ϲ e.v) y.vc]) ?_ ?_ ?_ ?_ ?_ ?_);exact rfl;exact rfl;exact rfl;exact rfl;exact i.o;exact E9;exact Ϭ);exact CD (v:=.tuple #[.agg (ζ e.j y.y.l y.y.r [vS y.ga (ϲ e.gs) y.gc,vS y.va (ϲ e.v) y.vc]),Ϗ]) (by simp[results,results18,go_sem,r,t,z,A,B,C,D,E,F,G,u]) rfl ⟨HF.o.2,.inr (.inl ⟨L.o,e,y,f.o.1,f.o.2.1,ϣ,ai.o,rfl,HF.o.1⟩)⟩
theorem QZ(e:Egg)(x y:GGX)(w:ϟ)(h:eggAt w e x)(i:eggAt w e y)(G:ch.BK e.v)(H:ϲ e.v<=ύ)(L:Uh e.j)(F:ϲ e.gs<=1000000/\∀g∈e.gs,ϲ g.row<=1000/\(ϲ g.bags)<=1000/\∀l∈g.bags,ϲ l<=1073741824):
 χ 20 #[egV e x,egV e y] w (ψ w (.bool true)):=by
 have J:ϡ (∀a,Ϣ w a->CT 42 #[joinV e.j x.y,joinV e.j y.y] a (ψ a (.bool true))):=λa d=>Ac2 e.j x.y y.y a (h.j.below d) (i.j.below d) L;have M:=hIz (λ(a:ϟ) (d:Ϣ w a)=>gr.Zh x.ga y.ga x.gc y.gc x.xs y.xs e.gs a (h.g.below d) (i.g.below d) F.1 F.2);have KV:ϡ (∀a,Ϣ w a->CT 44 #[vS x.va (ϲ e.v) x.vc,vS y.va (ϲ e.v) y.vc] a (ψ a (.bool true))):=λa d=>by
  have:=ch.PD x.va y.va x.vc y.vc e.v e.v a (ch.Bp h.v d) (ch.Bp i.v d) G G H H;rw[DB rfl]at this;exact this
 rw[AU,AU]at J;unfold egV egC;clear h i G H L F;go_enter func20,ntmps20;go_wp2_with fail;generalize D:(World.alloc (World.alloc w _) _)=V;have E:Ϣ w V:=by rw[<-D];exact Ϯ.alloc ϥ _
 have c:ϡ (SB V w.heap.size (egC e x)/\SB V (w.heap.size+1) (egC e y)):=by
  subst D;have K:=SB.new (w.alloc (.cells (egC e x).toArray 42)) (egC e y) 42;rw[D0]at K;exact⟨(SB.new w (egC e x) _).below Ϯ,K⟩
 clear D;obtain⟨u0,u1,u2,u3,u4,u5,u6,u7,u8,u9,u10⟩:=Ib c.o.1;obtain⟨m,q,s,t,u,v,z,A,B,C,r⟩:=Ib c.o.2;refine(J.o V E).mono ?_;rintro o a ⟨rfl,j⟩;have f:Ϣ w a:=bT E j;replace c:ϡ (SB a w.heap.size (egC e x)/\SB a (w.heap.size+1) (egC e y)):=⟨c.o.1.below j,c.o.2.below j⟩;clear u0 u1 u2 u3 u4 u5 u6 u7 u8 u9 u10 m q s t u v z A B C r j E;obtain⟨u0,u1,u2,u3,u4,u5,u6,u7,u8,u9,u10⟩:=Ib c.o.1;obtain⟨m,q,s,t,u,v,z,A,B,C,r⟩:=Ib c.o.2;go_wp2_with fail;refine(M.o a f).mono ?_;rintro o I ⟨rfl,k⟩;replace f:Ϣ w I:=bT f k;replace c:ϡ (SB I w.heap.size (egC e x)/\SB I (w.heap.size+1) (egC e y)):=⟨c.o.1.below k,c.o.2.below k⟩;clear u0 u1 u2 u3 u4 u5 u6 u7 u8 u9 u10 m q s t u v z A B C r k;obtain⟨u0,u1,u2,u3,u4,u5,u6,u7,u8,u9,u10⟩:=Ib c.o.1;obtain⟨m,q,s,t,u,v,z,A,B,C,r⟩:=Ib c.o.2;go_wp2_with fail;refine(KV.o _ f).mono ?_;rintro o P ⟨rfl,O⟩;go_wp2;go_ret;exact⟨rfl,bT f O⟩
end cd
