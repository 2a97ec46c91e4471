import Derived.Test.YtfkihidbnfkbaaaGreatDoorPv39
import Derived.Test.YtfkihidbnfkbaaaGreatDoorTie
import Derived.LaidMore
import Derived.Deep.DeepWitnessRowRef
set_option linter.all false
set_option maxHeartbeats 8000000
set_option maxRecDepth 100000
open Go.ChangeShapes Go.WideShapes Go.ChangeAt Go.RowKit List
open Inhabited renaming default->ϰ
namespace Go.Proofs.YtfkihidbnfkbaaaGreatDoor
open Go.Proofs.Tryz
namespace cd
open vl bf bt jn
variable {p : pl.Pln} {e : Egg} {b : Buf}
theorem XD(c:Ϡ)(C B:Nat)(bs:List UInt8)(a:ϡ)(cap:Nat)(l:List Tal)(w:Ϡ)(J:ϣ c w)(h:WR w c.heap.size B bs)(Z:WP w C B)(ha:bt.FL c a l)(ho:∀x∈l,rowOk [(x).1])(hn:l.length<=ύ)(hl:bs.length+(lst BK l).length<=8500000000000):
 χ 110 #[ω B,vS a l.length cap,.func (.func 111) #[] #[ω C]] w (WO c.heap.size B w (bs++lst BK l)):=by
 have ag:(lst BK l).length=8+(l.flatMap BK).length:=by unfold lst;rw[lAp,Am]
 have U:=hIz (λn=>Cg c.heap.size B bs n w J.size h Ϥ);have O:=hy ha;have Q:∀i,i<l.length->rowOk [((l.getD i ϰ)).1]:=λi hi=>ho _ (by rw[gDe,gEe hi];exact getElem_mem hi);have S:Ϣ (∀k,k<l.length->bs.length+8+((l.take k).flatMap BK).length+(BK (l.getD k ϰ)).length<=8500000000000):=λk f=>by
  have I:=Cz BK l k f;have V:=congrArg List.length (congrArg (λz=>z.flatMap BK) (take_append_drop (k+1) l));simp only[flatMap_append,lAp]at V;rw[I,lAp]at V;omega
 have G:Ϣ (∀k,k<l.length->(l.take (k+1)).flatMap BK=(l.take k).flatMap BK++BK (l.getD k ϰ)):=λk f=>Cz BK l k f;have P:Ϣ (bs++As l.length++(l.take l.length).flatMap BK=bs++lst BK l):=by
  show _=_;unfold lst;rw[take_length,append_assoc]
 have H:Ϣ (∀k,k<l.length->∀d g,ϣ c d->WR d c.heap.size B g->WP d C B->g.length+(BK (l.getD k ϰ)).length<=8500000000000->CT 111 #[.agg #[vI (l.getD k ϰ).1.k,vI (l.getD k ϰ).1.n,.string (l.getD k ϰ).1.s,vI (l.getD k ϰ).2],ω C] d (WO c.heap.size B d (g++BK (l.getD k ϰ)))):=λk f d g u I ad ai=>YI c.heap.size C B g _ d u.size I ad (Q k f) Ϥ;obtain⟨n,A⟩:=nM l.length;have HN:=hV0 A;rw[A]at G H hn S⊢;rw[A]at P;have HC:=hV0 Z;have HB:=hV0 J;clear ha ho A h Z J Q ag hl;go_enter func110,ntmps110;go_wp2_with fail;refine(U.o _).mono ?_;rintro e d ⟨rfl,ab,u,aa⟩;have T:Ϣ (WR d c.heap.size B (bs++As n)/\Below c.heap.size w d/\keepW w d):=⟨ab,u,aa⟩;clear ab u aa U;go_wp2_with fail
 go_loopw [14] (λi wr=> ∃k:Nat,k<=n/\i=vI k/\WR wr c.heap.size B (bs++As n++(l.take k).flatMap BK)/\Below c.heap.size w wr/\keepW w wr) (λi _=>n - (intOf i).toNat)
 case atStart=>exact⟨0,Nat.zero_le _,rfl,by simpa using T.o.1,T.o.2⟩
 case round=>
  obtain⟨k,f,rfl,D,m,M⟩:=hrel;by_cases y:k<n
  ·obtain⟨b,ak,e,q,r,s,t⟩:=O.o k (by rw[HN.o];exact y);subst e;have L:=HB.o.trans m;have zz:=lk4 L q r s t;clear q r s t;obtain⟨q,r,s,t⟩:=zz;have N:=S.o k y;have K:=H.o k y;have R:Ϣ ((l.take (k+1)).flatMap BK=(l.take k).flatMap BK++BK (l.getD k ϰ)):=G.o k y;obtain⟨E,W⟩:=nM (BK (l.getD k ϰ));rw[W]at K R N;obtain⟨X,Y⟩:=nM (l.getD k ϰ);rw[Y]at K q r s t;clear Y;have KH:=hy K;have o:Ϣ (WR wr c.heap.size B (bs++As n++(l.take k).flatMap BK)/\Below c.heap.size w wr/\keepW w wr):=⟨D,m,M⟩;have aj:=m.size;have i1:=nn0 k;have i2:(k:Int)<(n:Int):=Ϥ;have HL:=hy N;have F:=hy L;clear K W D m M L H O G N;go_wp2_with fail;have j:ϣ wr (ϊ wr #[vI X.1.k,vI X.1.n,.string X.1.s,vI X.2] 121):=ϯ;refine(KH.o _ _ (F.o.trans (j.mono F.o.size)) (o.o.1.below j) ((HC.o.keep o.o.2.2).below j) (by have:=HL.o;simp only[lAp,Am];omega)).mono ?_;rintro e w2 ⟨rfl,ah,ac,ae⟩;go_wp2;go_roundw;exact⟨k+1,Ϥ,by go_num,by rw[R.o,<-append_assoc];exact ah,o.o.2.1.trans ((j.mono F.o.size).trans ac),o.o.2.2.trans ((keepW.of j).trans ae)⟩;simp[intOf];omega
  ·have af:k=n:=Ϥ;subst af;have i2:¬((k:Int)<(k:Int)):=Ϥ;rw[P.o]at D;go_wp2
   go_end0
   exact⟨rfl,D,m,M⟩
theorem ZX(c:Ϡ)(C B:Nat)(bs:List UInt8)(a:ϡ)(cap:Nat)(l:List Tal)(w:Ϡ)(o:ϣ c w)(h:WR w c.heap.size B bs)(d:WP w C B)(ha:bt.FL c a l)(m:∀x∈l,rowOk [(x).1])(j:l.length<=ύ)(i:bs.length+(B7 l).length<=8500000000000):
 χ 109 #[vS a l.length cap,ω C] w (WO c.heap.size B w (bs++B7 l)):=by
 have z:∀(g:Fn) (first cap:Array Value) (w:Ϡ),(Instr.makeFunc g first cap).run Tryz.prog w= .ok (.func g first cap) w:=λ_ _ _ _=>rfl;have f:=hy (XD c C B bs a cap l w o h d ha m j i);have y:=d.2;have u:=AH d.1;unfold B7;obtain⟨n,k⟩:=nM l.length;rw[k]at f⊢;clear ha m h d k j i;go_enter func109,ntmps109;go_wp2_with fail;refine f.o.mono ?_;rintro t A ⟨rfl,s,q,r⟩;go_wp2
 go_end0
 exact⟨rfl,s,q,r⟩
theorem XE(c:Ϡ)(C B:Nat)(bs:List UInt8)(a:ϡ)(cap:Nat)(f:List (Option Addr×Nat×Nat))(l:List (List Tal))(w:Ϡ)(I:ϣ c w)(h:WR w c.heap.size B bs)(hc:WP w C B)(ha:pl.JB c a f)(aa:f.length=l.length)(ab:∀i,i<l.length->(f.getD i (none,0,0)).2.1=(l.getD i []).length)(Z:∀i,i<l.length->bt.FL c (f.getD i (none,0,0)).1 (l.getD i []))(ae:∀x∈l,x.length<=ύ)(ho:∀x∈l,∀t∈id x,rowOk [t.1])(hn:l.length<=ύ)(hl:bs.length+(lst B7 l).length<=8500000000000):
 χ 108 #[ω B,vS a l.length cap,.func (.func 109) #[] #[ω C]] w (WO c.heap.size B w (bs++lst B7 l)):=by
 have ao:(lst B7 l).length=8+(l.flatMap B7).length:=by unfold lst;rw[lAp,Am]
 have U:=hIz (λn=>Cg c.heap.size B bs n w I.size h Ϥ);have O:=hy ha;have Q:∀i,i<l.length->∀t∈id (l.getD i ϰ),rowOk [t.1]:=λi hi=>ho _ (by rw[gDe,gEe hi];exact getElem_mem hi);have S:Ϣ (∀k,k<l.length->bs.length+8+((l.take k).flatMap B7).length+(B7 (l.getD k ϰ)).length<=8500000000000):=λk g=>by
  have F:=Cz B7 l k g;have V:=congrArg List.length (congrArg (λz=>z.flatMap B7) (take_append_drop (k+1) l));simp only[flatMap_append,lAp]at V;rw[F,lAp]at V;omega
 have A:Ϣ (∀k,k<l.length->(l.take (k+1)).flatMap B7=(l.take k).flatMap B7++B7 (l.getD k ϰ)):=λk g=>Cz B7 l k g;have P:Ϣ (bs++As l.length++(l.take l.length).flatMap B7=bs++lst B7 l):=by
  show _=_;unfold lst;rw[take_length,append_assoc]
 have D:Ϣ (∀k,k<l.length->∀d m,ϣ c d->WR d c.heap.size B m->WP d C B->m.length+(B7 (l.getD k ϰ)).length<=8500000000000->CT 109 #[vS (f.getD k (none,0,0)).1 (l.getD k ϰ).length (f.getD k (none,0,0)).2.2,ω C] d (WO c.heap.size B d (m++B7 (l.getD k ϰ)))):=λk g d m u F ak an=>ZX c C B m _ _ _ d u F ak (Z k g) (Q k g) (ae _ (by rw[gDe,gEe g];exact getElem_mem g)) an;obtain⟨n,j⟩:=nM l.length;have HN:=hV0 j;rw[j]at A D hn S⊢;rw[j]at P;have HC:=hV0 hc;have HB:=hV0 I;have ah:Ϣ (f.length=n):=aa.trans j;have ai:Ϣ (∀k,k<n->(f.getD k (none,0,0)).2.1=(l.getD k []).length):=by rw[<-j];exact ab
 clear ha ho j h hc I Q ao hl aa ab Z ae;go_enter func108,ntmps108;go_wp2_with fail;refine(U.o _).mono ?_;rintro e d ⟨rfl,af,u,ac⟩;have T:Ϣ (WR d c.heap.size B (bs++As n)/\Below c.heap.size w d/\keepW w d):=⟨af,u,ac⟩;clear af u ac U;go_wp2_with fail
 go_loopw [14] (λi wr=> ∃k:Nat,k<=n/\i=vI k/\WR wr c.heap.size B (bs++As n++(l.take k).flatMap B7)/\Below c.heap.size w wr/\keepW w wr) (λi _=>n - (intOf i).toNat)
 case atStart=>exact⟨0,Nat.zero_le _,rfl,by simpa using T.o.1,T.o.2⟩
 case round=>
  obtain⟨k,g,rfl,y,o,M⟩:=hrel;by_cases q:k<n
  ·obtain⟨b,ar,e,s⟩:=O.o k (by rw[ah.o];exact q);subst e;have J:=HB.o.trans o;replace s:=cLz J s;have N:=S.o k q;have K:=D.o k q;have R:Ϣ ((l.take (k+1)).flatMap B7=(l.take k).flatMap B7++B7 (l.getD k ϰ)):=A.o k q;obtain⟨E,W⟩:=nM (B7 (l.getD k ϰ));rw[W]at K R N;rw[ai.o k q]at s;obtain⟨X,G⟩:=nM ((l.getD k ϰ).length);obtain⟨ad,H⟩:=nM ((f.getD k (none,0,0)).1);obtain⟨cp,L⟩:=nM ((f.getD k (none,0,0)).2.2);have Y:(l.getD k []).length=X:=G;rw[G,H,L]at K;rw[Y,H,L]at s;clear G H L Y;have KH:=hy K;have r:Ϣ (WR wr c.heap.size B (bs++As n++(l.take k).flatMap B7)/\Below c.heap.size w wr/\keepW w wr):=⟨y,o,M⟩;have aq:=o.size;have i1:=nn0 k;have i2:(k:Int)<(n:Int):=Ϥ;have HL:=hy N;have ag:=hy J;clear K W y o M J D O A N;go_wp2_with fail;refine(KH.o _ _ ag.o r.o.1 (HC.o.keep r.o.2.2) (by have:=HL.o;simp only[lAp,Am];omega)).mono ?_;rintro e w2 ⟨rfl,ap,aj,al⟩;go_wp2;go_roundw;exact⟨k+1,Ϥ,by go_num,by rw[R.o,<-append_assoc];exact ap,r.o.2.1.trans aj,r.o.2.2.trans al⟩;simp[intOf];omega
  ·have am:k=n:=Ϥ;subst am;have i2:¬((k:Int)<(k:Int)):=Ϥ;rw[P.o]at y;go_wp2
   go_end0
   exact⟨rfl,y,o,M⟩
def U2(g:gr.Grp):Prop:=rowOk g.row/\(∀x∈g.bags,∀t∈id x,rowOk [t.1])/\g.bags.length<=ύ/\∀x∈g.bags,x.length<=ύ
theorem U3(c:Ϡ)(B:Nat)(bs:List UInt8)(x:gr.GX)(g:gr.Grp)(w:Ϡ)(k:ϣ c w)(h:WR w c.heap.size B bs)(ha:gr.gAt c x g)(i:U2 g)(t:bs.length+(AV g).length<=8500000000000):
 χ 56 #[ω B,gr.LC x g] w (WO c.heap.size B w (bs++AV g)):=by
 have Z:∀(G:Fn) (first F:Array Value) (w:Ϡ),(Instr.makeFunc G first F).run Tryz.prog w= .ok (.func G first F) w:=λ_ _ _ _=>rfl;have R:=IG i.1;have D:=hIz (λ(a:Ϡ) (f:ϣ w a)=>Hx c.heap.size B bs x.r x.rc g.row a (Nat.le_trans k.size f.size) (h.below f) Ϥ (vl.Ac (vl.Ac ha.row k) f) (Ga i.1).1 i.1.1 (Ga i.1).2);have M:Ϣ (∀a,WR a c.heap.size B (bs++Bz g.row)->c.heap.size<=a.heap.size->CT 60 #[ω B,vI g.n] a (WO c.heap.size B a (bs++Bz g.row++As g.n))):=λa z f=>Cg c.heap.size B _ g.n a f z (by rw[lAp];omega);have s:Ϣ (∀C a,ϣ c a->WR a c.heap.size B (bs++Bz g.row++As g.n)->WP a C B->CT 108 #[ω B,vS x.b g.bags.length x.bc,.func (.func 109) #[] #[ω C]] a (WO c.heap.size B a (bs++AV g))):=λC a f z P=>by
  have:=XE c C B _ x.b x.bc x.hs g.bags a f z P ha.hs ha.len ha.hl ha.bag i.2.2.2 i.2.1 i.2.2.1 (by unfold AV at t;simp only[lAp]at t⊢;omega);unfold AV;simp only[append_assoc]at this⊢;exact this
 obtain⟨E,J⟩:=nM (AV g);rw[J]at s⊢;unfold gr.LC;have X:=hV0 h;obtain⟨W,H⟩:=nM g.row.length;obtain⟨m,I⟩:=nM g.bags.length;rw[H]at D⊢;rw[I]at s⊢;clear ha i t J R h H I;go_enter func56,ntmps56;go_wp2_with fail;generalize j:(World.alloc (World.alloc w _) _)=V;have n:ϣ w V:=by rw[<-j];exact ϯ.alloc Ϧ _
 have u:=World.alloc_heap_new (ϊ w #[ω B] 66) (.cells #[vS x.r W x.rc,vI g.n,vS x.b m x.bc] 102);rw[World.size_alloc,j]at u;have y:Ah V (w+1) 102:=⟨_,_,u⟩;have d:Ϣ (CW V (w.heap.size+1) 102 1 (vI g.n)/\CW V (w.heap.size+1) 102 2 (vS x.b m x.bc)/\WP V w.heap.size B):=
  ⟨⟨y,by subst j;go_simp⟩,⟨y,by subst j;go_simp⟩,⟨by subst j;exact Ak ⟨_,_,World.alloc_heap_new _ _⟩ ϯ,by subst j;go_simp⟩⟩
 clear j y u;refine(D.o V n).mono ?_;rintro e a ⟨rfl,S,f,l⟩;replace d:Ϣ (CW a (w.heap.size+1) 102 1 (vI g.n)/\CW a (w.heap.size+1) 102 2 (vS x.b m x.bc)/\WP a w.heap.size B):=⟨d.o.1.keep l ϥ ϥ,d.o.2.1.keep l ϥ ϥ,d.o.2.2.keep l⟩;have o:Below c.heap.size w a:=(n.mono k.size).trans f;have r:keepW w a:=(keepW.of n).trans l;have L:=d.o.2.2.2;have N:=d.o.1.2;clear f l n;go_wp2_with fail;refine(M.o a S (Nat.le_trans k.size r.1.size)).mono ?_;rintro e A ⟨rfl,T,K,q⟩;replace d:Ϣ (CW A (w.heap.size+1) 102 2 (vS x.b m x.bc)/\WP A w.heap.size B):=⟨d.o.2.1.keep q ϥ ϥ,d.o.2.2.keep q⟩;replace o:=o.trans K;replace r:=r.trans q;clear L N K q;have L:=d.o.2.2;have Y:=d.o.1.2;go_wp2_with fail;refine(s.o w.heap.size A (k.trans o) T d.o.2).mono ?_;rintro e w3 ⟨rfl,U,O,Q⟩;go_wp2
 go_end0
 exact⟨rfl,U,o.trans O,r.trans Q⟩
theorem XF(a:Ϡ)(C B:Nat)(bs:List UInt8)(x:gr.GX)(g:gr.Grp)(w:Ϡ)(k:ϣ a w)(h:WR w a.heap.size B bs)(f:WP w C B)(ha:gr.gAt a x g)(m:U2 g)(l:bs.length+(AV g).length<=8500000000000):
 χ 55 #[gr.LC x g,ω C] w (WO a.heap.size B w (bs++AV g)):=by
 have j:=hIz (λ(i:Ϡ) (c:ϣ w i)=>U3 a B bs x g i (bT k c) (h.below c) ha m l);have s:=f.2;have r:=AH f.1;unfold gr.LC at j⊢;clear ha m h f l;go_enter func55,ntmps55;go_wp2_with fail;have d:ϣ w (ϊ w #[vS x.r g.row.length x.rc,vI g.n,vS x.b g.bags.length x.bc] 102):=ϯ;refine(j.o _ d).mono ?_;rintro q i ⟨rfl,o,c,n⟩;go_wp2
 go_end0
 exact⟨rfl,o,(d.mono k.size).trans c,(keepW.of d).trans n⟩
theorem XG(c:Ϡ)(C B:Nat)(bs:List UInt8)(a:ϡ)(cap:Nat)(g:List gr.GX)(l:List gr.Grp)(w:Ϡ)(M:ϣ c w)(h:WR w c.heap.size B bs)(hc:WP w C B)(ha:gr.gsAt c a g l)(ho:∀x∈l,U2 x)(hn:l.length<=ύ)(hl:bs.length+(lst AV l).length<=8500000000000):
 χ 54 #[ω B,vS a l.length cap,.func (.func 55) #[] #[ω C]] w (WO c.heap.size B w (bs++lst AV l)):=by
 have ah:(lst AV l).length=8+(l.flatMap AV).length:=by unfold lst;rw[lAp,Am]
 have V:=hIz (λn=>Cg c.heap.size B bs n w M.size h Ϥ);have P:=hy ha;have R:∀i,i<l.length->U2 (l.getD i ϰ):=λi hi=>ho _ (by rw[gDe,gEe hi];exact getElem_mem hi);have T:Ϣ (∀k,k<l.length->bs.length+8+((l.take k).flatMap AV).length+(AV (l.getD k ϰ)).length<=8500000000000):=λk f=>by
  have J:=Cz AV l k f;have W:=congrArg List.length (congrArg (λz=>z.flatMap AV) (take_append_drop (k+1) l));simp only[flatMap_append,lAp]at W;rw[J,lAp]at W;omega
 have D:Ϣ (∀k,k<l.length->(l.take (k+1)).flatMap AV=(l.take k).flatMap AV++AV (l.getD k ϰ)):=λk f=>Cz AV l k f;have Q:Ϣ (bs++As l.length++(l.take l.length).flatMap AV=bs++lst AV l):=by
  show _=_;unfold lst;rw[take_length,append_assoc]
 have F:Ϣ (∀k,k<l.length->∀d j,ϣ c d->WR d c.heap.size B j->WP d C B->j.length+(AV (l.getD k ϰ)).length<=8500000000000->CT 55 #[.agg #[vS (g.getD k ϰ).r (l.getD k ϰ).row.length (g.getD k ϰ).rc,vI (l.getD k ϰ).n,vS (g.getD k ϰ).b (l.getD k ϰ).bags.length (g.getD k ϰ).bc],ω C] d (WO c.heap.size B d (j++AV (l.getD k ϰ)))):=λk f d j s J ad ag=>XF c C B j _ _ d s J ad (ha.each k f) (R k f) ag;obtain⟨n,u⟩:=nM l.length;have HN:=hV0 u;rw[u]at D F hn T⊢;rw[u]at Q;have HC:=hV0 hc;have HB:=hV0 M;clear ha ho u h hc M R ah hl;go_enter func54,ntmps54;go_wp2_with fail;refine(V.o _).mono ?_;rintro e d ⟨rfl,ab,s,aa⟩;have U:Ϣ (WR d c.heap.size B (bs++As n)/\Below c.heap.size w d/\keepW w d):=⟨ab,s,aa⟩;clear ab s aa V;go_wp2_with fail
 go_loopw [14] (λi wr=> ∃k:Nat,k<=n/\i=vI k/\WR wr c.heap.size B (bs++As n++(l.take k).flatMap AV)/\Below c.heap.size w wr/\keepW w wr) (λi _=>n - (intOf i).toNat)
 case atStart=>exact⟨0,Nat.zero_le _,rfl,by simpa using U.o.1,U.o.2⟩
 case round=>
  obtain⟨k,f,rfl,y,q,N⟩:=hrel;by_cases t:k<n
  ·obtain⟨b,ak,e,G,H,I⟩:=P.o.cells k (by rw[HN.o];exact t);subst e;have m:=HB.o.trans q;replace G:=cLz m G;replace H:=cLz m H;replace I:=cLz m I;have O:=T.o k t;have K:=F.o k t;have S:Ϣ ((l.take (k+1)).flatMap AV=(l.take k).flatMap AV++AV (l.getD k ϰ)):=D.o k t;obtain⟨E,Z⟩:=nM (AV (l.getD k ϰ));rw[Z]at K S O;obtain⟨X,L⟩:=nM (l.getD k ϰ);obtain⟨Y,hY⟩:=nM (g.getD k ϰ);rw[L,hY]at K G I;rw[L]at H;clear L hY;have KH:=hy K;have r:Ϣ (WR wr c.heap.size B (bs++As n++(l.take k).flatMap AV)/\Below c.heap.size w wr/\keepW w wr):=⟨y,q,N⟩;have aj:=q.size;have i1:=nn0 k;have i2:(k:Int)<(n:Int):=Ϥ;have HL:=hy O;have A:=hy m;clear K Z y q N m F P D O;go_wp2_with fail;have o:ϣ wr (ϊ wr #[vS Y.r X.row.length Y.rc,vI X.n,vS Y.b X.bags.length Y.bc] 102):=ϯ;refine(KH.o _ _ (A.o.trans (o.mono A.o.size)) (r.o.1.below o) ((HC.o.keep r.o.2.2).below o) (by have:=HL.o;simp only[lAp,Am];omega)).mono ?_;rintro e w2 ⟨rfl,ai,ac,ae⟩;go_wp2;go_roundw;exact⟨k+1,Ϥ,by go_num,by rw[S.o,<-append_assoc];exact ai,r.o.2.1.trans ((o.mono A.o.size).trans ac),r.o.2.2.trans ((keepW.of o).trans ae)⟩;simp[intOf];omega
  ·have af:k=n:=Ϥ;subst af;have i2:¬((k:Int)<(k:Int)):=Ϥ;rw[Q.o]at y;go_wp2
   go_end0
   exact⟨rfl,y,q,N⟩
theorem P6{R:List UInt8×Int}{l:List UInt8}{i:Int}{q:ByteArray}(h:(l,i)=R)(a:(⟨l.toArray⟩:ByteArray)=q):Ending.returned (.tuple #[.string q,vI i])= .returned (.tuple #[.string ⟨R.1.toArray⟩,vI R.2]):=by
 subst h a;rfl
structure okEW(e:Egg):Prop where
 l:okBW e.j.L
 r:okBW e.j.R
 g:∀x∈e.gs,U2 x
 gn:e.gs.length<=ύ
 v:∀c∈e.v,okC c
 vn:e.v.length<=10000
theorem SB.keepW{w w':Ϡ}{N:Nat}{T:TypeId}{d:List Value}(h:SB w N d/\Ah w N T)(h1:T≠5)(c:T≠64)(a:cd.keepW w w'):SB w' N d/\Ah w' N T:=
 ⟨h.1.same (a.2 N T h.2 h1 c) a.1.size,Aq h.2 (a.2 N T h.2 h1 c)⟩
theorem Ni{s:Jn}(a:okBW s.L)(c:okBW s.R):(F6 s).length<=90000000:=by
 have d:=L3 a;have f:=L3 c;unfold F6;simp only[lAp,Am];omega
theorem Sk(c:Ϡ)(B:Nat)(bs:List UInt8)(e:Egg)(y:GGX)(w:Ϡ)(m:ϣ c w)(h:WR w c.heap.size B bs)(ha:eggAt c e y)(g:okEW e)(N:bs.length+(lst AV e.gs).length<=3000000000000):
 χ 28 #[ω B,egV e y] w (WO c.heap.size B w (bs++IF e)):=by
 have R:∀(A:Fn) (first z:Array Value) (w:Ϡ),(Instr.makeFunc A first z).run Tryz.prog w= .ok (.func A first z) w:=λ_ _ _ _=>rfl;have L:=Ni g.l g.r;have x:=hIz (λ(a:Ϡ) (j:ϣ c a) (i:WR a c.heap.size B bs)=>ZI c B bs e.j y.y a j i ha.j g.l g.r Ϥ);have I:Ϣ (∀C a,ϣ c a->WR a c.heap.size B (bs++F6 e.j)->WP a C B->CT 54 #[ω B,vS y.ga e.gs.length y.gc,.func (.func 55) #[] #[ω C]] a (WO c.heap.size B a (bs++F6 e.j++lst AV e.gs))):=λC a j i u=>XG c C B _ y.ga y.gc y.xs e.gs a j i u ha.g g.g g.gn (by simp only[lAp];omega);have KV:Ϣ (∀C a,ϣ c a->WR a c.heap.size B (bs++F6 e.j++lst AV e.gs)->WP a C B->CT 57 #[ω B,vS y.va e.v.length y.vc,.func (.func 58) #[] #[ω C]] a (WO c.heap.size B a (bs++IF e))):=λC a j i u=>by
  have:=Ab0 c C B _ y.va y.vc e.v a j i u ha.v g.v g.vn (by simp only[lAp];omega);have J:C9 e.v=lst BA e.v:=rfl;rw[J]at this;unfold IF;simp only[append_assoc]at this⊢;exact this
 rw[AY]at x;have Q:Ϣ (egC e y=egC e y):=rfl;unfold egV egC;clear ha g N L;go_enter func28,ntmps28;go_wp2_with fail;generalize l:(World.alloc (World.alloc w _) _)=V;have n:ϣ w V:=by rw[<-l];exact ϯ.alloc Ϧ _
 have k:Ϣ (SB V (w.heap.size+1) (egC e y)/\Ah V (w+1) 42):=by
  subst l;have i:=SB.new (ϊ w #[ω B] 66) (egC e y) 42;have D:=World.alloc_heap_new (ϊ w #[ω B] 66) (.cells (egC e y).toArray 42);rw[World.size_alloc]at i D;exact⟨i,_,_,D⟩
 have f:Ϣ (WP V w.heap.size B):=by
  subst l;exact⟨Ak ⟨_,_,World.alloc_heap_new _ _⟩ ϯ,Ϩ⟩
 have d:Ϣ (keepW w V/\Below c.heap.size w V):=⟨keepW.of n,n.mono m.size⟩;have E:ϣ c V:=m.trans d.o.2;have G:WR V c.heap.size B bs:=h.below n;clear l n h;obtain⟨u0,u1,u2,u3,u4,u5,u6,u7,u8,u9,u10⟩:=Iq k.o.1;have s:=f.o.2;refine(x.o V E G).mono ?_;rintro o a ⟨rfl,H,j,q⟩;replace k:=hy (SB.keepW k.o ϥ ϥ q);replace f:Ϣ (WP a w.heap.size B):=f.o.keep q;replace d:Ϣ (keepW w a/\Below c.heap.size w a):=⟨d.o.1.trans q,d.o.2.trans j⟩;clear u0 u1 u2 u3 u4 u5 u6 u7 u8 u9 u10 s G E q j;obtain⟨u0,u1,u2,u3,u4,u5,u6,u7,u8,u9,u10⟩:=Iq k.o.1;have s:=f.o.2;go_wp2_with fail;refine(I.o _ a (m.trans d.o.2) H f.o).mono ?_;rintro o t ⟨rfl,O,F,r⟩;replace k:=hy (SB.keepW k.o ϥ ϥ r);replace f:Ϣ (WP t w.heap.size B):=f.o.keep r;replace d:Ϣ (keepW w t/\Below c.heap.size w t):=⟨d.o.1.trans r,d.o.2.trans F⟩;clear u0 u1 u2 u3 u4 u5 u6 u7 u8 u9 u10 s H r F;obtain⟨u0,u1,u2,u3,u4,u5,u6,u7,u8,u9,u10⟩:=Iq k.o.1;have s:=f.o.2;go_wp2_with fail;refine(KV.o _ t (m.trans d.o.2) O f.o).mono ?_;rintro o S ⟨rfl,P,K,M⟩;go_wp2
 go_end0
 exact⟨rfl,P,d.o.2.trans K,d.o.1.trans M⟩
noncomputable def wrS(p:pl.Pln)(e:Egg):List UInt8×Int:=if Cs p e≠0 then([],Cs p e)else if 1048576<(IF e).length then([],2)else(IF e,0)
theorem Nj(p:pl.Pln)(x:pl.PA)(e:Egg)(y:GGX)(w:Ϡ)(I:pl.wfPlan p)(H:pl.planAt w p x)(ha:eggAt w e y)(J:wfEg e)(u:Cs p e=0->okEW e/\(lst AV e.gs).length<=3000000000000):
 χ 16 #[pl.Aj p x,egV e y] w (ψ w (.tuple #[.string ⟨(wrS p e).1.toArray⟩,vI (wrS p e).2])):=by
 have h:=hIz (λ(a:Ϡ) (k:ϣ w a)=>T5 p x e y a I (pl.Ae H k) (ha.below k) J);have j:Ϣ (Cs p e=0->∀B a,ϣ w a->WR a w.heap.size B []->CT 28 #[ω B,egV e y] a (WO w.heap.size B a (IF e))):=λC B a k f=>by
  have:=Sk w B [] e y a k f ha (u C).1 (by have:=(u C).2;simpa using this);rw[nil_append]at this;exact this
 have A:Ϣ (∀B a,WR a w.heap.size B (IF e)->CT 29 #[ω B] a λo w'=>o= .returned (.string ⟨(IF e).toArray⟩)/\w'=a):=λB a f=>YH _ B _ a f;obtain⟨R,m⟩:=nM (wrS p e);have c:=hV0 m;rw[m];unfold wrS at c;obtain⟨E,D⟩:=nM (IF e);obtain⟨X,F⟩:=nM (Cs p e);rw[D]at j A c;rw[F]at h j c;clear D F I H ha J u m;unfold pl.Aj at h⊢;unfold egV egC at h j⊢;go_enter func16,ntmps16;go_wp2_with fail;generalize n:(World.alloc (World.alloc w _) _)=V;have r:ϣ w V:=by rw[<-n];exact ϯ.alloc Ϧ _
 have i:Ϣ (SB V (w.heap.size+1) (egC e y)):=by
  subst n;have f:=SB.new (ϊ w (Φ p x) 32) (egC e y) 42;rw[World.size_alloc]at f;exact f
 clear n;refine(h.o V r).mono ?_;rintro o a ⟨rfl,s⟩;have d:ϣ w a:=bT r s;replace i:=hy (i.o.below s);clear s r h;by_cases z:X=0
 rotate_left
 ·have P:(X !=0)=true:=by simpa using z
  rw[if_pos z]at c;go_wp2
  go_ret2
  exact⟨P6 c.o rfl,d⟩
 subst z;rw[if_neg ϥ]at c;obtain⟨u0,u1,u2,u3,u4,u5,u6,u7,u8,u9,u10⟩:=Iq i.o;have Q:=i.o.lt;go_wp2_with fail;have t:ϣ a (ϊ a #[ώ] 64):=ϯ;refine(j.o Ϭ _ _ (bT d t) ((Vm a).mono d.size)).mono ?_;rintro o S ⟨rfl,N,G,O⟩;go_wp2_with fail;refine(A.o _ _ N).mono ?_;rintro o T ⟨rfl,rfl⟩;have l:(⟨E.toArray⟩:ByteArray).size=E.length:=size_mk E;by_cases K:1048576<E.length
 ·rw[if_pos K]at c;obtain⟨q,g⟩:∃q,(⟨E.toArray⟩:ByteArray)=q:=⟨_,rfl⟩;rw[g]at l⊢;have M:(1048576:Int)<(q.size:Int):=Ϥ;clear l g;go_wp2
  go_ret2
  exact⟨P6 c.o rfl,d.trans ((t.mono d.size).trans G)⟩
 ·rw[if_neg K]at c;obtain⟨q,g⟩:∃q,(⟨E.toArray⟩:ByteArray)=q:=⟨_,rfl⟩;have L:=hV0 g;rw[g]at l⊢;have M:(q.size:Int)<=1048576:=Ϥ;clear l g;go_wp2
  go_ret2
  exact⟨P6 c.o L.o,d.trans ((t.mono d.size).trans G)⟩
theorem Gw{r:List Cel}(h:Au r=0)(d:Bq r):rowOk r:=by
 unfold Au at h;split at h
 ·cases h
 ·rename_i f;exact⟨Ϥ,λc a=>⟨I9 h c a,d c a⟩⟩
theorem P7{k:ByteArray}(h:isKey k):k.size<=1048:=by
 obtain⟨r,a,e⟩:=h;have d:=D6 r (λc f=>(a.2 c f).1);rw[e,A2]at d;have:=a.1;omega
theorem Sl:∀{l:List (List Ent)},(∀r∈l,0<r.length)->l.length<=l.flatten.length
 |[],_=>by simp
 |r::l,h=>by
  have c:=h r (mem_cons_self ..);have d:=Sl (l:=l) (λx a=>h x (mem_cons_of_mem _ a));rw[flatten_cons,lAp,length_cons];omega
theorem W6{m:Int}(h:Du m=true):okN m:=by
 unfold Du noMark tm.Bt at h;unfold okN;simp only[Bool.or_eq_true,decide_eq_true_eq,Bool.and_eq_true]at h;omega
theorem W7{f:Int}:∀{l:List Tal} {rest:Int} {d:Option Cel},gr.Dl f rest d l=true->∀t∈l,t.1.ok
 |[],_,_,_,t,a=>by cases a
 |u::l,rest,d,h,t,a=>by
  rw[gr.Dl,Bool.and_eq_true]at h;rcases mem_cons.1 a with rfl|a
  ·have c:=h.1;unfold gr.I1 gr.Pa at c;simp only[Bool.and_eq_true,decide_eq_true_eq]at c;exact c.1.1.1.1
  ·exact W7 h.2 t a
structure goodE(p:pl.Pln)(e:Egg):Prop where
 j:okJ p e.j
 g:∀g∈e.gs,Au g.row=0/\∀l∈g.bags,∀t∈l,t.1.ok
 v:∀c∈e.v,Au c.r=0
 vn:e.v.length<=4096
theorem AcH{a:List gr.Grp}(h:gr.CS p a=0):∀g∈a,Au g.row=0/\∀l∈g.bags,∀t∈l,t.1.ok:=by
 unfold gr.CS at h;split at h
 ·rename_i k;exact absurd h k
 split at h
 ·cases h
 split at h
 ·cases h
 split at h
 ·cases h
 rename_i r;have m:pl.allB a.length (gr.FQ p a)=true:=by simpa using r
 rw[pl.AF]at m;intro g s;obtain⟨i,n,rfl⟩:=getElem_of_mem s;have k:=m i n;have e:a.getD i ϰ=a[i]:=by rw[gDe,gEe n];rfl
 unfold gr.FQ at k;rw[e]at k;simp only[Bool.and_eq_true,decide_eq_true_eq]at k;refine⟨k.1.1.1.1,λl u t d=>?_⟩;have f:=k.2;unfold gr.J0 at f;rw[Bool.and_eq_true,pl.AF]at f;obtain⟨j,o,rfl⟩:=getElem_of_mem u;have c:=f.2 j o;have q:(a[i]).bags.getD j []=(a[i]).bags[j]:=by rw[gDe,gEe o];rfl
 unfold gr.I2 at c;rw[q]at c;split at c
 ·have:(a[i]).bags[j].length=0:=by simpa using c
  rw[length_eq_zero_iff.1 this]at d
  cases d
 ·exact W7 c t d
theorem MC(h:Cs p e=0):goodE p e:=by
 unfold Cs at h;by_cases d:Ba p e.j=0
 ·rw[if_neg (by simp[d])]at h;by_cases a:GY p e.gs=0
  ·rw[if_neg (by simp[a])]at h;by_cases f:ch.Az e.v=0
   ·have l:=bt.RI f;refine⟨(Ee d).2,?_,λc m=>by
     obtain⟨i,j,rfl⟩:=getElem_of_mem m;have k:=l.2 i j;unfold ch.Fe at k;rw[gDe,gEe j]at k;exact k.1,l.1⟩
    unfold GY at a;split at a
    ·exact AcH a
    ·split at a
     ·cases a
     ·rename_i k;have:e.gs=[]:=length_eq_zero_iff.1 Ϥ;rw[this];intro g n
      cases n
   ·rw[if_pos f]at h;exact absurd h f
  ·rw[if_pos a]at h;exact absurd h a
 ·rw[if_pos d]at h;exact absurd h d
theorem AcI{y:Ent}(h:EH y)(f:wfE y)(a:wfP (AK y)):AcO y:=by
 obtain⟨c,d,g,i,j⟩:=h;have k:=P7 c;exact⟨by unfold okT;rw[A2];omega,a.time,a.seq,Gw d f.row⟩
theorem W8:(∀y∈b.mem,y∈Ab b)/\∀r∈b.runs,∀y∈r,y∈Ab b:=
 ⟨λy h=>mem_flatten.2 ⟨_,mem_cons_self ..,h⟩,λr a y h=>mem_flatten.2 ⟨r,mem_cons_of_mem _ a,h⟩⟩
theorem Sm(h:okB b):∀y∈Ab b,EH y:=λy hy=>by
 obtain⟨l,a,c⟩:=mem_flatten.1 hy;exact h.fine l a y c
theorem P8(b:Buf):(Ab b).length=b.mem.length+b.runs.flatten.length:=by
 show(b.mem::b.runs).flatten.length=_;rw[flatten_cons,lAp]
theorem Sn(h:okB b):b.runs.length<=4096:=by
 have c:=Sl h.full;have a:=h.all;rw[P8]at a;omega
theorem ZY(h:okB b)(c:wfB b)(f:b.lim=p.limit):Afr p.limit b:=by
 have hy:∀y∈Ab b,AcO y:=λy hy=>AcI (Sm h y hy) (c.ents y hy).1 (c.ents y hy).2;have d:=h.all;rw[P8]at d;refine⟨f,⟨Ϥ,λy k=>hy y (W8.1 y k)⟩,⟨by have:=Sn h;omega,λr a=>⟨?_,λy k=>hy y (W8.2 r a y k)⟩⟩⟩;have:=Es a;omega
theorem ZZ(h:okB b)(c:wfB b):okBW b:=by
 refine⟨λy hy=>?_,by have:=h.all;omega,by have:=Sn h;omega⟩;obtain⟨d,a,g⟩:=Sm h y hy;have f:=Gw a (c.ents y hy).1.row;exact⟨by have:=P7 d;omega,(c.ents y hy).1.row,f.1,a⟩
theorem Aaa{t:Tal}(h:t.1.ok)(d:t.1.wf):rowOk [t.1]:=⟨Ϧ,λc a=>by rw[mem_singleton.1 a];exact⟨h,d⟩⟩
theorem U4{g:gr.Grp}(h:gr.wfG g):∀l∈g.bags,∀t∈l,t.1.wf/\okN t.2:=λl a t c=>⟨⟨((h.tl l a).2 t c).2.1,((h.tl l a).2 t c).1⟩,((h.tl l a).2 t c).2.2⟩
theorem Q5(h:goodE p e)(a:wfEg e):okEW e where
 l:=ZZ h.j.L a.j.l
 r:=ZZ h.j.R a.j.r
 g:=λg d=>⟨Gw (h.g g d).1 (a.g g d).row,λl i t j=>Aaa ((h.g g d).2 l i t j) (U4 (a.g g d) l i t j).1,(a.g g d).bl,λl i=>((a.g g d).tl l i).1⟩
 gn:=a.gl
 v:=λc f=>⟨(a.v c f).1,(Gw (h.v c f) (a.v c f).1).1,h.v c f⟩
 vn:=by have:=h.vn;omega
theorem AcJ(h:goodE p e)(a:wfEg e):okEg p.limit e:=
 ⟨⟨ZY h.j.L a.j.l h.j.ll,ZY h.j.R a.j.r h.j.rl,W6 h.j.lm,W6 h.j.rm,a.j.seq⟩,
  ⟨a.gl,λg d=>⟨Gw (h.g g d).1 (a.g g d).row,(a.g g d).n,(a.g g d).bl,λl f=>⟨((a.g g d).tl l f).1,λt j=>⟨Aaa ((h.g g d).2 l f t j) (U4 (a.g g d) l f t j).1,(U4 (a.g g d) l f t j).2⟩⟩⟩⟩,
  ⟨a.n,λc i=>⟨Gw (h.v c i) (a.v c i).1,(a.v c i).2.2⟩⟩⟩
end cd
namespace cd
open vl bf jn
attribute [local go_sem] Oper.semAt_some
def Eg5:Egg:=⟨En5.j,[],En5.v⟩
def gx(y:EX):GGX:=⟨y.y,none,0,[],y.va,y.vc⟩
theorem AfA{w:Ϡ}{y:EX}(h:enAt w En5 y):eggAt w Eg5 (gx y):=⟨h.j,⟨rfl,λi a=>absurd a (Nat.not_lt_zero i),λi a=>absurd a (Nat.not_lt_zero i)⟩,h.v⟩
theorem Aey:wfEg Eg5:=⟨T6.j,λg a=>absurd a not_mem_nil,Nat.zero_le _,T6.v,T6.n⟩
theorem Aez:Cs sP Eg5=0:=by
 have h:=QD;have a:GY sP Eg5.gs=0:=by
  unfold GY;rw[if_neg ϥ,if_neg ϥ]
 unfold DY at h;unfold Cs;rw[a];exact h
theorem AeQ:goodE sP Eg5:=MC Aez
theorem AfB:(IF Eg5).length<=1048576:=Nat.le_trans Xg ϥ
theorem wrS5:wrS sP Eg5=(IF Eg5,0):=by
 unfold wrS;rw[Aez,if_neg ϥ,if_neg (by have:=AfB;omega)]
theorem AfC:IF Eg5=It En5:=by
 show F6 _++(As 0++[])++_=_;rw[append_nil];rfl
theorem XH(w:Ϡ)(h:J6 w):χ 9 #[] w (ψ w (.bool true)):=by
 obtain⟨A3,ag⟩:=nM ({data:=#[97,98,99]}:ByteArray);have O:Ϣ (CT 10 #[.string {data:=#[97,98,99]}] w (ψ w (.tuple #[.string ⟨Of.toArray⟩,Ϗ]))):=by
  have:=XO {data:=#[97,98,99]} w h;rw[show({data:=#[97,98,99]}:ByteArray).data.toList=[97,98,99]from rfl,AdT]at this;exact this
 have P:Ϣ (∀a,ϣ w a->CT 14 #[.string ⟨Of.toArray⟩] a (ψ a (.tuple #[.string {data:=#[97,98,99]},Ϗ]))):=λa n=>by
  have hl:(⟨Of.toArray⟩:ByteArray).size=11:=size_toArray.trans Xh;have:=Aao ⟨Of.toArray⟩ a (FG h n) (by rw[hl];decide);rw[show(⟨Of.toArray⟩:ByteArray).data.toList=Of from rfl,AdU]at this;exact this
 have ae:Ϣ (∀a,ϣ w a->CT 12 #[.string {data:=#[49,50,51,52,53,54,55,56,57]}] a λo w'=>o= .returned (.int .u32 3421780262)/\w'=a):=λa n=>by
  have:=Rr {data:=#[49,50,51,52,53,54,55,56,57]} a (FG h n) ϥ;rw[show({data:=#[49,50,51,52,53,54,55,56,57]}:ByteArray).data.toList=[49,50,51,52,53,54,55,56,57]from rfl,Ab6]at this;exact this
 have u:Ϣ (∀a,CT 23 #[] a λo w'=>(∃x,o= .returned (pl.Aj sP x)/\pl.planAt w' sP x)/\ϣ a w'):=λa=>by
  refine(pl.U9 a).mono ?_;rintro o w' ⟨⟨x,rfl,g,_⟩,n⟩;exact⟨⟨x,rfl,g⟩,n⟩
 have af:=hIz (λ(a:Ϡ)=>Yt a);have J:Ϣ (∀x b r a,pl.planAt a sP x->Lf a (ϋ b) JP r->CT 22 #[pl.Aj sP x,vS (ϋ b) 5 5] a λo w'=>(∃y t nv,o= .returned (.tuple #[enV En5 y,t,nv,Ϗ])/\enAt w' En5 y)/\ϣ a w'):=λx b r a g H=>by
  obtain⟨E,R,ax,ah,ai⟩:=Acm;have:=Z2 sP x JP r (ϋ b) 5 E R a pl.LF g ⟨rfl,rfl⟩ pl.Dy ah ax H ϥ;rw[show JP.length=5 from rfl,ai]at this;exact this
 have A:Ϣ (∀x y a,pl.planAt a sP x->enAt a En5 y->CT 16 #[pl.Aj sP x,enV En5 y] a (ψ a (.tuple #[.string ⟨(It En5).toArray⟩,Ϗ]))):=λx y a g ha=>by
  have:=Nj sP x Eg5 (gx y) a pl.LF g (AfA ha) Aey (λ_=>⟨Q5 AeQ Aey,ϥ⟩);rw[wrS5,AfC]at this;exact this
 have z:=hIz (λx (a:Ϡ) (g:pl.planAt a sP x)=>Ab5 sP x En5 a pl.LF g rfl QD T6 AfV lim5 (Nat.le_trans Xg ϥ));have Q:Ϣ (∀x y a,enAt a En5 x->enAt a En5 y->CT 20 #[enV En5 x,enV En5 y] a (ψ a (.bool true))):=λx y a hx hy=>YQ En5 x y a hx hy T6 AfW;have N:Ϣ ((⟨Of.toArray⟩:ByteArray).size=11):=size_toArray.trans Xh;obtain⟨F,W⟩:=nM (⟨Of.toArray⟩:ByteArray);obtain⟨B,T⟩:=nM (⟨(It En5).toArray⟩:ByteArray);obtain⟨p,g⟩:=nM sP;obtain⟨e,he⟩:=nM En5;rw[W]at O P N;rw[T]at A z;rw[g]at u J A z;rw[he]at J A z Q;clear W T g he ag A3 h;go_enter func9,ntmps9;go_wp2_with fail;refine O.o.mono ?_;rintro o a ⟨rfl,X⟩;go_wp2_with fail;refine(P.o _ X).mono ?_;rintro o w2 ⟨rfl,ak⟩;have aq:ϣ w w2:=bT X ak;go_wp2_with fail;refine(u.o _).mono ?_;rintro o w3 ⟨⟨x,rfl,j⟩,al⟩;have ar:ϣ w w3:=bT aq al;go_wp2_with fail;refine(af.o _).mono ?_;rintro o w4 ⟨⟨b,r,rfl,H⟩,Y⟩;have au:ϣ w w4:=bT ar Y;go_wp2_with fail;refine(J.o x b r w4 (pl.Ae j Y) H).mono ?_;rintro o c ⟨⟨y,t,nv,rfl,hy⟩,am⟩;have av:ϣ w c:=bT au am;have f:=hV0 hy;clear hy H j;rw[D5 e y];go_upto_region 4 with fail;generalize k:(World.alloc c _)=V;have G:ϣ c V:=by rw[<-k];exact ϯ
 have d:Ϣ (Co V c.heap.size e y):=by
  subst k;exact DG ..
 clear k;have ap:ϣ w V:=bT av G;replace f:Ϣ (enAt V e y):=f.o.below G;refine gr.Dm 8 rfl ϧ (S:=(λw'=>Δ w' c 0 (vI e.j.L.lim)/\Δ w' c 1 (vS y.y.l.m.1.1 y.y.l.m.1.2.1 y.y.l.m.1.2.2)/\Δ w' c 2 (vS y.y.l.ra y.y.l.rs.length y.y.l.rc)/\Δ w' c 3 (vI e.j.R.lim)/\Δ w' c 4 (vS y.y.r.m.1.1 y.y.r.m.1.2.1 y.y.r.m.1.2.2)/\Δ w' c 5 (vS y.y.r.ra y.y.r.rs.length y.y.r.rc)/\Δ w' c 6 (vI e.j.lm)/\Δ w' c 7 (vI e.j.rm)/\Δ w' c 8 (vI e.j.seq)/\Δ w' c 9 (vS none 0 0)/\Δ w' c 10 (vS y.va e.v.length y.vc))) (Bg d.o bR.drew) (λi=>?_);refine tkz 1 32 i ?_;refine rD 0 λK m=>?_;go_simp;go_at_call 23;refine(u.o _).mono ?_;rintro o w6 ⟨⟨x2,rfl,j⟩,G⟩;have M:ϣ V w6:=bR.drew.trans G;go_wp2_with fail;refine m.out _ _ (Bg d.o M) (λi=>?_);clear m K
 try simp only[Act.put,sI,sZ,sSz]
 refine rD 2 λK m=>?_;go_simp;go_at_call 16;rw[<-D5 e y];refine(A.o x2 y w6 j (f.o.below M)).mono ?_;rintro o q ⟨rfl,an⟩;have C:ϣ V q:=bT M an;go_wp2_with fail;refine m.out _ _ (Bg d.o C) (λi=>?_);clear m K
 try simp only[Act.put,sI,sZ,sSz]
 refine tkz 3 30 i ?_;refine tkz 4 34 i ?_;refine tkz 5 35 i ?_;refine tkz 6 9 i ?_;refine tkz 7 10 i ?_;refine wpAnyH_done ϧ ?_ _;have ab:ϣ w q:=bT ap C;replace f:Ϣ (enAt q e y):=f.o.below C;replace d:Ϣ (Co q c.heap.size e y):=Bg d.o C;clear i j;go_wp2_with fail;refine(u.o _).mono ?_;rintro o w8 ⟨⟨x3,rfl,j⟩,Z⟩;have ay:ϣ w w8:=bT ab Z;go_wp2_with fail;refine(z.o x3 w8 j).mono ?_;rintro o l ⟨⟨s,rfl,ac⟩,ao⟩;have L:ϣ q l:=bT Z ao;have aw:ϣ w l:=bT ab L;rw[D5 e s];replace f:Ϣ (enAt l e y):=f.o.below L;replace d:Ϣ (Co l c.heap.size e y):=Bg d.o L;have I:=hV0 ac;clear ac j;go_upto_region 6 with fail;generalize k:(World.alloc l _)=U;have D:ϣ l U:=by rw[<-k];exact ϯ
 have ad:Ϣ (Co U l.heap.size e s):=by
  subst k;exact DG ..
 clear k;have aa:ϣ w U:=bT aw D;replace f:Ϣ (enAt U e y):=f.o.below D;replace I:Ϣ (enAt U e s):=I.o.below D;replace d:Ϣ (Co U c.heap.size e y):=Bg d.o D;obtain⟨u0,u1,u2,u3,u4,u5,u6,u7,u8,u9,u10⟩:=d.o;obtain⟨v0,v1,v2,v3,v4,v5,v6,v7,v8,v9,a0⟩:=ad.o;have az:=N.o;go_wp2_with fail;refine(ae.o _ aa).mono ?_;rintro o a1 ⟨rfl,rfl⟩;go_wp2_with fail;rw[<-D5 e y,<-D5 e s];refine(Q.o y s _ f.o I.o).mono ?_;rintro o a2 ⟨rfl,aj⟩;go_wp2;go_ret;exact⟨rfl,bT aa aj⟩
end cd
namespace cd
open vl bf jn
end cd
namespace cd
theorem AfD:Tryz.prog.globalNamed "meetwater/code.nibbles" =some 0:=ϧ
theorem tNib:(Tryz.prog.globals[0]?).map (·.type)=some 61:=ϧ
theorem uNib:Tryz.prog.underlying 61=some (.array 16 26):=ϧ
theorem uU32:Tryz.prog.underlying 26=some (.int .u32):=ϧ
theorem c26:Tryz.prog.cellsOf 26=1:=ϧ
theorem c61:Tryz.prog.cellsOf 61=16:=ϧ
def lays:List (String×DataW Unit):=[("meetwater/tape.errWrong",Rows.laid_meetwater_tape_errWrong),("meetwater/code.nibbles",Rows.laid_meetwater_code_nibbles)]
def zs:List Int:=QY.map Int.ofNat
theorem AeR{W:Ϡ}(h:laidMetH Tryz.prog lays W):J6 W:=by
 rw[MakeChecks.laidMetH_plain _ _ _ ϧ]at h;obtain⟨z,⟨q,D,l,n,x,A,s,t,u,hd0,⟨r,E,m,o,y,C,d,g,i,c,_,_⟩,_⟩,_⟩:=h;obtain rfl:=Option.some.inj (AfD.symm.trans d);obtain rfl:=Option.some.inj (tNib.symm.trans g);have f:Lib.TabIs Tryz.prog W "meetwater/code.nibbles" .u32 zs:=by
  unfold Lib.TabIs;rw[i,<-Lib.cells_of_tab (k:=.u32) (zs:=zs) uNib uU32 c26 c61 c]
 intro j a;have:=f.cell AfD j (show j<zs.length from a);rw[this];have e:zs.getD j 0=Int.ofNat (QY.getD j 0):=by
  unfold zs;rw[gDe,gDe,getElem?_map,gEe (show j<QY.length from a)];rfl
 rw[e];rfl
end cd
namespace cd
open vl bf bt jn
variable {w w' : Ϡ} {B base : Nat} {bs : List UInt8} {v : Value}
def B6(w w':World):Prop:=Below 0 w w'/\∀g e,Ah w g e->e≠5->e≠114->w'.heap[g]? =w.heap[g]?
theorem B6.refl(w:Ϡ):B6 w w:=⟨bR,λ_ _ _ _ _=>rfl⟩
theorem B6.trans{a b c:Ϡ}(h:B6 a b)(k:B6 b c):B6 a c:=⟨h.1.trans k.1,λg e i d f=>(k.2 g e (Aq i (h.2 g e i d f)) d f).trans (h.2 g e i d f)⟩
theorem B6.of(h:ϣ w w'):B6 w w':=⟨h.mono (Nat.zero_le _),λg e a _ _=>h.block g (AH a)⟩
structure WI(w:World)(base B:Nat)(bs:List UInt8):Prop where
 cell:∃v,Δ w B 0 v/\ownB w base v bs
 frz:Ξ w B 0
 tb:Ah w B 114
 low:base<=B
theorem WI.same(h:WI w base B bs)(h1:w'.heap[B]? =w.heap[B]?)(d:∀g,Ah w g 5->w'.heap[g]? =w.heap[g]?):WI w' base B bs:=by
 obtain⟨v,f,c⟩:=h.cell;exact⟨⟨v,(cOb (w:=w) (a:=⟨B,0,none⟩) h1).trans f,A1 c (λg i=>d g (A9 c i))⟩,(World.frozen?_of_block (w:=w) (a:=⟨B,0,none⟩) h1).trans h.frz,Aq h.tb h1,h.low⟩
theorem WI.below(h:WI w base B bs)(a:ϣ w w'):WI w' base B bs:=h.same (a.block B (AH h.tb)) (λg c=>a.block g (AH c))
theorem WI.lt(h:WI w base B bs):B<w.heap.size:=AH h.tb
theorem Aab{q w2:Ϡ}{bs':List UInt8}{v':Value}(h:WI w base B bs)(l:ownB w base v bs)(i:ϣ w q)(j:q.grownBy w2 v.ownBlock)(o:ownB w2 base v' bs')(m:base<=w.heap.size):
 WI (ό w2 B 0 v') base B bs'/\Below base w (ό w2 B 0 v')/\B6 w (ό w2 B 0 v'):=by
 have u:∀g e,Ah w g e->e≠5->g≠B->(w2.setCell ⟨B,0,none⟩ v').heap[g]? =w.heap[g]? :=λg e d z D=>by
  rw[heap_setCell_other _ _ _ _ D];exact CL i j (AH d) (λc=>tyAt_apart d (A9 l c) z rfl)
 have f:w2.heap[B]? =w.heap[B]? :=CL i j h.lt (λc=>tyAt_apart h.tb (A9 l c) ϥ rfl);obtain⟨F,x,_⟩:=h.cell;have y:Δ w2 B 0 F:=(cOb (w:=w) (a:=⟨B,0,none⟩) f).trans x;have A:Ξ w2 B 0:=(World.frozen?_of_block (w:=w) (a:=⟨B,0,none⟩) f).trans h.frz;have t:v'.ownBlock≠some B:=λc=>tyAt_apart (Aq h.tb f) (A9 o c) ϥ rfl;have n:Below base w (ό w2 B 0 v'):=(((i.mono m).grown j (Nat.le_trans m i.size) (λk E=>(World.ownsRow.lt l k E).1))).setCell h.low v';exact⟨⟨⟨v',World.cell?_setCell_same' _ _ _ (by rw[y];rfl),A1 o (λg C=>heap_setCell_other _ _ _ _ (λc=>t ((congrArg some (show B=g from c.symm)).symm▸C)))⟩,by rw[World.frozen?_setCell];exact A,Ao (Aq h.tb f) _ _,h.low⟩,n,n.mono (Nat.zero_le _),λg e d r s=>u g e d r (tyAt_apart d h.tb s)⟩
theorem CI.keep{g o:Nat}{e:TypeId}(h:CW w g e o v)(d:B6 w w')(h1:e≠5)(c:e≠114):CW w' g e o v:=
 ⟨Aq h.1 (d.2 g e h.1 h1 c),(cOb (w:=w) (a:=⟨g,o,none⟩) (d.2 g e h.1 h1 c)).trans h.2⟩
def IW(base B:Nat)(w:World)(bs:List UInt8)(e:Ending)(w':World):Prop:=e= .returned (.tuple #[])/\WI w' base B bs/\Below base w w'/\B6 w w'
theorem XI{G:Array Oper}{o:Oper}{a:Act}{K:Act->World->Prop}{Q:Exit->Act->World->Prop}{E:Prop}(m:o.guard=none)(s x:Operand)
 (t:o.op= .call {callee:=.builtin .append,args:=#[s,x],argTypes:=#[51,9]})
 (base:Nat) (v:Value) (l:List UInt8) (q:ByteArray) (c:Ϡ) (r:ownB c base v l) (I:l.length+q.size<=100000000000000) (k:base<=c.heap.size)
 (y:a.eval s=v) (z:a.eval x= .string q)
 (h:∀d f g,ownB g base (vS d (l.length+q.size) f) (l++q.data.toList)->c.grownBy g v.ownBlock->K (a.put o.dst (vS d (l.length+q.size) f)) g):
 if Region.wanted o (yielded G a.tmps)=true then Oper.wp Tryz.prog o a c K Q else E:=by
 rw[if_pos (by simp[Region.wanted,m])];obtain⟨F,n,A,C,D⟩:=info_parts Tryz.info5;obtain⟨J,w',u,i,j,H⟩:=Lib.run_append_own_string (P:=Tryz.prog) c base 51 9 o.type 5 F underlying51 Vp n A C D v l.length (l.map Ef) r q Ϯ Ϥ k;obtain⟨d,f,rfl⟩:=Lg i;unfold Oper.wp execOp;simp only[t,resolve,invoke,builtin,Sem.run_bind,Sem.run_pure,Result.andThen_ok,List.map_toArray,map_cons,map_nil,y,z,u];refine h d f w' ?_ j;unfold ownB;rw[lAp,A2,map_append];exact i
theorem Kg(base B:Nat)(bs:List UInt8)(n:Int)(w:Ϡ)(m:base<=w.heap.size)(h:WI w base B bs)(E:bs.length<=10000000000000):
 χ 67 #[ω B,vI n] w (IW base B w (bs++As n)):=by
 have k:Ϣ (∀c,CT 123 #[vI n] c (ψ c (.string ⟨(As n).toArray⟩))):=by exact λc=>P5 n (u64 n) c (TA n) (Rl n)
 obtain⟨v,o,g⟩:=h.cell;have y:=hV0 h;have j:Ϣ (∀W,ϣ w W->ownB W base v bs):=λW A=>JJ g A;have D:=h.lt;have f:Ϣ (Ξ w B 0/\Δ w B 0 v/\v.ownBlock≠some B):=⟨h.frz,o,λz=>tyAt_apart h.tb (A9 g z) ϥ rfl⟩;have t:(⟨(As n).toArray⟩:ByteArray).size=8:=by rw[size_mk,Am]
 have i:Ϣ (bs++(⟨(As n).toArray⟩:ByteArray).data.toList=bs++As n):=rfl;rw[<-i.o];obtain⟨q,s⟩:=nM (⟨(As n).toArray⟩:ByteArray);rw[s]at k t⊢;have x:Ϣ (bs.length+q.size<=100000000000000):=by show _<=_;omega
 clear h g s E i t;go_enter func67,ntmps67;go_upto_region 0 with fail
 go_region_law (first
  |(go_simp;go_at_call 123;refine(k.o _).mono ?_;rintro e c ⟨rfl,C⟩;have d:ϣ w c:=bR.drew.trans C;replace o:=cLz d f.o.2.1)
  |(refine XI (by rfl) (.tmp 8) (.tmp 10) (by rfl) base v bs q _ (j.o _ d) x.o (Nat.le_trans m d.size) (by simp[Act.eval,Act.put]) (by simp[Act.eval,Act.put]) ?_;intro J K u F r;have l:=CL d r D f.o.2.2;have L:Δ u B 0 v:=(cOb (w:=w) (a:=⟨B,0,none⟩) l).trans f.o.2.1;have M:Ξ u B 0:=(World.frozen?_of_block (w:=w) (a:=⟨B,0,none⟩) l).trans f.o.1))
 all_goals
  obtain⟨G,H,I⟩:=Aab y.o (j.o w bR) d r F m
  go_end0
  exact⟨rfl,G,H,I⟩
theorem P9(base B:Nat)(bs:List UInt8)(s:ByteArray)(w:Ϡ)(q:base<=w.heap.size)(h:WI w base B bs)(T:bs.length+s.size<=9999900000000):
 χ 124 #[ω B,.string s] w (IW base B w (bs++txt s.data.toList)):=by
 have n:Ϣ (CT 67 #[ω B,vI s.size] w (IW base B w (bs++As s.size))):=Kg base B bs s.size w q h Ϥ;obtain⟨M,H,J,K,L⟩:=info_parts Tryz.info5;have t:=h.lt;clear h;have k:Ϣ (bs++As s.size++s.data.toList=bs++txt s.data.toList):=by
  show _=_;unfold txt;rw[A2,append_assoc]
 obtain⟨N,g⟩:=nM (As s.size);have F:N.length=8:=by rw[<-g,Am]
 rw[g]at n k;clear g;go_enter func124,ntmps124;go_wp2_with fail;refine n.o.mono ?_;rintro e d ⟨rfl,c,r,I⟩;obtain⟨v,G,i⟩:=c.cell;have D:=hV0 c;have m:=hV0 i;have t:=c.lt;have f:Ϣ (Ξ d B 0/\Δ d B 0 v/\v.ownBlock≠some B):=⟨c.frz,G,λE=>tyAt_apart c.tb (A9 i E) ϥ rfl⟩;have R:=c.frz;have u:base<=d.heap.size:=Nat.le_trans q r.size;have l:Ϣ ((bs++N).length+s.size<=100000000000000):=by show _<=_;rw[lAp];omega
 clear c i;go_wp2_with (at_builtin;refine Lib.wpList_append_own_string _ rfl (.tmp 12) (.tmp 13) 51 9 rfl base 5 M underlying51 Vp H J K L v (bs++N).length ((bs++N).map Ef) rfl m.o s rfl (by have:=l.o;unfold maxLen;omega) (by have:=l.o;omega) u ?_;intro U C y x _;obtain⟨O,P,rfl⟩:=Lg y;have o:=CL bR x t f.o.2.2;have Q:Δ C B 0 v:=(cOb (w:=d) (a:=⟨B,0,none⟩) o).trans f.o.2.1;have S:Ξ C B 0:=(World.frozen?_of_block (w:=d) (a:=⟨B,0,none⟩) o).trans f.o.1);obtain⟨j,z,A⟩:=Aab (bs':=bs++N++s.data.toList) D.o m.o bR x (by
  unfold ownB;rw[lAp,A2,map_append];exact y) u
 rw[k.o]at j;rw[lAp,F]at j z A
 go_end0
 exact⟨rfl,j,r.trans z,I.trans A⟩
theorem So(base B:Nat)(bs:List UInt8)(a:ϡ)(cap:Nat)(r:List Cel)(w:Ϡ)(i:base<=w.heap.size)(h:WI w base B bs)(u:bs.length<=9999000000000)(k:vl.rowAt w a r)(f:rowOk r):
 χ 68 #[ω B,vS a r.length cap] w (IW base B w (bs++Bz r)):=by
 have g:Ϣ (CT 125 #[vS a r.length cap] w (ψ w (.string ⟨(encR r).toArray⟩))):=Hb a cap r w k f;have t:=SR f.1 (Ga f).2;have l:Ϣ (∀c,ϣ w c->CT 124 #[ω B,.string ⟨(encR r).toArray⟩] c (IW base B c (bs++Bz r))):=λc d=>P9 base B bs ⟨(encR r).toArray⟩ c (Nat.le_trans i d.size) (h.below d) (by show bs.length+(encR r).toArray.size<=_;rw[size_toArray];omega);have s:=h.lt;obtain⟨n,j⟩:=nM r.length;rw[j]at g⊢;clear h k f j;go_enter func68,ntmps68;go_wp2_with fail;refine g.o.mono ?_;rintro e c ⟨rfl,d⟩;go_wp2_with fail;refine(l.o c d).mono ?_;rintro e x ⟨rfl,q,m,o⟩;go_wp2
 go_end0
 exact⟨rfl,q,(d.mono i).trans m,(B6.of d).trans o⟩
theorem PC(c:Ϡ)(B:Nat)(bs:List UInt8)(a:ϡ)(cap:Nat)(u:List EM)(l:List Ent)(w:Ϡ)(hb:ϣ c w)(h:WI w c.heap.size B bs)(ha:BR c a u)(W:ERs c u l)(ho:∀x∈l,okW x)(hn:l.length<=10000)(hl:bs.length<=8500000000000):
 χ 122 #[ω B,vS a l.length cap] w (IW c.heap.size B w (bs++A5 l)):=by
 have F:=hIz (λ(f:Ϡ) V n (A:WI f c.heap.size B V) (j:c.heap.size<=f.heap.size) (an:V.length<=10000000000000)=>Kg c.heap.size B V n f j A an);have D:Ϣ (BR c a u/\u.length=l.length/\∀i,i<l.length->ER c (u.getD i ϰ) (l.getD i ϰ)):=⟨ha,W.1,W.2⟩;have HO:Ϣ (∀i,i<l.length->okW (l.getD i ϰ)):=λi hi=>ho _ (by rw[gDe,gEe hi];exact getElem_mem hi);have HT:Ϣ (∀k,((l.take k).flatMap Bp).length<=40000000):=λk=>by
  have:=I5 (l:=l.take k) (λx J=>ho x (mem_of_mem_take J));have h2:(l.take k).length<=l.length:=List.length_take_le' ..;omega
 have HF:Ϣ (∀k,k<l.length->(l.take (k+1)).flatMap Bp=(l.take k).flatMap Bp++Bp (l.getD k ϰ)):=λk hk=>Cz Bp l k hk;have af:Ϣ (bs++As l.length++(l.take l.length).flatMap Bp=bs++A5 l):=by
  show _=_;unfold A5;rw[take_length,append_assoc]
 obtain⟨n,I⟩:=nM l.length;have HN:=hV0 I;rw[I]at D HO HF hn⊢;rw[I]at af;have HB:=hV0 hb;have ax:=hV0 h;clear ha W ho I h hb;go_enter func122,ntmps122;go_wp2_with fail;refine(F.o w bs _ ax.o HB.o.size Ϥ).mono ?_;rintro e f ⟨rfl,ar,j,ai⟩;have ag:Ϣ (WI f c.heap.size B (bs++As n)/\Below c.heap.size w f/\B6 w f):=⟨ar,j,ai⟩;clear ar j ai;go_wp2_with fail
 go_loopw [4] (λi wr=> ∃k:Nat,k<=n/\i=vI k/\WI wr c.heap.size B (bs++As n++(l.take k).flatMap Bp)/\Below c.heap.size w wr/\B6 w wr) (λi _=>n - (intOf i).toNat)
 case atStart=>exact⟨0,Nat.zero_le _,rfl,by simpa using ag.o.1,ag.o.2⟩
 case round=>
  obtain⟨k,hk,rfl,C,G,ad⟩:=hrel;by_cases H:k<n
  ·obtain⟨b,a4,ee,y,s,t,o,z⟩:=D.o.1 k (by rw[D.o.2.1];exact H);subst ee;obtain⟨K,L,M,N,O,Q⟩:=D.o.2.2 k H;have q:=HO.o k H;have Y:(bs++As n++(l.take k).flatMap Bp).length<=8550000000000:=by have:=HT.o k;simp only[lAp,Am];omega
   have m:Ϣ (bs++As n++(l.take (k+1)).flatMap Bp=bs++As n++(l.take k).flatMap Bp++txt (l.getD k ϰ).key.data.toList++As (l.getD k ϰ).time++As (l.getD k ϰ).seq++Bz (l.getD k ϰ).row++CC (l.getD k ϰ).met):=by
    show _=_;rw[HF.o k H];unfold Bp;simp only[append_assoc]
   obtain⟨x,J⟩:=nM (l.getD k ϰ);obtain⟨X,hX⟩:=nM (u.getD k ϰ);obtain⟨P,ah⟩:=nM (bs++As n++(l.take k).flatMap Bp);rw[hX]at y s t o z K L M N O Q;rw[J]at K L M N O Q q m;rw[ah]at m Y C;unfold hdV at o;rw[K]at y;rw[L]at s;rw[M]at t;rw[O]at o;rw[N]at z;clear J hX ah K L M N O;have a0:=q.key;have ap:=FV q.len q.err;have ae:=GH x.key.data.toList;rw[A2]at ae;have KT:=hIz (λ(f:Ϡ) (A:WI f c.heap.size B P) (j:c.heap.size<=f.heap.size)=>P9 c.heap.size B P x.key f j A Ϥ);have S:=hIz (λ(f:Ϡ) U (an:U.length<=9000000000000) (A:WI f c.heap.size B U) (j:ϣ c f)=>So c.heap.size B U X.row.1 X.row.2.2 x.row f j.size A Ϥ (vl.Ac Q j) (Gw q.err q.row));have r:Ϣ (ϕ c b (a4+k * 5+1) (vI x.time) (vI x.seq) (vS X.row.1 x.row.length X.row.2.2) (.bool x.met)):=⟨s,t,o,z⟩;obtain⟨T,hT⟩:=nM (txt x.key.data.toList);rw[hT]at KT m ae;obtain⟨R,hR⟩:=nM (Bz x.row);rw[hR]at S m ap;obtain⟨rn,aq⟩:=nM x.row.length;rw[aq]at S r;obtain⟨mt,ao⟩:=nM x.met;rw[ao]at r m;have i1:=nn0 k;have i2:(k:Int)<(n:Int):=Ϥ;have E:Ϣ (P.length<=8550000000000/\T.length<=2100/\R.length<=2100):=⟨Y,Ϥ,Ϥ⟩;have g:Ϣ (Below c.heap.size w wr/\B6 w wr):=⟨G,ad⟩;have d:=HB.o.trans G;replace y:=cLz d y;clear hT hR aq ao s t o z Q q a0 ap ae Y G ad;go_wp2_with fail;refine(KT.o wr C d.size).mono ?_;rintro e w2 ⟨rfl,au,Z,aj⟩;replace d:=d.trans Z;replace g:Ϣ (Below c.heap.size w w2/\B6 w w2):=⟨g.o.1.trans Z,g.o.2.trans aj⟩;have s:=cLz d r.o.1;clear y C Z aj;go_wp2_with fail;refine(F.o w2 _ _ au d.size (by have:=E.o;simp only[lAp];omega)).mono ?_;rintro e w3 ⟨rfl,av,aa,ak⟩;replace d:=d.trans aa;replace g:Ϣ (Below c.heap.size w w3/\B6 w w3):=⟨g.o.1.trans aa,g.o.2.trans ak⟩;have t:=cLz d r.o.2.1;clear s au aa ak;go_wp2_with fail;refine(F.o w3 _ _ av d.size (by have:=E.o;simp only[lAp,Am];omega)).mono ?_;rintro e w4 ⟨rfl,aw,ab,al⟩
   replace d:=d.trans ab;replace g:Ϣ (Below c.heap.size w w4/\B6 w w4):=⟨g.o.1.trans ab,g.o.2.trans al⟩;have o:=cLz d r.o.2.2.1;clear t av ab al;go_wp2_with fail;refine(S.o w4 _ (by have:=E.o;simp only[lAp,Am];omega) aw d).mono ?_;rintro e w5 ⟨rfl,a2,ac,am⟩;replace d:=d.trans ac;replace g:Ϣ (Below c.heap.size w w5/\B6 w w5):=⟨g.o.1.trans ac,g.o.2.trans am⟩;have z:=cLz d r.o.2.2.2;clear o aw ac am;unfold CC at m
   cases mt
   all_goals
    go_wp2_with fail;refine(F.o w5 _ _ a2 d.size (by have:=E.o;simp only[lAp,Am];omega)).mono ?_;rintro e w6 ⟨rfl,a3,ay,az⟩;go_wp2;go_roundw;exact⟨k+1,Ϥ,by go_num,by rw[m.o];exact a3,g.o.1.trans ay,g.o.2.trans az⟩;simp[intOf];omega
  ·have a1:k=n:=Ϥ;subst a1;have i2:¬((k:Int)<(k:Int)):=Ϥ;rw[af.o]at C;go_wp2
   go_end0
   exact⟨rfl,C,G,ad⟩
theorem Sp(a:Ϡ)(B:Nat)(bs:List UInt8)(b:Buf)(x:BX)(w:Ϡ)(hb:ϣ a w)(h:WI w a.heap.size B bs)(ha:bufAt a b x)(f:okBW b)(hl:bs.length<=4000000000000):
 χ 66 #[ω B,.agg (Ω b x)] w (IW a.heap.size B w (bs++Bo b)):=by
 have af:x.m.1.2.1=b.mem.length:=((ha.len _ (mem_cons_self ..)).1).trans ha.mem.1;have ae:(A5 b.mem).length<=40000008:=by
  have:=I5 f.mem.1;have:=f.mem.2;unfold A5;rw[lAp,Am];omega
 have KM:Ϣ (∀c,ϣ a c->WI c a.heap.size B bs->CT 122 #[ω B,vS x.m.1.1 x.m.1.2.1 x.m.1.2.2] c (IW a.heap.size B c (bs++A5 b.mem))):=λc m y=>by
  rw[af];exact PC a B bs _ _ x.m.2 b.mem c m y (ha.ems _ (mem_cons_self ..)) ha.mem f.mem.1 f.mem.2 Ϥ
 have KN:=hIz (λ(c:Ϡ) j n (y:WI c a.heap.size B j) (m:a.heap.size<=c.heap.size) (R:j.length<=10000000000000)=>Kg a.heap.size B j n c m y R);have T:∀i,i<b.runs.length->x.rs.getD i ϰ∈x.rs:=λi G=>by rw[gDe,gEe (by rw[ha.rlen];exact G)];exact getElem_mem _
 have S:∀i,i<b.runs.length->b.runs.getD i ϰ∈b.runs:=λi G=>by rw[gDe,gEe G];exact getElem_mem G
 have HA:Ϣ (FH a x.ra (x.rs.map (·.1))):=ha.hds;have HT:Ϣ (∀k,((b.runs.take k).flatMap A5).length<=40100000):=λk=>by
  have:=Ka (l:=b.runs.take k) (λr hr=>f.run.1 r (mem_of_mem_take hr));have h2:(b.runs.take k).length<=b.runs.length:=List.length_take_le' ..;have h3:=Fj b.runs k;have h4:=f.run.2;have h5:=f.runs;omega
 have Y:Ϣ (∀k,k<b.runs.length->(b.runs.take (k+1)).flatMap A5=(b.runs.take k).flatMap A5++A5 (b.runs.getD k ϰ)):=λk d=>Cz A5 b.runs k d;have Z:Ϣ (∀k,k<b.runs.length->(x.rs.map (·.1)).getD k (none,0,0)=((x.rs.getD k ϰ).1.1,(b.runs.getD k ϰ).length,(x.rs.getD k ϰ).1.2.2)):=λk d=>by
  have e1:(x.rs.map (·.1)).getD k (none,0,0)=(x.rs.getD k ϰ).1:=by
   rw[gDe,getElem?_map,gDe,gEe (by rw[ha.rlen];exact d)];rfl
  rw[e1,<-(ha.runs k d).1,<-(ha.len _ (mem_cons_of_mem _ (T k d))).1]
 have KO:Ϣ (∀k,k<b.runs.length->∀c j,ϣ a c->WI c a.heap.size B j->j.length<=8500000000000->CT 122 #[ω B,vS (x.rs.getD k ϰ).1.1 (b.runs.getD k ϰ).length (x.rs.getD k ϰ).1.2.2] c (IW a.heap.size B c (j++A5 (b.runs.getD k ϰ)))):=λk d c j m y R=>by
  have ao:=Es (S k d);have h4:=f.run.2;exact PC a B j _ _ (x.rs.getD k ϰ).2 _ c m y (ha.ems _ (mem_cons_of_mem _ (T k d))) (ha.runs k d) (f.run.1 _ (S k d)) Ϥ R
 have J:Ϣ (bs++A5 b.mem++As b.runs.length++(b.runs.take b.runs.length).flatMap A5=bs++Bo b):=by
  show _=_;unfold Bo Db;rw[take_length];simp only[append_assoc]
 have U:=ha.rlen;have am:=f.runs;rw[U];have aa:=hV0 U;obtain⟨n,I⟩:=nM b.runs.length;have HN:=hV0 I;rw[I]at Y Z KO aa am⊢;rw[I]at J;have L:Ϣ (bs.length<=4000000000000/\(A5 b.mem).length<=40000008):=⟨hl,ae⟩;have t:=hV0 hb;have aj:=hV0 h;clear ha f I h hb T S U hl ae af;obtain⟨M,hM⟩:=nM (A5 b.mem);rw[hM]at KM L J;clear hM;go_enter func66,ntmps66;go_wp2_with fail;generalize D:(World.alloc w _)=V;have z:ϣ w V:=by rw[<-D];exact ϯ
 have q:Ϣ (CW V w.heap.size 36 2 (vS x.ra n x.rc)):=⟨by subst D;exact⟨_,_,World.alloc_heap_new _ _⟩,by subst D;go_simp⟩;clear D;refine(KM.o V (t.o.trans (z.mono t.o.size)) (aj.o.below z)).mono ?_;rintro e c ⟨rfl,ah,m,P⟩;replace q:Ϣ (CW c w.heap.size 36 2 (vS x.ra n x.rc)):=CI.keep q.o P ϥ ϥ;have A:Ϣ (Below a.heap.size w c/\B6 w c):=⟨(z.mono t.o.size).trans m,(B6.of z).trans P⟩;have C:=q.o.2;clear z m P;go_wp2_with fail;refine(KN.o c _ _ ah (Nat.le_trans t.o.size A.o.2.1.size) (by have:=L.o;simp only[lAp];omega)).mono ?_;rintro e s ⟨rfl,ai,ab,o⟩;replace q:Ϣ (CW s w.heap.size 36 2 (vS x.ra n x.rc)):=CI.keep q.o o ϥ ϥ;have O:Ϣ (WI s a.heap.size B (bs++M++As n)/\Below a.heap.size w s/\B6 w s):=⟨ai,A.o.1.trans ab,A.o.2.trans o⟩;clear C ah ai ab o A;go_wp2_with fail
 go_loopw [4] (λi wr=> ∃k:Nat,k<=n/\i=vI k/\WI wr a.heap.size B (bs++M++As n++(b.runs.take k).flatMap A5)/\Below a.heap.size w wr/\B6 w wr/\B6 s wr) (λi _=>n - (intOf i).toNat)
 case atStart=>exact⟨0,Nat.zero_le _,rfl,by simpa using O.o.1,O.o.2.1,O.o.2.2,B6.refl _⟩
 case round=>
  obtain⟨k,d,rfl,W,F,Q,o⟩:=hrel;have C:=(CI.keep q.o o ϥ ϥ).2;have lc:=bLt _ _ C;by_cases H:k<n
  ·obtain⟨g,ap,ee,u⟩:=HA.o k (by rw[lMp,aa.o];exact H);rw[ee]at C;rw[Z.o k H]at u;unfold hdV at u;have ac:=t.o.trans F;replace u:=cLz ac u;have K:=KO.o k H;have HS:Ϣ (bs++M++As n++(b.runs.take (k+1)).flatMap A5=bs++M++As n++(b.runs.take k).flatMap A5++A5 (b.runs.getD k ϰ)):=by
    show _=_;rw[Y.o k H,<-append_assoc]
   have hP:(bs++M++As n++(b.runs.take k).flatMap A5).length<=8400000000000:=by have:=HT.o k;have:=L.o;simp only[lAp,Am];omega
   obtain⟨E,hE⟩:=nM (A5 (b.runs.getD k ϰ));rw[hE]at K HS;obtain⟨rl,ag⟩:=nM ((b.runs.getD k ϰ).length);obtain⟨X,hX⟩:=nM (x.rs.getD k ϰ);rw[ag,hX]at K u;have KH:=hy K;have i1:=nn0 k;have i2:(k:Int)<(n:Int):=Ϥ;have N:Ϣ (Below a.heap.size w wr/\B6 w wr/\B6 s wr):=⟨F,Q,o⟩;clear hE ag hX K ee F Q o;go_wp2_with fail;refine(KH.o wr _ ac W Ϥ).mono ?_;rintro e w3 ⟨rfl,an,ak,ad⟩;go_wp2;go_roundw;exact⟨k+1,Ϥ,by go_num,by rw[HS.o];exact an,N.o.1.trans ak,N.o.2.1.trans ad,N.o.2.2.trans ad⟩;simp[intOf];omega
  ·have al:k=n:=Ϥ;subst al;have i2:¬((k:Int)<(k:Int)):=Ϥ;rw[J.o]at W;go_wp2
   go_end0
   exact⟨rfl,W,F,Q⟩
end cd
namespace cd
open vl bf jn
theorem U5(w:Ϡ)(h:J6 w)(c:∃T a,Δ w 1 0 (.iface T a)):χ 9 #[] w (ψ w (.bool true)):=XH w h
end cd
namespace cd
open vl bf bt jn
variable {p : pl.Pln} {e : Egg}
theorem U6(h:Cs p e=0):GY p e.gs=0:=by
 unfold Cs at h;by_cases a:Ba p e.j=0
 ·rw[if_neg (by simp[a])]at h;by_cases c:GY p e.gs=0
  ·exact c
  ·rw[if_pos c]at h;exact absurd h c
 ·rw[if_pos a]at h;exact absurd h a
theorem Aac{a:List gr.Grp}(h:GY p a=0):a.length<=4096/\∀g∈a,g.bags.length<=4:=by
 unfold GY at h;split at h
 ·rename_i l;unfold gr.CS at h;split at h
  ·rename_i k;exact absurd h k
  rename_i m;split at h
  ·cases h
  split at h
  ·cases h
  rename_i n;split at h
  ·cases h
  rename_i j;refine⟨Ϥ,λg c=>?_⟩;have d:pl.allB a.length (gr.FQ p a)=true:=by simpa using j
  rw[pl.AF]at d;obtain⟨i,f,rfl⟩:=getElem_of_mem c;have k:=d i f;have e:a.getD i ϰ=a[i]:=by rw[gDe,gEe f];rfl
  unfold gr.FQ gr.J0 at k;rw[e]at k;simp only[Bool.and_eq_true,decide_eq_true_eq]at k;have:=k.2.1;have:=(bt.Jt (Decidable.not_not.1 m) l).2.2;omega
 ·split at h
  ·cases h
  ·rename_i k;have:a=[]:=length_eq_zero_iff.1 Ϥ;subst this;exact⟨Ϧ,λg c=>by cases c⟩
theorem Q6{α:Type}{f:α->List UInt8}{b:Nat}:∀{l:List α},(∀x∈l,(f x).length<=b)->(l.flatMap f).length<=b * l.length
 |[],_=>by simp
 |x::l,h=>by
  have a:=h x (mem_cons_self ..);have c:=Q6 (l:=l) (λy hy=>h y (mem_cons_of_mem _ hy));rw[flatMap_cons,lAp,length_cons,Nat.mul_succ];omega
theorem Aad{α:Type}{f:α->List UInt8}{b n:Nat}{l:List α}(h:∀x∈l,(f x).length<=b)(a:l.length<=n):(lst f l).length<=8+b * n:=by
 have c:=Q6 h;have d:=Nat.mul_le_mul_left b a;unfold lst;rw[lAp,Am];omega
theorem Q7(h:Cs p e=0)(n:wfEg e)(i:∀g∈e.gs,∀l∈g.bags,l.length<=1048576):(lst AV e.gs).length<=3000000000000:=by
 have d:=Aac (U6 h);have k:=(AcJ (MC h) n).2.1;have one:∀g∈e.gs,(AV g).length<=8000000000/12:=λg a=>by
  obtain⟨r,D,s⟩:=k.2 g a;have x:=IG r;have y:(lst B7 g.bags).length<=8+154140700 * 4:=Aad (λl f=>by
   have z:=i g a l f;have o:∀t∈l,(BK t).length<=147:=λt m=>by
    have u:=((s.2 l f).2 t m).1;have q:=D6 [t.1] (λc j=>(u.2 c j).1);unfold BK Bz;rw[lAp,GH,Am];simp only[length_singleton]at q;omega
   have A:(B7 l).length=8+(l.flatMap BK).length:=by unfold B7 lst;rw[lAp,Am]
   have C:=Q6 o;omega) (d.2 g a)
  unfold AV;simp only[lAp,Am];omega
 have:=Aad one d.1;omega
end cd
end Go.Proofs.YtfkihidbnfkbaaaGreatDoor
