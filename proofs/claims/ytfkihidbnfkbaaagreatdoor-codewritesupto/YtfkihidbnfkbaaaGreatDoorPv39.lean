import Derived.Test.YtfkihidbnfkbaaaGreatDoorPv37
import Derived.Test.YtfkihidbnfkbaaaGreatDoorPv38
set_option linter.all false
set_option maxHeartbeats 8000000
set_option maxRecDepth 100000
open Go.ChangeShapes Go.WideShapes Go.ChangeAt Go.RowKit Go.Joins Go.Deep List
open Inhabited renaming default->ϰ
namespace Go.Proofs.YtfkihidbnfkbaaaGreatDoor
open Go.Proofs.Tryz
namespace cd
open vl bf
def BA(c:ch.Cnt):List UInt8:=Bz c.r++As c.n
def C9(v:List ch.Cnt):List UInt8:=As v.length++v.flatMap BA
structure okC(c:ch.Cnt):Prop where
 row:Bq c.r
 len:c.r.length<=8
 err:Au c.r=0
theorem LV{c:ch.Cnt}(h:okC c):(BA c).length<=2000:=by
 have:=FV h.len h.err;unfold BA;rw[lAp,Am];omega
theorem Tz{l:List ch.Cnt}(h:∀x∈l,okC x):(l.flatMap BA).length<=2000 * l.length:=by
 induction l with
 |nil=>simp
 |cons x l ih=>
  have a:=LV (h x (mem_cons_self ..));have b:=ih (λy hy=>h y (mem_cons_of_mem _ hy));rw[flatMap_cons,lAp,length_cons];omega
theorem AdQ(base C B:Nat)(f:List UInt8)(a:ϡ)(cap:Nat)(c:ch.Cnt)(w:Ϡ)(m:base<=w.heap.size)(h:WR w base B f)(l:WP w C B)(ha:vl.rowAt w a c.r)(g:okC c)(L:f.length<=9000000000000):
 χ 58 #[.agg #[vS a c.r.length cap,vI c.n],ω C] w (WO base B w (f++BA c)):=by
 have q:=hIz (λ(b:Ϡ) (d:ϣ w b)=>Hx base B f a cap c.r b (Nat.le_trans m d.size) (h.below d) Ϥ (vl.Ac ha d) g.row g.len g.err);have t:Ϣ (∀b,WR b base B (f++Bz c.r)->base<=b.heap.size->CT 60 #[ω B,vI c.n] b (WO base B b (f++BA c))):=λb E d=>by
  have:=Cg base B _ c.n b d E (by have:=FV g.len g.err;rw[lAp];omega);unfold BA;rw[<-append_assoc];exact this
 have K:=AH l.1;have z:=l.2;obtain⟨n,s⟩:=nM c.r.length;rw[s]at q⊢;clear ha g h s;go_enter func58,ntmps58;go_wp2_with fail;generalize k:(World.alloc w _)=V;have i:ϣ w V:=by rw[<-k];exact ϯ
 have p:Ah V w 83:=by subst k;exact⟨_,_,World.alloc_heap_new _ _⟩
 have j:Ϣ (CW V w.heap.size 83 0 (vS a n cap)/\CW V w.heap.size 83 1 (vI c.n)/\WP V C B):=by
  refine⟨⟨p,?_⟩,⟨p,?_⟩,l.below i⟩<;>(subst k;go_simp)
 clear k p l z;have u:=j.o.1.2;have I:=j.o.2.2.2;refine(q.o V i).mono ?_;rintro e b ⟨rfl,F,d,o⟩;replace I:=(j.o.2.2.keep o).2;have J:=(j.o.2.1.keep o ϥ ϥ).2;clear u;have D:base<=b.heap.size:=Nat.le_trans (Nat.le_trans m i.size) d.size;go_wp2_with fail;refine(t.o b F D).mono ?_;rintro e M ⟨rfl,G,y,A⟩;go_wp2
 go_end0
 exact⟨rfl,G,(i.mono m).trans (d.trans y),(keepW.of i).trans (o.trans A)⟩
theorem Ab0(d:Ϡ)(C B:Nat)(g:List UInt8)(a:ϡ)(cap:Nat)(l:List ch.Cnt)(w:Ϡ)(M:ϣ d w)(h:WR w d.heap.size B g)(hc:WP w C B)(ha:ch.viewAt d a l)(P:∀x∈l,okC x)(hn:l.length<=10000)(hl:g.length<=6000000000000):
 χ 57 #[ω B,vS a l.length cap,.func (.func 58) #[] #[ω C]] w (WO d.heap.size B w (g++C9 l)):=by
 have V:=hIz (λn=>Cg d.heap.size B g n w M.size h Ϥ);have Q:=hV0 ha;have I:Ϣ (∀i,i<l.length->okC (l.getD i ϰ)):=λi hi=>P _ (by rw[gDe,gEe hi];exact getElem_mem hi);have HT:Ϣ (∀k,((l.take k).flatMap BA).length<=20000000):=λk=>by
  have:=Tz (l:=l.take k) (λx hx=>P x (mem_of_mem_take hx));have h2:(l.take k).length<=l.length:=List.length_take_le' ..;omega
 have G:Ϣ (∀k,k<l.length->(l.take (k+1)).flatMap BA=(l.take k).flatMap BA++BA (l.getD k ϰ)):=λk z=>Cz BA l k z;have R:Ϣ (g++As l.length++(l.take l.length).flatMap BA=g++C9 l):=by
  show _=_;unfold C9;rw[take_length,append_assoc]
 have J:Ϣ (∀k,k<l.length->∀c j f o,d.heap.size<=c.heap.size->WR c d.heap.size B j->WP c C B->vl.rowAt c f (l.getD k ϰ).r->j.length<=9000000000000->CT 58 #[.agg #[vS f (l.getD k ϰ).r.length o,vI (l.getD k ϰ).n],ω C] c (WO d.heap.size B c (j++BA (l.getD k ϰ)))):=λk z c j f o y h1 ae hr ah=>AdQ d.heap.size C B j f o _ c y h1 ae hr (I.o k z) ah;obtain⟨n,A⟩:=nM l.length;have HN:=hV0 A;rw[A]at I G J hn⊢;rw[A]at R;have HC:=hV0 hc;have F:=hV0 M;clear ha P A h hc M I;go_enter func57,ntmps57;go_wp2_with fail;refine(V.o _).mono ?_;rintro e c ⟨rfl,ac,y,aa⟩;have U:Ϣ (WR c d.heap.size B (g++As n)/\Below d.heap.size w c/\keepW w c):=⟨ac,y,aa⟩;clear ac y aa V;go_wp2_with fail
 go_loopw [14] (λi wr=> ∃k:Nat,k<=n/\i=vI k/\WR wr d.heap.size B (g++As n++(l.take k).flatMap BA)/\Below d.heap.size w wr/\keepW w wr) (λi _=>n - (intOf i).toNat)
 case atStart=>exact⟨0,Nat.zero_le _,rfl,by simpa using U.o.1,U.o.2⟩
 case round=>
  obtain⟨k,z,rfl,D,q,N⟩:=hrel;by_cases O:k<n
  ·obtain⟨b,al,f,o,e,t,ab,L⟩:=Q.o k (by rw[HN.o];exact O);subst e;have u:=F.o.trans q;replace t:=cLz u t;replace L:=cLz u L;have S:Ϣ (∀W,ϣ wr W->vl.rowAt W f (l.getD k ϰ).r):=λW hW=>vl.Ac (vl.Ac ab u) hW;have aj:=HT.o k;have K:=J.o k O;have T:Ϣ ((l.take (k+1)).flatMap BA=(l.take k).flatMap BA++BA (l.getD k ϰ)):=G.o k O;obtain⟨E,Y⟩:=nM (BA (l.getD k ϰ));rw[Y]at K T;obtain⟨X,Z⟩:=nM (l.getD k ϰ);rw[Z]at K t L S;obtain⟨m,hm⟩:=nM X.r.length;rw[hm]at K t;have KH:Ϣ (∀c j f o,d.heap.size<=c.heap.size->WR c d.heap.size B j->WP c C B->vl.rowAt c f X.r->j.length<=9000000000000->CT 58 #[.agg #[vS f m o,vI X.n],ω C] c (WO d.heap.size B c (j++E))):=K;have s:Ϣ (WR wr d.heap.size B (g++As n++(l.take k).flatMap BA)/\Below d.heap.size w wr/\keepW w wr):=⟨D,q,N⟩;have ak:=q.size;have i1:=nn0 k;have i2:(k:Int)<(n:Int):=Ϥ;clear K Y Z hm D q N u J Q G ab;go_wp2_with fail;have p:ϣ wr (ϊ wr #[vS f m o,vI X.n] 83):=ϯ;refine(KH.o _ _ _ _ (by have:=F.o.size;have:=p.size;omega) (s.o.1.below p) ((HC.o.keep s.o.2.2).below p) (S.o _ p) (by simp only[lAp,Am];omega)).mono ?_;rintro e w2 ⟨rfl,ai,ad,af⟩;go_wp2;go_roundw;exact⟨k+1,Ϥ,by go_num,by rw[T.o,<-append_assoc];exact ai,s.o.2.1.trans ((p.mono (by have:=F.o.size;omega)).trans ad),s.o.2.2.trans ((keepW.of p).trans af)⟩;simp[intOf];omega
  ·have ag:k=n:=Ϥ;subst ag;have i2:¬((k:Int)<(k:Int)):=Ϥ;rw[R.o]at D;go_wp2
   go_end0
   exact⟨rfl,D,q,N⟩
end cd
namespace cd
open vl bf bt
def okCt(c:ch.Cnt):Prop:=rowOk c.r/\okN c.n
end cd
namespace cd
open vl bf bt
attribute [local go_sem] run_store_func
def Afr(lim:Int)(b:Buf):Prop:=b.lim=lim/\okL AcO b.mem/\okL (okL AcO) b.runs
end cd
namespace cd
open vl bf bt jn
def okJn(lim:Int)(s:Jn):Prop:=Afr lim s.L/\Afr lim s.R/\okN s.lm/\okN s.rm/\okN s.seq
end cd
namespace cd
open vl bf
variable {w : Ϡ} {base : Nat} {v : Value} {out : List ch.Cnt}
structure okRC(c:ch.Cnt):Prop where
 row:rowOk c.r
 n: -9223372036854775808<=c.n/\c.n<=9223372036854775807
theorem Ab1(R C:Nat)(x:ch.Cnt)(b:List UInt8)(w:Ϡ)(h:RR w R (BA x++b))(t:RP w C R)(D:okRC x)(U:b.length<=60000000):
 χ 80 #[ω C] w λe w'=>(∃a c,e= .returned (.agg #[vS a x.r.length c,vI x.n])/\AM w' w (vS a x.r.length c) x.r)/\RR w' R b/\An R w w':=by
 have E:Ϣ (∀d,RR d R (Bz x.r++(As x.n++b))->CT 81 #[ω R] d λe w'=>(∃a c,e= .returned (vS a x.r.length c)/\AM w' d (vS a x.r.length c) x.r)/\RR w' R (As x.n++b)/\An R d w'):=λd z=>Sv R x.r _ d z D.row (by rw[lAp,Am];omega);have I:=hIz (λ(d:Ϡ) (z:RR d R (As x.n++b))=>Cv R x.n b d z D.n Ϥ);have y:Ϣ (RR w R (Bz x.r++(As x.n++b))/\RP w C R):=⟨by unfold BA at h;rw[append_assoc]at h;exact h,t⟩;have J:=h.lt;have S:=t.lt;obtain⟨n,F⟩:=nM x.r.length;rw[F]at E⊢;clear h D F;have B:=t.cell;clear t;go_enter func80,ntmps80;go_wp2_with fail;generalize A:(World.alloc w _)=V;have s:ϣ w V:=by rw[<-A];exact ϯ
 have f:Ϣ (SB V w.heap.size [ώ,Ϗ]):=by
  subst A;exact SB.new w [ώ,Ϗ] 83
 have i:Ϣ (An R w V/\RR V R (Bz x.r++(As x.n++b))/\RP V C R):=⟨An.of s,y.o.1.below s,y.o.2.keep (An.of s)⟩;have T:w.heap.size<V.heap.size:=f.o.lt;clear A s y B;refine(E.o V i.o.2.1).mono ?_;rintro o d ⟨⟨a,c,rfl,G⟩,p,j⟩;replace f:Ϣ (SB d w.heap.size [ώ,Ϗ]):=f.o.keep j Ϥ;replace i:Ϣ (An R w d/\RR d R (As x.n++b)/\RP d C R):=⟨i.o.1.trans j,p,i.o.2.2.keep j⟩;have W:=j.1.size;have B:=i.o.2.2.cell;clear p j;have l:=hV0 G;clear G;go_wp2_with fail;refine(I.o d i.o.2.1).mono ?_;rintro o k ⟨rfl,p,j⟩;replace f:Ϣ (SB k w.heap.size [ώ,Ϗ]):=f.o.keep j Ϥ;replace l:Ϣ (AM k V (vS a n c) x.r):=A1 l.o (λg m=>j.2 g (AL l.o m).2 (by have:=(AL l.o m).1;have:=J;omega));replace i:Ϣ (An R w k/\RR k R b):=⟨i.o.1.trans j,p⟩;clear p j B;have N:=f.o.cell 0 _ rfl;have O:=f.o.cell 1 _ rfl;have P:=f.o.frz 0;have Q:=f.o.frz 1;have q:Ϣ (RR (ό (ό k w 0 (vS a n c)) w 1 (vI x.n)) R b/\An R w (ό (ό k w 0 (vS a n c)) w 1 (vI x.n))/\AM (ό (ό k w 0 (vS a n c)) w 1 (vI x.n)) w.heap.size (vS a n c) x.r):=
  ⟨(i.o.2.set Ϥ).set Ϥ,Cb (Cb i.o.1 nR) nR,World.ownsRow.mono (A1 l.o (λg m=>(heap_setCell_other _ _ _ _ (by dsimp only;have:=(AL l.o m).1;omega)).trans (heap_setCell_other _ _ _ _ (by dsimp only;have:=(AL l.o m).1;omega)))) Ϥ⟩
 have u:Ϣ (SB (ό (ό k w 0 (vS a n c)) w 1 (vI x.n)) w.heap.size [vS a n c,vI x.n]):=(f.o.set 0 _ Ϧ).set 1 _ Ϧ;go_wp2;generalize (World.setCell (World.setCell k _ _) _ _)=M at q u⊢;have K:=u.o.cell 0 _ rfl;have L:=u.o.cell 1 _ rfl;exact bodyPost_ret (v:=.agg #[vS a n c,vI x.n]) (by simp[results,results80,go_sem,K,L]) rfl ⟨⟨a,c,rfl,q.o.2.2⟩,q.o.1,q.o.2.1⟩
def VL(w:World)(base:Nat)(v:Value)(l:List (Value×Int))(out:List ch.Cnt):Prop:=l.length=out.length/\w.ownsRow base 83 2 v l.length (ch.flat l)/\∀i,i<out.length->
 (l.getD i (.bool false,0)).2=(out.getD i ϰ).n/\∃ad cap,(l.getD i (.bool false,0)).1=vS ad (out.getD i ϰ).r.length cap/\AM w base (vS ad (out.getD i ϰ).r.length cap) (out.getD i ϰ).r
theorem AdR{w2:Ϡ}{v':Value}{l:List (Value×Int)}{ad:ϡ}{cap:Nat}{x:ch.Cnt}{o:Obj}(h:VL w base v l out)(A:AM w base (vS ad x.r.length cap) x.r)(y:(w.alloc o).grownBy w2 v.ownBlock)
 (z:w2.ownsRow base 83 2 v' (l.length+1) (ch.flat (l++[(vS ad x.r.length cap,x.n)]))):VL w2 base v' (l++[(vS ad x.r.length cap,x.n)]) (out++[x]):=by
 obtain⟨b,s,t⟩:=h;have m:∀{u:Value} {r:List Cel},AM w base u r->AM w2 base u r:=λ{u r} k=>A1 k (λg f=>CL (bR.alloc nR o) y (AL k f).2 (λe=>tyAt_apart (A9 k f) (A9 s e) ϥ rfl));refine⟨by rw[lAp,lAp,b];rfl,by rw[lAp];exact z,λi j=>?_⟩;rw[lAp]at j;by_cases d:i<out.length
 ·rw[AQ (by rw[b];exact d),AQ d];obtain⟨n,a,c,p,q⟩:=t i d;exact⟨n,a,c,p,m q⟩
 ·have:i=out.length:=by simp at j;omega
  subst this;rw[AW (by rw[b];exact Nat.le_refl _),AW nR,b,Nat.sub_self];exact⟨rfl,ad,cap,rfl,m A⟩
theorem VL.keptR{w':Ϡ}{R:Nat}{l:List (Value×Int)}(h:VL w base v l out)(k:An R w w')(j:Ah w R 124):VL w' base v l out:=by
 obtain⟨o,f,p⟩:=h;exact⟨o,A1 f (λg b=>k.2 g (AL f b).2 (tyAt_apart (A9 f b) j ϥ)),λi q=>by
  obtain⟨m,a,c,n,d⟩:=p i q;exact⟨m,a,c,n,A1 d (λg b=>k.2 g (AL d b).2 (tyAt_apart (A9 d b) j ϥ))⟩⟩
theorem Qf{l:List ch.Cnt}(h:∀x∈l,okRC x):(l.flatMap BA).length<=2000 * l.length:=by
 induction l with
 |nil=>simp
 |cons x l ih=>
  have a:=(h x (mem_cons_self ..)).row;have f:=D6 x.r (λc d=>(a.2 c d).1);have g:=a.1;have b:=ih (λy hy=>h y (mem_cons_of_mem _ hy));rw[flatMap_cons,lAp,length_cons];unfold BA Bz at b⊢;rw[lAp,Am,GH];omega
theorem YG(R C:Nat)(l:List ch.Cnt)(b:List UInt8)(w:Ϡ)(h:RR w R (C9 l++b))(hp:RP w C R)(F:∀x∈l,okRC x)(hn:l.length<=10000)(hm:b.length<=10000000):
 χ 79 #[ω R,.func (.func 80) #[] #[ω C]] w λe w'=>(∃a c,e= .returned (vS a l.length c)/\ch.VO w' w.heap.size (vS a l.length c) l)/\RR w' R b/\An R w w':=by
 have ai:=Qf F;have M:Ϣ (CT 82 #[ω R] w λe w'=>e= .returned (vI l.length)/\RR w' R (l.flatMap BA++b)/\An R w w'):=Cv R l.length _ w (by unfold C9 at h;rw[append_assoc]at h;exact h) Ϥ (by rw[lAp];omega);have KM:=hIz (λso (d:Ϡ) (h:so=true)=>Ge R so d h);have N:Ϣ (∀k,k<l.length->∀d,RR d R ((l.drop k).flatMap BA++b)->RP d C R->CT 80 #[ω C] d λe w'=>(∃a c,e= .returned (.agg #[vS a (l.getD k ϰ).r.length c,vI (l.getD k ϰ).n])/\AM w' d (vS a (l.getD k ϰ).r.length c) (l.getD k ϰ).r)/\RR w' R ((l.drop (k+1)).flatMap BA++b)/\An R d w'):=λk j d W am=>by
  rw[L8 BA l k j]at W;have h2:=Qf (l:=l.drop (k+1)) (λx G=>F x (List.mem_of_mem_drop G));rw[length_drop]at h2;exact Ab1 R C _ _ d W am (F _ (AN j)) (by rw[lAp];omega)
 have L:Ϣ (∀k,k<l.length->l.take (k+1)=l.take k++[l.getD k ϰ]):=λk j=>by
  rw[take_succ_eq_append_getElem j];simp[gDe,j]
 have ah:=hV0 hp;obtain⟨y,D,ac,ae,af⟩:=info_parts ch.Ms;have z:Ϣ (Tryz.prog.info? 83=some y/\y.zero=some (.agg #[ώ,Ϗ])/\y.size=2/\y.bytes=32):=⟨D,ac,ae,af⟩;obtain⟨n,S⟩:=nM l.length;have J:=hV0 S;rw[S]at M N L hn⊢;clear h hp F ai S D ac ae af;go_enter func79,ntmps79;go_wp2_with fail;refine M.o.mono ?_;rintro e d ⟨rfl,aa,X⟩;have V:Ϣ (RR d R (l.flatMap BA++b)/\An R w d):=⟨aa,X⟩;have ap:=nn0 n;clear aa X M;go_wp2_with (go_at_call 139;refine(KM.o _ _ Ϧ).mono ?_;rintro e w2 ⟨rfl,rfl⟩)
 go_loopw [6,14] (λv i wr=> ∃(k:Nat) (f:List (Value×Int)),k<=n/\i=vI k/\VL wr w.heap.size v f (l.take k)/\RR wr R ((l.drop k).flatMap BA++b)/\An R w wr) (λ_ i _=>n - (intOf i).toNat)
 case atStart=>exact⟨0,[],Nat.zero_le _,rfl,⟨rfl,World.ownsRow_nil _ _ _ _,λi D=>absurd D (Nat.not_lt_zero i)⟩,by rw[List.drop_zero];exact V.o.1,V.o.2⟩
 case round=>
  obtain⟨k,f,aq,rfl,o,q,t⟩:=hrel;have P:f.length=k:=by rw[o.1,length_take,J.o];omega
  by_cases Y:k<n
  ·have K:=N.o k Y wr q (ah.o.keep t);have U:Ϣ (l.take (k+1)=l.take k++[l.getD k ϰ]):=L.o k Y;obtain⟨x,G⟩:=nM (l.getD k ϰ);rw[G]at K U;obtain⟨m,Q⟩:=nM x.r.length;have T:=hV0 Q;rw[Q]at K;have s:Ϣ (VL wr w.heap.size u6 f (l.take k)/\Ah wr R 124):=⟨o,q.tb⟩;have I:=hV0 t;have i1:=nn0 k;have i2:(k:Int)<(n:Int):=Ϥ;have KH:Ϣ (CT 80 #[ω C] wr λe w'=>(∃a c,e= .returned (.agg #[vS a m c,vI x.n])/\AM w' wr (vS a m c) x.r)/\RR w' R ((l.drop (k+1)).flatMap BA++b)/\An R wr w'):=K;clear G Q o q t K N L;go_wp2_with fail;refine KH.o.mono ?_;rintro e p ⟨⟨a,c,rfl,Z⟩,ab,E⟩;have A:Ϣ (VL p w.heap.size u6 f (l.take k)):=s.o.1.keptR E s.o.2;have B:Ϣ (AM p w (vS a m c) x.r/\RR p R ((l.drop (k+1)).flatMap BA++b)/\An R w p):=⟨World.ownsRow.mono Z I.o.1.size,ab,I.o.trans E⟩;have ao:w.heap.size<=p.heap.size:=Nat.le_trans I.o.1.size E.1.size;have ag:Ϣ (p.ownsRow w 83 2 u6 k (ch.flat f)):=by
    have:=A.o.2.1;rw[P]at this;exact this
   clear Z ab E;go_wp2_with (at_builtin;refine wpList_append_own _ rfl (.tmp 16) (.tmp 19) 40 rfl w.heap.size 83 y (.agg #[ώ,Ϗ]) 2 32 underlying40 z.o.1 z.o.2.1 z.o.2.2.1 z.o.2.2.2 rfl ϥ _ _ _ rfl (World.ownsRow.alloc ag.o _) ⟨p,0,none⟩ 1 1 [vS a m c,vI x.n] rfl rfl (cell_two_new _ _ _ _) (by intro u hu;simp at hu;rcases hu with rfl|rfl<;>rfl) Ϯ Ϥ ϩ ?_;intro v4 w4 al O _);have hs:=AdR (v':=v4) (ad:=a) (cap:=c) (x:=x) A.o (by rw[T.o];exact B.o.1) O (by rw[P,ch.Jd,T.o];exact al);have ak:u6.ownBlock≠some R:=λe=>tyAt_apart B.o.2.1.tb (A9 A.o.2.1 e) ϥ rfl;have an:=B.o.2.1.grown O ak;have aj:=I0 B.o.2.2 O (λg e=>(AL A.o.2.1 e).1);go_wp2;go_roundw;exact⟨k+1,f++[(vS a x.r.length c,x.n)],Ϥ,by go_num,by rw[U.o];exact hs,an,aj⟩;simp[intOf];omega
  ·have j:k=n:=Ϥ;subst j;have i2:¬((k:Int)<(k:Int)):=Ϥ;rw[take_of_length_le (by rw[J.o];exact Nat.le_refl _)]at o;rw[drop_of_length_le (by rw[J.o];exact Nat.le_refl _)]at q;obtain⟨a,c,hv⟩:=Lg o.2.1;rw[P]at hv;have s:Ϣ (ch.VO wr w.heap.size u6 l/\RR wr R b/\An R w wr):=⟨⟨f,o⟩,q,t⟩;clear o q t;subst hv;go_wp2;go_ret;exact⟨⟨a,c,rfl,s.o.1⟩,s.o.2⟩
theorem Vl(R:Nat)(f:Value)(b:List UInt8)(w:Ϡ)(h:RR w R (As 0++b))(n:b.length<=10000000):
 χ 76 #[ω R,f] w λe w'=>e= .returned (vS none 0 0)/\RR w' R b/\An R w w':=by
 have g:Ϣ (CT 82 #[ω R] w λe w'=>e= .returned (vI 0)/\RR w' R b/\An R w w'):=Cv R 0 b w h ϥ Ϥ;have d:=hIz (λa (c:Ϡ) (h:a=true)=>Ge R a c h);clear h;go_enter func76,ntmps76;go_wp2_with fail;refine g.o.mono ?_;rintro e c ⟨rfl,m,l⟩;go_wp2_with (go_at_call 139;refine(d.o _ _ Ϧ).mono ?_;rintro e o ⟨rfl,rfl⟩)
 go_loopw [6,14] (λv i wr=>v=vS none 0 0/\i=vI 0/\RR wr R b/\An R w wr) (λ_ i _=>0)
 case atStart=>exact⟨rfl,rfl,m,l⟩
 case round=>
  obtain⟨rfl,rfl,j,k⟩:=hrel;go_wp2;go_ret;exact⟨rfl,j,k⟩
end cd
namespace cd
open vl bf jn
def It(e:Eng):List UInt8:=F6 e.j++As 0++C9 e.v
theorem YH(base B:Nat)(a:List UInt8)(w:Ϡ)(h:WR w base B a):
 χ 29 #[ω B] w λo w'=>o= .returned (.string ⟨a.toArray⟩)/\w'=w:=by
 obtain⟨v,c,b⟩:=h.cell;have d:=He b;clear h;go_enter func29,ntmps29;go_wp2;go_ret;exact⟨rfl,rfl⟩
theorem Vm(w:Ϡ):WR (ϊ w #[ώ] 64) w.heap.size w.heap.size []:=
 ⟨⟨vS none 0 0,Ϩ,World.ownsRow_nil _ _ _ _⟩,Ϩ,⟨_,_,World.alloc_heap_new _ _⟩,Nat.le_refl _⟩
theorem WR.mono{w:Ϡ}{base a B:Nat}{b:List UInt8}(h:WR w base B b)(c:a<=base):WR w a B b:=by
 obtain⟨v,d,f⟩:=h.cell;exact⟨⟨v,d,World.ownsRow.mono f c⟩,h.frz,h.tb,Nat.le_trans c h.low⟩
structure okRE(e:Eng):Prop where
 j:okRJ e.j
 v:∀c∈e.v,okRC c
 vn:e.v.length<=10000
 few:(C9 e.v).length<=1000000
theorem SB.sets{N:Nat}:∀(l:List Value) (o:Nat) (w:Ϡ) (a:List Value),SB w N a->o+l.length<=a.length->SB (w.setCells N o l) N (a.take o++l++a.drop (o+l.length))
 |[],o,w,a,h,_=>by
  show SB w N _;simpa using h
 |u::l,o,w,a,h,hl=>by
  simp only[length_cons]at hl;have b:=SB.sets l (o+1) (ό w N o u) (a.set o u) (h.set o u Ϥ) (by rw[length_set];omega);have e:(a.set o u).take (o+1)++l++(a.set o u).drop (o+1+l.length)=a.take o++(u::l)++a.drop (o+(u::l).length):=by
   rw[List.drop_set_of_lt Ϥ,take_succ_eq_append_getElem (by rw[length_set];omega),List.take_set_of_le nR,List.getElem_set_self,length_cons];simp[Nat.add_assoc,Nat.add_comm 1]
  rw[e]at b;exact b
theorem T0(R:Nat)(e:Eng)(t:List UInt8)(w:Ϡ)(h:RR w R (It e++t))(K:okRE e)(hm:t.length<=900000):
 χ 35 #[ω R,vI e.j.L.lim] w λo w'=>(∃x:EX,o= .returned (enV e x)/\BO w' w.heap.size x.y.l e.j.L/\BO w' w.heap.size x.y.r e.j.R/\ch.VO w' w.heap.size (vS x.va e.v.length x.vc) e.v)/\RR w' R t/\An R w w':=by
 have ad:=K.few;have Y:It e++t=F6 e.j++(As 0++(C9 e.v++t)):=by
  unfold It;simp only[append_assoc]
 have K0:Ϣ (∀c,RR c R (F6 e.j++(As 0++(C9 e.v++t)))->CT 75 #[ω R,vI e.j.L.lim] c λo w'=>(∃z:JX,o= .returned (joinV e.j z)/\BO w' c.heap.size z.l e.j.L/\BO w' c.heap.size z.r e.j.R)/\RR w' R (As 0++(C9 e.v++t))/\An R c w'):=λc J=>YZ R e.j _ c J K.j (by simp only[lAp,Am];omega);have K1:Ϣ (∀f c,RR c R (As 0++(C9 e.v++t))->CT 76 #[ω R,f] c λo w'=>o= .returned (vS none 0 0)/\RR w' R (C9 e.v++t)/\An R c w'):=λf c J=>Vl R f _ c J (by simp only[lAp];omega);have X:=hIz (λC (c:Ϡ) (J:RR c R (C9 e.v++t)) (hp:RP c C R)=>YG R C e.v t c J hp K.v K.vn Ϥ);rw[Y]at h;have hR:=h.lt;have G:=hV0 h;obtain⟨n,S⟩:=nM e.v.length;have T:=hV0 S;rw[S]at X;clear h K ad Y S;go_enter func35,ntmps35;go_wp2_with fail;generalize O:(World.alloc (World.alloc (World.alloc w _) _) _)=V;have P:ϣ w V:=by rw[<-O];exact(ϯ.alloc Ϧ _).alloc ϫ _
 have b:Ϣ ((SB V (w.heap.size+1) [Ϗ,ώ,ώ,Ϗ,ώ,ώ,Ϗ,Ϗ,Ϗ,ώ,ώ]/\SB V (w.heap.size+1+1) [Ϗ,ώ,ώ,Ϗ,ώ,ώ,Ϗ,Ϗ,Ϗ,ώ,ώ])/\(Ah V (w+1) 42/\Ah V (w+1+1) 42)/\RP V w.heap.size R):=by
  subst O;have Z:=World.size_alloc w (.cells #[ω R] 71);have e2:=World.size_alloc (ϊ w #[ω R] 71) (.cells #[Ϗ,ώ,ώ,Ϗ,ώ,ώ,Ϗ,Ϗ,Ϗ,ώ,ώ] 42);rw[Z]at e2;have s1:=SB.new (ϊ w #[ω R] 71) [Ϗ,ώ,ώ,Ϗ,ώ,ώ,Ϗ,Ϗ,Ϗ,ώ,ώ] 42;have s2:=SB.new (ϊ (ϊ w #[ω R] 71) #[Ϗ,ώ,ώ,Ϗ,ώ,ώ,Ϗ,Ϗ,Ϗ,ώ,ώ] 42) [Ϗ,ώ,ώ,Ϗ,ώ,ώ,Ϗ,Ϗ,Ϗ,ώ,ώ] 42;have t1:=World.alloc_heap_new (ϊ w #[ω R] 71) (.cells #[Ϗ,ώ,ώ,Ϗ,ώ,ώ,Ϗ,Ϗ,Ϗ,ώ,ώ] 42);have t2:=World.alloc_heap_new (ϊ (ϊ w #[ω R] 71) #[Ϗ,ώ,ώ,Ϗ,ώ,ώ,Ϗ,Ϗ,Ϗ,ώ,ώ] 42) (.cells #[Ϗ,ώ,ώ,Ϗ,ώ,ώ,Ϗ,Ϗ,Ϗ,ώ,ώ] 42);rw[Z]at s1 t1;rw[e2]at s2 t2;exact⟨⟨s1.below ϯ,s2⟩,⟨Ak ⟨_,_,t1⟩ ϯ,⟨_,_,t2⟩⟩,⟨Ϩ,Ϥ,ϫ⟩⟩
 have i:Ϣ (An R w V/\RR V R (F6 e.j++(As 0++(C9 e.v++t)))):=⟨An.of P,G.o.below P⟩;have ag:(w.heap.size+1+1)<V.heap.size:=b.o.1.2.lt;clear O P G;have D:=b.o.2.2.cell;refine(K0.o V i.o.2).mono ?_;rintro o c ⟨⟨z,rfl,aa,ab⟩,E,d⟩;rw[AY];replace b:Ϣ ((SB c (w.heap.size+1) [Ϗ,ώ,ώ,Ϗ,ώ,ώ,Ϗ,Ϗ,Ϗ,ώ,ώ]/\SB c (w.heap.size+1+1) [Ϗ,ώ,ώ,Ϗ,ώ,ώ,Ϗ,Ϗ,Ϗ,ώ,ώ])/\(Ah c (w+1) 42/\Ah c (w+1+1) 42)/\RP c w.heap.size R):=⟨⟨b.o.1.1.keep d Ϥ,b.o.1.2.keep d Ϥ⟩,⟨Aq b.o.2.1.1 (d.2 _ b.o.1.1.lt Ϥ),Aq b.o.2.1.2 (d.2 _ b.o.1.2.lt Ϥ)⟩,b.o.2.2.keep d⟩;have l:Ϣ (BO c w.heap.size z.l e.j.L/\BO c w.heap.size z.r e.j.R):=⟨aa.mono Ϥ,ab.mono Ϥ⟩;replace i:Ϣ (An R w c/\RR c R (As 0++(C9 e.v++t))):=⟨i.o.1.trans d,E⟩;have ah:=d.1.size;clear E d aa ab D;have W:Ϣ (c.there (w.heap.size+1+1) 0 9):=λj hj=>b.o.1.2.there j ϩ;have D:=b.o.2.2.cell;go_upto_region 3 with((with_reducible refine wpList_store_mid ?_ 38 (.tmp 9) (.tmp 8) ?_ (w.heap.size+1+1) 0 (ζ e.j z.l z.r []) ?_ ?_ ?_ ?_ ?_ ?_);exact rfl;exact rfl;exact rfl;exact rfl;exact W.o;exact Lc;exact ϭ);generalize k:World.setCells c (w.heap.size+1+1) 0 (ν e.j z.l z.r [])=u;have aj:u.heap.size=c.heap.size:=by rw[<-k];exact size_setCells _ _ _ _
 have B:∀g,g≠(w.heap.size+1+1)->u.heap[g]? =c.heap[g]? :=λg Q=>by rw[<-k];exact C0 Q _ _ _
 replace l:Ϣ (BO u w.heap.size z.l e.j.L/\BO u w.heap.size z.r e.j.R):=by
  subst k;exact⟨F8 DJ _ _ _ l.o.1 b.o.2.1.2,F8 DJ _ _ _ l.o.2 b.o.2.1.2⟩
 replace i:Ϣ (An R w u/\RR u R (As 0++(C9 e.v++t))):=by
  subst k;exact⟨Fo i.o.1 Ϥ _ _,i.o.2.sets Ϥ _ _⟩
 replace b:Ϣ ((SB u (w.heap.size+1) [Ϗ,ώ,ώ,Ϗ,ώ,ώ,Ϗ,Ϗ,Ϗ,ώ,ώ]/\SB u (w.heap.size+1+1) (ν e.j z.l z.r [ώ,ώ]))/\(Ah u (w+1) 42/\Ah u (w+1+1) 42)/\RP u w.heap.size R):=by
  refine⟨⟨b.o.1.1.same (B _ Ϥ) Ϥ,?_⟩,⟨Aq b.o.2.1.1 (B _ Ϥ),?_⟩,⟨(cOb (w:=c) (a:=⟨w,0,none⟩) (B _ Ϫ)).trans b.o.2.2.cell,b.o.2.2.ne,by have:=b.o.2.2.lt;omega⟩⟩
  ·subst k;exact SB.sets _ 0 _ _ b.o.1.2 Ϧ
  ·subst k;exact F3 _ _ _ b.o.2.1.2
 clear k B D W;have D:=b.o.2.2.cell;go_wp2_with fail;refine(K1.o _ u i.o.2).mono ?_;rintro o s ⟨rfl,E,d⟩;replace b:Ϣ ((SB s (w.heap.size+1) [Ϗ,ώ,ώ,Ϗ,ώ,ώ,Ϗ,Ϗ,Ϗ,ώ,ώ]/\SB s (w.heap.size+1+1) (ν e.j z.l z.r [ώ,ώ]))/\(Ah s (w+1) 42/\Ah s (w+1+1) 42)/\RP s w.heap.size R):=⟨⟨b.o.1.1.keep d Ϥ,b.o.1.2.keep d Ϥ⟩,⟨Aq b.o.2.1.1 (d.2 _ b.o.1.1.lt Ϥ),Aq b.o.2.1.2 (d.2 _ b.o.1.2.lt Ϥ)⟩,b.o.2.2.keep d⟩;replace l:Ϣ (BO s w.heap.size z.l e.j.L/\BO s w.heap.size z.r e.j.R):=⟨l.o.1.keptR d i.o.2.tb,l.o.2.keptR d i.o.2.tb⟩;replace i:Ϣ (An R w s/\RR s R (C9 e.v++t)):=⟨i.o.1.trans d,E⟩;have ai:=d.1.size;have M:=b.o.1.2.cell 9 _ rfl;have N:=b.o.1.2.frz 9;clear E d D;have D:=b.o.2.2.cell;go_upto_region 4 with fail;generalize k:World.setCell s _ _=y;have ak:y.heap.size=s.heap.size:=by rw[<-k];simp[World.setCell]
 have B:∀g,g≠(w.heap.size+1+1)->y.heap[g]? =s.heap[g]? :=λg Q=>by rw[<-k];exact heap_setCell_other _ _ _ _ Q
 replace l:Ϣ (BO y w.heap.size z.l e.j.L/\BO y w.heap.size z.r e.j.R):=by
  subst k;exact⟨BL l.o.1 b.o.2.1.2 DJ _ _,BL l.o.2 b.o.2.1.2 DJ _ _⟩
 replace i:Ϣ (An R w y/\RR y R (C9 e.v++t)):=by
  subst k;exact⟨Cb i.o.1 Ϥ,i.o.2.set Ϥ⟩
 replace b:Ϣ ((SB y (w.heap.size+1) [Ϗ,ώ,ώ,Ϗ,ώ,ώ,Ϗ,Ϗ,Ϗ,ώ,ώ]/\SB y (w.heap.size+1+1) (ν e.j z.l z.r [ώ,ώ]))/\(Ah y (w+1) 42/\Ah y (w+1+1) 42)/\RP y w.heap.size R):=by
  refine⟨⟨b.o.1.1.same (B _ Ϥ) Ϥ,?_⟩,⟨Aq b.o.2.1.1 (B _ Ϥ),?_⟩,⟨(cOb (w:=s) (a:=⟨w,0,none⟩) (B _ Ϫ)).trans b.o.2.2.cell,b.o.2.2.ne,by have:=b.o.2.2.lt;omega⟩⟩
  ·subst k;exact b.o.1.2.set 9 _ Ϧ
  ·subst k;exact Ao b.o.2.1.2 _ _
 clear k B D M N;have D:=b.o.2.2.cell;go_wp2_with fail;refine(X.o w.heap.size y i.o.2 b.o.2.2).mono ?_;rintro o A ⟨⟨p,q,rfl,ac⟩,E,d⟩;replace b:Ϣ ((SB A (w.heap.size+1) [Ϗ,ώ,ώ,Ϗ,ώ,ώ,Ϗ,Ϗ,Ϗ,ώ,ώ]/\SB A (w.heap.size+1+1) (ν e.j z.l z.r [ώ,ώ]))/\(Ah A (w+1) 42/\Ah A (w+1+1) 42)/\RP A w.heap.size R):=⟨⟨b.o.1.1.keep d Ϥ,b.o.1.2.keep d Ϥ⟩,⟨Aq b.o.2.1.1 (d.2 _ b.o.1.1.lt Ϥ),Aq b.o.2.1.2 (d.2 _ b.o.1.2.lt Ϥ)⟩,b.o.2.2.keep d⟩;replace l:Ϣ (BO A w.heap.size z.l e.j.L/\BO A w.heap.size z.r e.j.R):=⟨l.o.1.keptR d i.o.2.tb,l.o.2.keptR d i.o.2.tb⟩;have L:Ϣ (ch.VO A w.heap.size (vS p n q) e.v):=ac.mono Ϥ;replace i:Ϣ (An R w A/\RR A R t):=⟨i.o.1.trans d,E⟩;have M:=b.o.1.2.cell 10 _ rfl;have N:=b.o.1.2.frz 10;clear E d D ac;go_upto_region 5 with fail;generalize k:World.setCell A _ _=m;replace l:Ϣ (BO m w.heap.size z.l e.j.L/\BO m w.heap.size z.r e.j.R):=by
  subst k;exact⟨BL l.o.1 b.o.2.1.2 DJ _ _,BL l.o.2 b.o.2.1.2 DJ _ _⟩
 replace L:Ϣ (ch.VO m w.heap.size (vS p n q) e.v):=by
  subst k;exact Gk [_] _ _ L.o b.o.2.1.2
 replace i:Ϣ (An R w m/\RR m R t):=by
  subst k;exact⟨Cb i.o.1 Ϥ,i.o.2.set Ϥ⟩
 have I:Ϣ ((SB m (w.heap.size+1) [Ϗ,ώ,ώ,Ϗ,ώ,ώ,Ϗ,Ϗ,Ϗ,ώ,ώ]/\SB m (w.heap.size+1+1) (ν e.j z.l z.r [ώ,vS p n q]))/\Ah m (w+1) 42):=by
  subst k;exact⟨⟨b.o.1.1.same (heap_setCell_other _ _ _ _ Ϫ) (by simp[World.setCell]),b.o.1.2.set 10 _ Ϧ⟩,Ao b.o.2.1.1 _ _⟩
 clear k M N b;obtain⟨d0,d1,d2,d3,d4,d5,d6,d7,d8,d9,af⟩:=Iq I.o.1.2;have U:Ϣ (m.there (w.heap.size+1) 0 11):=I.o.1.1.there;have F:Ϣ (RR (World.setCells m (w.heap.size+1) 0 (ν e.j z.l z.r [ώ,vS p n q])) R t/\An R w (World.setCells m (w.heap.size+1) 0 (ν e.j z.l z.r [ώ,vS p n q]))/\(BO (World.setCells m (w.heap.size+1) 0 (ν e.j z.l z.r [ώ,vS p n q])) w.heap.size z.l e.j.L/\BO (World.setCells m (w.heap.size+1) 0 (ν e.j z.l z.r [ώ,vS p n q])) w.heap.size z.r e.j.R)/\ch.VO (World.setCells m (w.heap.size+1) 0 (ν e.j z.l z.r [ώ,vS p n q])) w.heap.size (vS p n q) e.v):=
  ⟨i.o.2.sets Ϥ _ _,Fo i.o.1 Ϥ _ _,⟨F8 DJ _ _ _ l.o.1 I.o.2,F8 DJ _ _ _ l.o.2 I.o.2⟩,Gk _ _ _ L.o I.o.2⟩
 have G:Ϣ ((World.setCells m (w.heap.size+1) 0 (ν e.j z.l z.r [ώ,vS p n q])).rangeAt (w.heap.size+1) 0 (ν e.j z.l z.r [ώ,vS p n q])):=World.rangeAt_setCells_same _ _ _ _ U.o;go_wp2_with ((with_reducible refine wpList_store_mid ?_ 42 (.tmp 4) (.tmp 18) ?_ (w.heap.size+1) 0 (ζ e.j z.l z.r [ώ,vS p n q]) ?_ ?_ ?_ ?_ ?_ ?_);exact rfl;exact rfl;exact rfl;exact rfl;exact U.o;exact Ha;exact ϭ);generalize (World.setCells m (w.heap.size+1) 0 (ν e.j z.l z.r [ώ,vS p n q]))=W' at G F⊢;obtain⟨z0,z1,z2,z3,z4,z5,z6,z7,z8,z9,ae⟩:=OZ G.o;exact bodyPost_ret (v:=.agg (ζ e.j z.l z.r [ώ,vS p n q])) (by simp[results,results35,go_sem,z0,z1,z2,z3,z4,z5,z6,z7,z8,z9,ae]) rfl ⟨⟨⟨z,p,q⟩,by rw[D5,T.o],F.o.2.2.1.1,F.o.2.2.1.2,by rw[T.o];exact F.o.2.2.2⟩,F.o.1,F.o.2.1⟩
end cd
namespace cd
open vl bf bt jn
structure Egg where
 j:Jn
 gs:List gr.Grp
 v:List ch.Cnt
structure GGX where
 y:JX
 ga:Option Addr
 gc:Nat
 xs:List gr.GX
 va:Option Addr
 vc:Nat
def egC(e:Egg)(x:GGX):List Value:=(ν e.j x.y.l x.y.r [vS x.ga e.gs.length x.gc,vS x.va e.v.length x.vc])
def egV(e:Egg)(x:GGX):Value:=.agg (egC e x).toArray
def IF(e:Egg):List UInt8:=F6 e.j++lst AV e.gs++lst BA e.v
def okEg(lim:Int)(e:Egg):Prop:=okJn lim e.j/\okL AfI e.gs/\okL okCt e.v
end cd
namespace cd
open vl bf jn
variable {w : Ϡ} {base : Nat} {e : Eng} {x : EX}
structure RE(w:World)(base:Nat)(e:Eng)(x:EX):Prop where
 l:BO w base x.y.l e.j.L
 r:BO w base x.y.r e.j.R
 v:ch.VO w base (vS x.va e.v.length x.vc) e.v
theorem RE.at(h:RE w base e x):enAt w e x:=⟨⟨h.l.at,h.r.at⟩,h.v.at⟩
theorem RE.setT{N:Nat}{T:TypeId}(h:RE w base e x)(b:Ah w N T)(c:calmT T)(d:T≠83)(k:Nat)(u:Value):RE (ό w N k u) base e x:=
 ⟨BL h.l b c k u,BL h.r b c k u,h.v.other (λg a=>heap_setCell_other _ _ _ _ (by
  rcases a with a|a
  ·exact tyAt_apart a b d.symm
  ·exact tyAt_apart a b c.v.symm))⟩
theorem RE.sets{base N:Nat}{T:TypeId}{e:Eng}{x:EX}(a:calmT T)(b:T≠83):∀(l:List Value) (o:Nat) (w:Ϡ),RE w base e x->Ah w N T->RE (w.setCells N o l) base e x
 |[],_,_,h,_=>h
 |u::l,o,w,h,hN=>RE.sets a b l (o+1) _ (h.setT hN a b o u) (Ao hN _ _)
theorem RE.mono{b:Nat}(h:RE w base e x)(a:b<=base):RE w b e x:=⟨h.l.mono a,h.r.mono a,h.v.mono a⟩
theorem AdS(R k a:Nat)(e:Eng)(w:Ϡ)(h:RR w R (It e))(q:okRE e)(Q:Δ w k 5 (vI e.j.L.lim))(l:w.there a 0 11)(n:Ah w a 42)(p:a≠R):
 χ 34 #[ω R,ω k,ω a] w λo w'=>o= .returned (.tuple #[])/\(∃x:EX,Co w' a e x/\RE w' w.heap.size e x)/\RR w' R []/\Below 0 w w'/\∀g,g<w.heap.size->g≠R->g≠a->w'.heap[g]? =w.heap[g]? :=by
 have s:Ϣ (CT 35 #[ω R,vI e.j.L.lim] w λo w'=>(∃x:EX,o= .returned (enV e x)/\BO w' w.heap.size x.y.l e.j.L/\BO w' w.heap.size x.y.r e.j.R/\ch.VO w' w.heap.size (vS x.va e.v.length x.vc) e.v)/\RR w' R []/\An R w w'):=T0 R e [] w (by rw[append_nil];exact h) q Ϧ;have c:Ϣ (w.there a 0 11/\Ah w a 42):=⟨l,n⟩;clear h q l n;go_enter func34,ntmps34;go_wp2_with fail;refine s.o.mono ?_;rintro o b ⟨⟨x,rfl,z,A,C⟩,B,i⟩;have m:b.heap[a]? =w.heap[a]? :=i.2 a (AH c.o.2) p;have d:Ϣ (b.there a 0 11/\Ah b a 42):=⟨Fl c.o.1 m,Aq c.o.2 m⟩;have f:Ϣ (RE (World.setCells b a 0 (μ e x)) w.heap.size e x/\RR (World.setCells b a 0 (μ e x)) R []/\Below 0 w (World.setCells b a 0 (μ e x))/\∀g,g<w.heap.size->g≠R->g≠a->(World.setCells b a 0 (μ e x)).heap[g]? =w.heap[g]?):=
  ⟨RE.sets DJ ϥ _ _ _ ⟨z,A,C⟩ d.o.2,B.sets p _ _,below_setCells (Nat.zero_le _) _ 0 _ i.1,λg t u y=>(C0 y _ _ _).trans (i.2 g t u)⟩
 have j:Ϣ ((World.setCells b a 0 (μ e x)).rangeAt a 0 (μ e x)):=Fa d.o.1 rfl;rw[D5];go_wp2_with ((with_reducible refine wpList_store_mid ?_ 42 (.tmp 2) (.tmp 7) ?_ a 0 (ξ e x) ?_ ?_ ?_ ?_ ?_ ?_);exact rfl;exact rfl;exact rfl;exact rfl;exact d.o.1;exact Ha;exact ϭ);generalize (World.setCells b a 0 (μ e x))=P at j f⊢;obtain⟨D,E,G,I,J,K,L,M,N,O,F⟩:=OZ j.o
 go_end0
 exact⟨rfl,⟨x,⟨D,E,G,I,J,K,L,M,N,O,F⟩,f.o.1⟩,f.o.2⟩
theorem Ab2(p:Addr)(w:Ϡ):
 CallsD Tryz.prog 74 #[.pointer (some p)] .returning w λe c w'=>e= .returned (.tuple #[])/\c= .returning/\w'=w:=by
 refine callsD_of_wpS func74 rfl λa d b=>?_;apply wpS_seq;apply wpS_region;simp[wpOpsS,go_sem,recoverD,b,ntmps74,Exit.thenS];refine wpS_cond (t:=false) (by simp[Act.eval,Array.replicate]) ?_;simp only[Bool.false_eq_true,if_false];refine wpS_of_wp (wp_skip ?_)
 cases a
 simp_all [bodyPostS,results,results74]
end cd
namespace cd
open vl bf bt jn
variable {r : List Cel}
structure eggAt(w:World)(e:Egg)(x:GGX):Prop where
 j:joinAt w e.j x.y
 g:gr.gsAt w x.ga x.xs e.gs
 v:ch.viewAt w x.va e.v
theorem eggAt.below{w w':Ϡ}{e:Egg}{x:GGX}(h:eggAt w e x)(a:ϣ w w'):eggAt w' e x:=⟨h.j.below a,h.g.below a,ch.Br h.v a⟩
structure wfEg(e:Egg):Prop where
 j:wfJ e.j
 g:∀g∈e.gs,gr.wfG g
 gl:e.gs.length<=ύ
 v:ch.Cc e.v
 n:e.v.length<=ύ
noncomputable def GY(p:pl.Pln)(gs:List gr.Grp):Int:=if p.grouped=true then gr.CS p gs else if 0<gs.length then 1 else 0
noncomputable def Cs(p:pl.Pln)(e:Egg):Int:=if Ba p e.j≠0 then Ba p e.j else if GY p e.gs≠0 then GY p e.gs else if ch.Az e.v≠0 then ch.Az e.v else bt.Eh (pl.Ce p) e.v
theorem T4{p:pl.Pln}(h:pl.Ag p=0):(pl.Ce p).length<=ύ:=by
 by_cases a:p.grouped=true
 ·have:=bt.Jt h a;unfold pl.Ce;rw[if_pos a,lAp,lMp,lMp];omega
 ·exact Uo h (by simpa using a)
theorem M7(p:pl.Pln)(x:pl.PA)(a:ϡ)(cap:Nat)(y:List gr.GX)(c:List gr.Grp)(w:Ϡ)(t:pl.wfPlan p)(s:pl.planAt w p x)(q:gr.gsAt w a y c)(u:∀g∈c,gr.wfG g)(o:c.length<=ύ):
 χ 51 #[pl.Aj p x,vS a c.length cap] w (ψ w (vI (GY p c))):=by
 have d:=hIz (λ(i:Ϡ) (l:ϣ w i)=>gr.Bi p x a cap y c i t (pl.Ae s l) (q.below l) u o);obtain⟨R,h⟩:=nM (GY p c);have b:=hV0 h;rw[h];clear h t s q u;unfold GY at b;obtain⟨n,C⟩:=nM c.length;rw[C]at d b o⊢;unfold pl.Aj at d⊢;by_cases f:p.grouped=true
 ·rw[if_pos f]at b;rw[f]at d⊢;go_enter func51,ntmps51;go_wp2_with fail;generalize k:(World.alloc w _)=V;have m:ϣ w V:=by rw[<-k];exact ϯ
  clear k;refine(d.o V m).mono ?_;rintro e i ⟨rfl,A⟩;go_wp2;go_ret;exact⟨vl.Ad b.o,bT m A⟩
 ·rw[if_neg f]at b;have B:p.grouped=false:=by simpa using f
  rw[B];by_cases j:0<n
  ·rw[if_pos j]at b;have z:(0:Int)<(n:Int):=Ϥ;go_enter func51,ntmps51;go_wp2;go_ret;exact⟨vl.Ad b.o,ϯ⟩
  ·rw[if_neg j]at b;have z:¬(0:Int)<(n:Int):=Ϥ;go_enter func51,ntmps51;go_wp2;go_ret;exact⟨vl.Ad b.o,ϯ⟩
theorem Vn(p:pl.Pln)(x:pl.PA)(a:ϡ)(l:Nat)(v:List ch.Cnt)(w:Ϡ)(K:pl.wfPlan p)(J:pl.planAt w p x)(h0:pl.Ag p=0)(z:ch.viewAt w a v)(A:ch.Cc v)(y:v.length<=ύ):
 χ 52 #[pl.Aj p x,vS a v.length l] w (ψ w (vI (if ch.Az v≠0 then ch.Az v else bt.Eh (pl.Ce p) v))):=by
 have k:=hIz (λ(b:Ϡ) (d:ϣ w b)=>ch.Bi a l v b (ch.Br z d) A y);have D:=hIz (λ(b:Ϡ) (d:ϣ w b)=>pl.WX p x b K (pl.Ae J d));have KV:=hIz (λ(b:Ϡ) h C (d:ϣ w b) (P:pl.Ay b h (pl.Ce p))=>bt.JA a h l C v (pl.Ce p) b y (ch.Br z d) A P (T4 h0));obtain⟨R,q⟩:=nM (if ch.Az v≠0 then ch.Az v else bt.Eh (pl.Ce p) v);have f:=hV0 q;have M:=hV0 h0;rw[q];clear q K J z A y h0;obtain⟨i,m⟩:=nM (ch.Az v);obtain⟨T,o⟩:=nM (bt.Eh (pl.Ce p) v);obtain⟨n,g⟩:=nM v.length;rw[m,g]at k;rw[o,g]at KV;rw[m,o]at f;rw[g];clear m o g;unfold pl.Aj at D⊢;go_enter func52,ntmps52;go_wp2_with fail;generalize s:(World.alloc w _)=V;have t:ϣ w V:=by rw[<-s];exact ϯ
 have j:Ϣ (boxP V w p x):=by
  subst s;exact BQ ..
 clear s;refine(k.o _ t).mono ?_;rintro e b ⟨rfl,u⟩;have c:ϣ w b:=bT t u;replace j:Ϣ (boxP b w p x):=Af j.o u;clear u t k;by_cases B:i=0
 rotate_left
 ·have U:(i !=0)=true:=by simpa using B
  have N:Ϣ (i=R):=by show _=_;rw[<-f.o,if_pos B]
  go_wp2;go_ret;exact⟨vl.Ad N.o,c⟩
 subst B;rw[if_neg ϥ]at f;obtain⟨W,X,v2,v3,v4,v5,v6,v7,v8,v9,Y,Z,aa⟩:=j.o;go_wp2_with fail;refine(D.o _ c).mono ?_;rintro e L ⟨Q,F⟩;replace c:ϣ w L:=bT c F;rcases Q with⟨S,_⟩|⟨_,h,C,rfl,G⟩
 ·exact absurd M.o S
 have E:=KV.o L h C c G;obtain⟨on,I⟩:=nM ((pl.Ce p).length);rw[I]at E⊢;clear I G F;go_wp2_with fail;refine E.mono ?_;rintro e w3 ⟨rfl,O⟩;go_wp2;go_ret;exact⟨vl.Ad f.o,bT c O⟩
theorem T5(p:pl.Pln)(x:pl.PA)(e:Egg)(y:GGX)(w:Ϡ)(o:pl.wfPlan p)(n:pl.planAt w p x)(h:eggAt w e y)(i:wfEg e):
 χ 27 #[pl.Aj p x,egV e y] w (ψ w (vI (Cs p e))):=by
 have j:=hIz (λ(a:Ϡ) (c:ϣ w a)=>Bi p x e.j y.y a o (pl.Ae n c) (h.j.below c) i.j);have u:=hIz (λ(a:Ϡ) (c:ϣ w a)=>M7 p x y.ga y.gc y.xs e.gs a o (pl.Ae n c) (h.g.below c) i.g i.gl);have KV:Ϣ (Ba p e.j=0->∀a,ϣ w a->CT 52 #[pl.Aj p x,vS y.va e.v.length y.vc] a (ψ a (vI (if ch.Az e.v≠0 then ch.Az e.v else bt.Eh (pl.Ce p) e.v)))):=λX a c=>Vn p x y.va y.vc e.v a o (pl.Ae n c) (Fb X) (ch.Br h.v c) i.v i.n;obtain⟨R,z⟩:=nM (Cs p e);have b:=hV0 z;rw[z];clear z o n h i;unfold Cs at b;obtain⟨q,E⟩:=nM (Ba p e.j);obtain⟨Z,F⟩:=nM (if ch.Az e.v≠0 then ch.Az e.v else bt.Eh (pl.Ce p) e.v);obtain⟨s,G⟩:=nM (GY p e.gs);rw[E]at j KV b;rw[F]at KV b;rw[G]at u b;clear E F G;unfold pl.Aj at j u KV⊢;rw[AY]at j;unfold egV egC;go_enter func27,ntmps27;go_wp2_with fail;generalize k:(World.alloc (World.alloc w _) _)=V;have A:ϣ w V:=by rw[<-k];exact ϯ.alloc Ϧ _
 have g:Ϣ (boxP V w p x):=by
  subst k;exact Af (BQ ..) ϯ
 have f:Ϣ (SB V (w.heap.size+1) (egC e y)):=by
  subst k;have:=SB.new (ϊ w (Φ p x) 32) (egC e y) 42;rw[World.size_alloc]at this;exact this
 clear k;refine(j.o _ A).mono ?_;rintro e1 a ⟨rfl,l⟩;have d:ϣ w a:=bT A l;replace g:Ϣ (boxP a w p x):=Af g.o l;replace f:Ϣ (SB a (w.heap.size+1) (egC e y)):=f.o.below l;clear l A j;by_cases B:q=0
 rotate_left
 ·have aa:(q !=0)=true:=by simpa using B
  have t:Ϣ (q=R):=by show _=_;rw[<-b.o,if_pos B]
  go_wp2;go_ret;exact⟨vl.Ad t.o,d⟩
 subst B;rw[if_neg ϥ]at b;obtain⟨I,J,N,O,P,Q,S,T,U,W,K,L,M⟩:=g.o;obtain⟨u0,u1,u2,u3,u4,u5,u6,u7,u8,u9,u10⟩:=Iq f.o;go_wp2_with fail;refine(u.o _ d).mono ?_;rintro e2 D ⟨rfl,m⟩;replace d:ϣ w D:=bT d m;replace g:Ϣ (boxP D w p x):=Af g.o m;replace f:Ϣ (SB D (w.heap.size+1) (egC e y)):=f.o.below m;clear I J N O P Q S T U W K L M u0 u1 u2 u3 u4 u5 u6 u7 u8 u9 u10 m;by_cases C:s=0
 rotate_left
 ·have ab:(s !=0)=true:=by simpa using C
  have t:Ϣ (s=R):=by show _=_;rw[<-b.o,if_pos C]
  go_wp2;go_ret;exact⟨vl.Ad t.o,d⟩
 subst C;rw[if_neg ϥ]at b;obtain⟨I,J,N,O,P,Q,S,T,U,W,K,L,M⟩:=g.o;obtain⟨u0,u1,u2,u3,u4,u5,u6,u7,u8,u9,u10⟩:=Iq f.o;go_wp2_with fail;refine(KV.o Ϭ _ d).mono ?_;rintro e3 w3 ⟨rfl,Y⟩;go_wp2;go_ret;exact⟨vl.Ad b.o,bT d Y⟩
theorem Ga(h:rowOk r):Bq r/\Au r=0:=by
 refine⟨λc b=>(h.2 c b).2,?_⟩;unfold Au;rw[if_neg (by have:=h.1;omega)];exact K7 r r.length nR (λi a=>by
  rw[gDe,gEe a];exact(h.2 _ (getElem_mem a)).1)
theorem IG(h:rowOk r):(Bz r).length<=1056:=FV h.1 (Ga h).2
theorem YI(base C B:Nat)(f:List UInt8)(t:Tal)(w:Ϡ)(p:base<=w.heap.size)(h:WR w base B f)(l:WP w C B)(j:rowOk [t.1])(N:f.length<=9000000000000):
 χ 111 #[.agg #[vI t.1.k,vI t.1.n,.string t.1.s,vI t.2],ω C] w (WO base B w (f++BK t)):=by
 have z:=hIz (λ(b:Ϡ) a (d:ϣ w b) (ha:vl.rowAt b a [t.1])=>Hx base B f a 1 [t.1] b (Nat.le_trans p d.size) (h.below d) Ϥ ha (Ga j).1 j.1 (Ga j).2);have y:Ϣ (∀b,WR b base B (f++Bz [t.1])->base<=b.heap.size->CT 60 #[ω B,vI t.2] b (WO base B b (f++BK t))):=λb I d=>by
  have:=Cg base B _ t.2 b d I (by have:=IG j;rw[lAp];omega);unfold BK;rw[<-append_assoc];exact this
 obtain⟨⟨k,n,q⟩,m⟩:=t;dsimp only at *;have M:=AH l.1;have D:=l.2;clear j h;go_enter func111,ntmps111;go_wp2_with fail;generalize c:(World.alloc (World.alloc w _) _)=V;have g:ϣ w V:=by rw[<-c];exact ϯ.alloc Ϧ _
 have u:Ah V w 121:=by subst c;exact Ak ⟨_,_,World.alloc_heap_new _ _⟩ ϯ
 have o:Ϣ (CW V w.heap.size 121 3 (vI m)/\WP V C B/\vl.rowAt V (ϋ (w+1)) [⟨k,n,q⟩]):=by
  refine⟨⟨u,by subst c;go_simp⟩,l.below g,λi E=>?_⟩;have:i=0:=by simpa using E
  subst this;exact⟨_,_,rfl,by subst c;go_simp,by subst c;go_simp,by subst c;go_simp⟩
 clear c u l D;refine(z.o V _ g o.o.2.2).mono ?_;rintro e b ⟨rfl,J,d,s⟩;have O:=(o.o.2.1.keep s).2;have L:=(o.o.1.keep s ϥ ϥ).2;have G:base<=b.heap.size:=Nat.le_trans (Nat.le_trans p g.size) d.size;go_wp2_with fail;refine(y.o b J G).mono ?_;rintro e P ⟨rfl,K,A,F⟩;go_wp2
 go_end0
 exact⟨rfl,K,(g.mono p).trans (d.trans A),(keepW.of g).trans (s.trans F)⟩
end cd
namespace cd
open vl bf jn
variable {w w' : Ϡ}
theorem Ab3:calmT 4:=⟨ϥ,ϥ,ϥ⟩
theorem YJ(d b:Nat)(e:Eng)(w:Ϡ)(E:okRE e)(B:Δ w d 5 (vI e.j.L.lim))(X:d<w.heap.size)(i:w.there b 0 11)(l:Ah w b 42):
 χ 33 #[.string ⟨(It e).toArray⟩,.func (.func 34) #[] #[ω d,ω b]] w λo w'=>o= .returned (.bool true)/\(∃x:EX,Co w' b e x/\RE w' w.heap.size e x)/\An b w w':=by
 have Y:∀(A:Fn) (first z:Array Value) (w:Ϡ),(Instr.makeFunc A first z).run Tryz.prog w= .ok (.func A first z) w:=λ_ _ _ _=>rfl;have y:Ϣ (∀R a,ϣ w a->RR a R (It e)->b≠R->CT 34 #[ω R,ω d,ω b] a λo w'=>o= .returned (.tuple #[])/\(∃x:EX,Co w' b e x/\RE w' a.heap.size e x)/\RR w' R []/\Below 0 a w'/\∀g,g<a.heap.size->g≠R->g≠b->w'.heap[g]? =a.heap[g]?):=λR a n N P=>AdS R d b e a N E (cLz n B) (Ci i n) (Ak l n) P;have W:=AH l;obtain⟨s,u⟩:=nM (⟨(It e).toArray⟩:ByteArray);have K:=hV0 u;rw[u];clear u E B i l
 go_enter_defers func33,ntmps33
 go_wp2_with fail;generalize m:(World.alloc (World.alloc w _) _)=V;have h:ϣ w V:=by rw[<-m];exact ϯ.alloc Ϧ _
 have c:Ϣ (SB V w.heap.size [ϑ]/\Ah V w 4/\RR V (w.heap.size+1) (It e)):=by
  subst m;have M:=World.size_alloc w (.cells #[ϑ] 4);have Q:=SB.new w [ϑ] 4;have S:=World.alloc_heap_new w (.cells #[ϑ] 4);have I:=World.alloc_heap_new (ϊ w #[ϑ] 4) (.cells #[.string s] 124);rw[M]at I;exact⟨Q.below ϯ,Ak ⟨_,_,S⟩ ϯ,⟨by rw[K.o];go_simp,Ϩ,⟨_,_,I⟩⟩⟩
 clear m;refine(y.o (w.heap.size+1) V h c.o.2.2 Ϥ).mono ?_;rintro o a ⟨rfl,⟨x,C,G⟩,F,p,t⟩;have O:w.heap.size<V.heap.size:=c.o.1.lt;have q:a.heap[w.heap.size]? =V.heap[w.heap.size]? :=t _ O Ϥ Ϥ;have j:Ϣ (SB a w.heap.size [ϑ]/\Ah a w 4):=⟨c.o.1.same q p.size,Aq c.o.2.1 q⟩;have L:=j.o.1.cell 0 _ rfl;have U:=j.o.1.frz 0;have Z:Δ a (w+1) 0 (.string ⟨#[]⟩):=F.cell;have k:Ϣ ((Co (ό a w 0 (.bool true)) b e x/\RE (ό a w 0 (.bool true)) w.heap.size e x)/\An b w (ό a w 0 (.bool true))):=
  ⟨⟨O9 C (heap_setCell_other _ _ _ _ Ϫ),(G.mono h.size).setT j.o.2 Ab3 ϥ _ _⟩,⟨((h.mono (Nat.zero_le _)).trans p).setCell (Nat.zero_le _) _,λg D i=>(heap_setCell_other _ _ _ _ Ϫ).trans ((t g (Nat.lt_of_lt_of_le D h.size) Ϥ i).trans (h.block g D))⟩⟩
 have J:Δ (ό a w 0 (.bool true)) w 0 (.bool true):=World.cell?_setCell_same' _ _ _ (by rw[L];rfl);clear C G F p t q c y;go_wp2;generalize (World.setCell a _ _)=T at k J⊢;refine leaves_cons (f:=74) (args:=#[.pointer (some ⟨w,0,none⟩)]) Ϧ (by simp[go_sem]) ?_;refine(Ab2 ⟨w,0,none⟩ _).mono ?_;rintro o u' aa ⟨rfl,rfl,rfl⟩;simp[Leaves,settle,results,results33,go_sem,J];exact⟨⟨x,k.o.1⟩,k.o.2⟩
theorem YK{b:Nat}{p:pl.Pln}{x:pl.PA}(h:boxP w b p x)(d:w'.heap[b]? =w.heap[b]?):boxP w' b p x:=by
 have c:∀{i:Nat} {v:Value},Δ w b i v->Δ w' b i v:=λ{i v} f=>(cOb (w:=w) (a:=⟨b,i,none⟩) d).trans f;obtain⟨g,j,n,o,q,s,t,u,y,z,k,l,m⟩:=h;exact⟨c g,c j,c n,c o,c q,c s,c t,c u,c y,c z,c k,c l,c m⟩
theorem Ab4{base:Nat}{e:Eng}{x:EX}(h:RE w base e x)(a:ϣ w w'):RE w' base e x:=
 ⟨⟨h.l.mem.below a,⟨own_below h.l.runs.own a,h.l.runs.len,λi b=>⟨(h.l.runs.runs i b).1,(h.l.runs.runs i b).2.below a⟩⟩⟩,⟨h.r.mem.below a,⟨own_below h.r.runs.own a,h.r.runs.len,λi b=>⟨(h.r.runs.runs i b).1,(h.r.runs.runs i b).2.below a⟩⟩⟩,h.v.below a⟩
theorem Ab5(p:pl.Pln)(x:pl.PA)(e:Eng)(w:Ϡ)(L:pl.wfPlan p)(K:pl.planAt w p x)(S:p.grouped=false)(h0:DY p e=0)(Y:wfEn e)(U:okRE e)(T:e.j.L.lim=p.limit)(hl:(It e).length<=1048576):
 χ 18 #[pl.Aj p x,.string ⟨(It e).toArray⟩] w λo w'=>(∃y:EX,o= .returned (.tuple #[enV e y,Ϗ])/\enAt w' e y)/\ϣ w w':=by
 have E:Ϣ (∀a,ϣ w a->CT 32 #[pl.Aj p x] a (ψ a (vI 0))):=λa I=>by
  have:=pl.Dd p x a L (pl.Ae K I);rw[Fb (Lh h0).1]at this;exact this
 have F:=hIz (λG A (a:Ϡ) (m:Δ a G 5 (vI e.j.L.lim)) (n:G<a.heap.size) (h3:a.there A 0 11) (h4:Ah a A 42)=>YJ G A e a U m n h3 h4);have C:Ϣ (∀y a,ϣ w a->enAt a e y->CT 27 #[pl.Aj p x,enV e y] a (ψ a (vI 0))):=λy a I h=>by
  have:=OL p x e y a L (pl.Ae K I) S h Y;rw[h0]at this;exact this
 have ad:((⟨(It e).toArray⟩:ByteArray).size:Int)<=1048576:=by
  rw[size_mk];omega
 obtain⟨s,X⟩:=nM (⟨(It e).toArray⟩:ByteArray);rw[X]at F ad⊢;have aa:=hV0 T;clear X L K S h0 Y U T hl;unfold pl.Aj at E C⊢;go_enter func18,ntmps18;go_wp2_with fail;generalize i:(World.alloc (World.alloc w _) _)=V;have J:ϣ w V:=by rw[<-i];exact ϯ.alloc Ϧ _
 have b:Ϣ (boxP V w p x/\Fh V (w.heap.size+1)/\Ah V (w+1) 42):=by
  subst i;have m:=Gq (ϊ w (Φ p x) 32);have n:=World.alloc_heap_new (ϊ w (Φ p x) 32) (.cells #[Ϗ,ώ,ώ,Ϗ,ώ,ώ,Ϗ,Ϗ,Ϗ,ώ,ώ] 42);rw[World.size_alloc]at m n;exact⟨Af (BQ ..) ϯ,m,_,_,n⟩
 clear i;refine(E.o V J).mono ?_;rintro o a ⟨rfl,l⟩;have t:ϣ w a:=bT J l;replace b:Ϣ (boxP a w p x/\Fh a (w.heap.size+1)/\Ah a (w+1) 42):=⟨Af b.o.1 l,BC b.o.2.1 l,Ak b.o.2.2 l⟩;have lz:=RH b.o.2.1;clear J l E;go_wp2_with fail;generalize i:(World.alloc a _)=c;have q:ϣ a c:=by rw[<-i];exact ϯ
 have B:Ϣ (Fh c a.heap.size/\Ah c a 42):=by
  subst i;exact⟨Gq a,_,_,World.alloc_heap_new _ _⟩
 clear i;have P:ϣ w c:=bT t q;replace b:Ϣ (boxP c w p x/\Fh c (w.heap.size+1)/\Ah c (w+1) 42):=⟨Af b.o.1 q,BC b.o.2.1 q,Ak b.o.2.2 q⟩;have aj:a.heap.size<c.heap.size:=RH B.o.1;refine(F.o w.heap.size a.heap.size c (by rw[aa.o];exact b.o.1.2.2.2.2.2.1) Ϥ B.o.1 B.o.2).mono ?_;rintro o d ⟨rfl,⟨y,R,W⟩,u⟩;have Q:ϣ w d:=P.trans (u.below t.size (by have:=P.size;omega));have z:∀g,g<c.heap.size->g≠a.heap.size->d.heap[g]? =c.heap[g]? :=u.2;have f:Ϣ (boxP d w p x/\Fh d (w.heap.size+1)/\Ah d (w+1) 42):=⟨YK b.o.1 (z _ Ϥ Ϥ),Fl b.o.2.1 (z _ Ϥ Ϥ),Aq b.o.2.2 (z _ Ϥ Ϥ)⟩;have k:Ϣ (Co d a.heap.size e y/\RE d c.heap.size e y):=⟨R,W⟩;have ai:=u.1.size;clear R W u z b F;obtain⟨v0,v1,v2,v3,v4,v5,v6,v7,v8,v9,ae,af,ag⟩:=f.o.1;obtain⟨u0,u1,u2,u3,u4,u5,u6,u7,u8,u9,u10⟩:=k.o.1;have D:=C.o y d Q k.o.2.at;rw[D5]at D;go_wp2_with fail;refine D.mono ?_;rintro o w4 ⟨rfl,j⟩;have ac:ϣ w w4:=bT Q j;replace f:Ϣ (Fh w4 (w.heap.size+1)/\Ah w4 (w+1) 42):=⟨BC f.o.2.1 j,Ak f.o.2.2 j⟩;have Z:Ϣ (Co w4 a.heap.size e y):=Bg k.o.1 j;have ab:Ϣ (RE w4 c.heap.size e y):=Ab4 k.o.2 j;clear v0 v1 v2 v3 v4 v5 v6 v7 v8 v9 ae af ag u0 u1 u2 u3 u4 u5 u6 u7 u8 u9 u10 j k D C;obtain⟨u0,u1,u2,u3,u4,u5,u6,u7,u8,u9,u10⟩:=Z.o;have N:Ϣ (enAt (World.setCells w4 (w.heap.size+1) 0 (μ e y)) e y):=(RE.sets DJ ϥ _ _ _ ab.o f.o.2).at;have t:=ac;have O:Ϣ ((World.setCells w4 (w.heap.size+1) 0 (μ e y)).rangeAt (w.heap.size+1) 0 (μ e y)):=Fa f.o.1 rfl;have M:Ϣ (ϣ w (World.setCells w4 (w.heap.size+1) 0 (μ e y))):=below_setCells Ϥ _ 0 _ t;go_wp2_with ((with_reducible refine wpList_store_mid ?_ 42 (.tmp 4) (.tmp 31) ?_ (w.heap.size+1) 0 (ξ e y) ?_ ?_ ?_ ?_ ?_ ?_);exact rfl;exact rfl;exact rfl;exact rfl;exact f.o.1;exact Ha;exact ϭ);generalize (World.setCells w4 (w.heap.size+1) 0 (μ e y))=W' at O M N⊢;obtain⟨z0,z1,z2,z3,z4,z5,z6,z7,z8,z9,ah⟩:=OZ O.o
 exact bodyPost_ret (v:=.tuple #[.agg (ξ e y),Ϗ]) (by simp[results,results18,go_sem,z0,z1,z2,z3,z4,z5,z6,z7,z8,z9,ah]) rfl ⟨⟨y,rfl,N.o⟩,M.o⟩
theorem Xf(x:Ent)(h:x∈Ab En5.j.L\/x∈Ab En5.j.R):x=Lm sK\/x=Lm2 sK\/x=Rm sK:=by
 rcases h with h|h
 ·obtain⟨_,a,b⟩:=IV sK;have e:Ab En5.j.L=En5.j.L.mem++En5.j.L.runs.flatten:=rfl;rw[e,show En5.j.L.runs=[]from a,flatten_nil,append_nil]at h;have:=b.mem_iff.1 h;simp only[mem_cons,not_mem_nil,or_false]at this;exact this.elim .inl (λk=>.inr (.inl k))
 ·have e:Ab En5.j.R=[Rm sK]:=rfl;rw[e,mem_singleton]at h;exact .inr (.inr h)
theorem Ip:(Ab En5.j.L).length=2/\(Ab En5.j.R).length=1/\En5.j.L.runs.length=0/\En5.j.R.runs.length=0:=by
 obtain⟨_,a,b⟩:=IV sK;have e:Ab En5.j.L=En5.j.L.mem++En5.j.L.runs.flatten:=rfl;refine⟨?_,rfl,?_,rfl⟩
 ·rw[e,show En5.j.L.runs=[]from a,flatten_nil,append_nil];exact b.length_eq
 ·rw[show En5.j.L.runs=[]from a];rfl
theorem YL:sK.size=9:=ϧ
theorem Oe{r:List Cel}(h:Bq r)(d:r.length<=8)(b:Ff r=0):rowOk r:=⟨d,λc a=>⟨I9 b c a,h c a⟩⟩
theorem AfR(x:Ent)(h:x=Lm sK\/x=Lm2 sK\/x=Rm sK):okR x:=by
 rcases h with rfl|rfl|rfl
 ·exact⟨by show sK.size<=2000;rw[YL];decide,Oe (Ej ϥ ϥ) ϥ (by decide+kernel),ϥ,ϥ⟩
 ·exact⟨by show sK.size<=2000;rw[YL];decide,Oe (Ej ϥ ϥ) ϥ (by decide+kernel),ϥ,ϥ⟩
 ·exact⟨by show sK.size<=2000;rw[YL];decide,Oe (Ej ϥ ϥ) ϥ (by decide+kernel),ϥ,ϥ⟩
theorem AfS(x:Ent)(h:x=Lm sK\/x=Lm2 sK\/x=Rm sK):okW x:=by
 rcases h with rfl|rfl|rfl
 ·exact⟨by show sK.size<=2000;rw[YL];decide,Ej ϥ ϥ,ϥ,by decide+kernel⟩
 ·exact⟨by show sK.size<=2000;rw[YL];decide,Ej ϥ ϥ,ϥ,by decide+kernel⟩
 ·exact⟨by show sK.size<=2000;rw[YL];decide,Ej ϥ ϥ,ϥ,by decide+kernel⟩
theorem Ae7:okBW En5.j.L:=⟨λx a=>AfS x (Xf x (.inl a)),by rw[Ip.1];decide,by rw[Ip.2.2.1];decide⟩
theorem Ae8:okBW En5.j.R:=⟨λx a=>AfS x (Xf x (.inr a)),by rw[Ip.2.1];decide,by rw[Ip.2.2.2];decide⟩
theorem AfT:∀c∈En5.v,okC c:=by
 intro c a;rcases mem_cons.1 a with rfl|a
 ·exact⟨Xu,ϥ,by decide+kernel⟩
 ·rw[mem_singleton.1 a];exact⟨Acj,ϥ,by decide+kernel⟩
theorem AfU:(Bo En5.j.L).length+(Bo En5.j.R).length<=30000:=by
 have a (b:Buf) (h:okBW b) (c:(Ab b).length<=2) (g:b.runs.length=0):(Bo b).length<=10000:=by
  have d:=MW h;have f:=I5 h.mem.1;have e:Ab b=b.mem++b.runs.flatten:=rfl;rw[e,lAp]at c;unfold Bo;rw[lAp];unfold A5;rw[lAp,Am];omega
 have:=a _ Ae7 (by rw[Ip.1];decide) Ip.2.2.1;have:=a _ Ae8 (by rw[Ip.2.1];decide) Ip.2.2.2;omega
theorem Ae9:(C9 En5.v).length<=5000:=by
 have a:=LV (AfT _ (mem_cons_self ..));have b:=LV (AfT _ (mem_cons_of_mem _ (mem_cons_self ..)));show(C9 [_,_]).length<=5000;unfold C9;simp only[lAp,Am,flatMap_cons,flatMap_nil,length_nil];omega
theorem Xg:(It En5).length<=40000:=by
 have:=AfU;have:=Ae9;unfold It F6;simp only[lAp,Am];omega
theorem AfV:okRE En5:=⟨⟨⟨λx b=>AfR x (Xf x (.inl b)),by rw[Ip.1];decide,by rw[Ip.2.2.1];decide⟩,⟨λx b=>AfR x (Xf x (.inr b)),by rw[Ip.2.1];decide,by rw[Ip.2.2.2];decide⟩,(IV sK).1.trans rfl,ϥ,ϥ,ϥ,by have:=AfU;omega⟩,
 λc a=>⟨AeH c a,by
  rcases mem_cons.1 a with rfl|a
  ·decide
  ·rw[mem_singleton.1 a];decide⟩,ϥ,by have:=Ae9;omega⟩
theorem T6:wfEn En5:=OD (Acl (p:=sP) sB) Ack (by show(2:Nat)<=_;decide)
theorem QD:DY sP En5=0:=st5.2
theorem lim5:En5.j.L.lim=sP.limit:=(IV sK).1.trans rfl
theorem AfW:Ab9 En5.j:=by
 have c (b:Buf) (h:okBW b) (d:b.runs=[]):(∀l∈partsB b,l.length<=ύ)/\∀y∈Ab b,y.row.length<=ύ:=by
  refine⟨λl a=>?_,λy hy=>Nat.le_trans (h.ents y hy).len ϥ⟩;unfold partsB at a;rw[d]at a;rw[mem_singleton.1 a];exact Nat.le_trans h.mem.2 ϥ
 exact⟨c _ Ae7 (IV sK).2.1,c _ Ae8 rfl⟩
def Of:List UInt8:=(XN [97,98,99]).1
theorem AdT:XN [97,98,99]=(Of,0):=ϧ
theorem AdU:U8 Of=([97,98,99],0):=ϧ
theorem Xh:Of.length=11:=ϧ
theorem Ab6:crc [49,50,51,52,53,54,55,56,57]=3421780262:=ϧ
end cd
namespace cd
open vl bf bt jn
theorem AdV:Tryz.prog.cellsOf 42=11:=ϧ
theorem AdW:Tryz.prog.cellsOf 39=1:=ϧ
theorem AdX:Tryz.prog.cellsOf 40=1:=ϧ
theorem AdY{m:Array Value}(h:m.size=11):∃a b c d e f g h i j k,m=#[a,b,c,d,e,f,g,h,i,j,k]:=by
 obtain⟨l⟩:=m
 match l,h with
 |[a,b,c,d,e,f,g,h,i,j,k],_=>exact⟨a,b,c,d,e,f,g,h,i,j,k,rfl⟩
section
variable {H : Type} {enc : TypeId × Value -> H} {w : Ϡ} {base : Nat} {spare : Nat -> Bool} {held : Bool}
theorem Rj{f g h i c4 j k l m:Value}{y:DataW H×List MemPlace}{fuel:Nat}(G:DataW.trod enc Tryz.prog w base spare held fuel 38 [f,g,h,i,c4,j,k,l,m]=some y)(P:Rows.uptoBulk y.1<=1048576):
 ∃(s:Jn) (x:JX),#[f,g,h,i,c4,j,k,l,m]=#[.int .i64 s.L.lim,.slice x.l.m.1.1 x.l.m.1.2.1 x.l.m.1.2.2,.slice x.l.ra x.l.rs.length x.l.rc,.int .i64 s.R.lim,.slice x.r.m.1.1 x.r.m.1.2.1 x.r.m.1.2.2,.slice x.r.ra x.r.rs.length x.r.rc,.int .i64 s.lm,.int .i64 s.rm,.int .i64 s.seq]/\joinAt w s x/\wfJ s/\((Ab s.L).length<=1048576/\(Ab s.R).length<=1048576)/\∀z∈Ab s.L++Ab s.R,wfE z/\z.key.size<=1048576/\z.row.length<=1048576:=by
 obtain⟨O,n,_,hy,_,I,b⟩:=DataW.trod_struct underlying38 G
 match O,I with
 |[y0,y1,y2,y3,y4],_=>
  have t:=b 0 _ rfl;have u:=b 1 _ rfl;have A:=b 2 _ rfl;have B:=b 3 _ rfl;have C:=b 4 _ rfl;simp[Ad8]at t u;simp[CR]at A B C;have Q:Rows.uptoBulk y.1=Rows.uptoBulk y0.1+(Rows.uptoBulk y1.1+(Rows.uptoBulk y2.1+(Rows.uptoBulk y3.1+Rows.uptoBulk y4.1)))+1:=by
   rw[hy];simp only[map_cons,map_nil,Rows.uptoBulk,Rows.uptoBulkAll];omega
  obtain⟨bl,M,rfl,rfl,rfl,E,R,c⟩:=N0 t;obtain⟨D,N,rfl,rfl,rfl,F,S,d⟩:=N0 u;obtain⟨J,o,_,T⟩:=DataW.trod_int underlying3 A;obtain⟨K,p,_,U⟩:=DataW.trod_int underlying3 B;obtain⟨L,q,_,w4⟩:=DataW.trod_int underlying3 C;simp only[List.cons.injEq,and_true]at o p q;subst o p q;exact⟨⟨bl,D,J,K,L⟩,⟨M,N⟩,rfl,⟨E,F⟩,⟨⟨λz a=>⟨(c z a).1,(c z a).2.1⟩,Ϫ⟩,⟨λz a=>⟨(d z a).1,(d z a).2.1⟩,Ϫ⟩,bounds_i64 w4⟩,⟨Ϫ,Ϫ⟩,λz a=>by
   rcases mem_append.1 a with a|a
   ·have:=c z a;exact⟨this.1,Ϥ,Ϥ⟩
   ·have:=d z a;exact⟨this.1,Ϥ,Ϥ⟩⟩
theorem Rk{r:Reach}{C:Nat}{v:Value}{d:DataW H}{p:List MemPlace}(R:Value.okWide Tryz.prog w r C 42 v)(h:DataW.Trod enc Tryz.prog w base spare held 42 v d p)(aa:Rows.uptoBulk d<=1048576):
 ∃(e:Egg) (x:GGX),v=egV e x/\eggAt w e x/\wfEg e/\(∀g∈e.gs,∀l∈g.bags,l.length<=1048576)/\((Ab e.j.L).length<=1048576/\(Ab e.j.R).length<=1048576)/\∀z∈Ab e.j.L++Ab e.j.R,wfE z/\z.key.size<=1048576/\z.row.length<=1048576:=by
 obtain⟨cs,rfl,Q⟩:=okWide_struct underlying42 R;obtain⟨Z,c1,c2,c3,c4,c5,c6,c7,c8,E,D,rfl⟩:=AdY (Q.trans AdV);obtain⟨fuel,J⟩:=h;obtain⟨Y,o,q,n,hy,_,u,f,i⟩:=trod_struct3 underlying42 J;simp[Value.cells,Ad9]at u;simp[Value.cells,AdW]at f;simp[Value.cells,AdX]at i;simp only[Prod.mk.injEq]at hy;have ab:Rows.uptoBulk d=Rows.uptoBulk Y.1+(Rows.uptoBulk o.1+Rows.uptoBulk q.1)+1:=by
  rw[hy.1];simp only[Rows.uptoBulk,Rows.uptoBulkAll];omega
 obtain⟨s,x,y,M,V,N,O⟩:=Rj u Ϥ;have F:∃b t c,E= .slice b t c:=by
  rcases open_slice underlying39 f with⟨a,_⟩|⟨_,_,_,_,_,_,_,a,_⟩<;>(simp at a;exact⟨_,_,_,a⟩)
 have G:∃j B m,D= .slice j B m:=by
  rcases open_slice underlying40 i with⟨a,_⟩|⟨_,_,_,_,_,_,_,a,_⟩<;>(simp at a;exact⟨_,_,_,a⟩)
 obtain⟨b,t,c,rfl⟩:=F;obtain⟨j,B,m,rfl⟩:=G;obtain⟨X,I,rfl,K,A,L⟩:=gr.SZ (d:=o.1) (p:=o.2) ⟨n,f⟩;obtain⟨W,rfl,S,U,T⟩:=ch.SQ (d:=q.1) (p:=q.2) ⟨n,i⟩;refine⟨⟨s,I,W⟩,⟨x,b,c,X,j,m⟩,?_,⟨M,K,S⟩,⟨V,λg k=>(A g k).1,L,U,T⟩,λg k l P=>by have:=(A g k).2 l P;omega,N,O⟩;unfold egV egC;simp only[Array.mk.injEq,List.cons.injEq,and_true]at y;obtain⟨rfl,rfl,rfl,rfl,rfl,rfl,rfl,rfl,rfl⟩:=y;rfl
end
end cd
end Go.Proofs.YtfkihidbnfkbaaaGreatDoor
