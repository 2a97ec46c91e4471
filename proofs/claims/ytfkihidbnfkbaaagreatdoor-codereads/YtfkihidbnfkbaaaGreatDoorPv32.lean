import Derived.Test.YtfkihidbnfkbaaaGreatDoorPv31
set_option linter.all false
set_option maxHeartbeats 4000000
set_option maxRecDepth 100000
open Inhabited renaming default->ϰ
open List renaming length->ϲ
namespace Go.Proofs.YtfkihidbnfkbaaaGreatDoor
open ChangeShapes WideShapes ChangeAt RowKit List Proofs.Tryz
namespace jn
open vl bf
variable {w : ϟ}
theorem TG.chgs{base:Nat}{v:Value}{L:List CO}(h:TG w base v L):v=vS (UQ v) (ϲ L) (AaI v)/\ch.Gp w (UQ v) (L.map CO.chg):=by
 have f:=h.own;refine⟨SF f,λi t=>?_⟩;have a:i<ϲ L:=by simpa using t
 rcases f.2 with⟨k,y⟩|⟨g,c,x,k,_⟩
 ·omega
 ·have p:=RT f (g:=g) (by rw[k];rfl);obtain⟨m,n⟩:=ch.T5 (L.map CO.pair) i (by simpa using a);obtain⟨q,d⟩:=QS L i a;rw[q]at m n;have l:=p _ _ m;have b:=p _ _ n;rw[ch.Di,Fr]at l b;obtain⟨u,j⟩:=h.rows (L.getD i ϰ) (by rw[gDe,gEe a];exact GE a);have s:=SF j;rw[s]at j b;refine⟨g,0,UQ (L.getD i ϰ).rv,AaI (L.getD i ϰ).rv,by rw[k];rfl,?_,?_,?_⟩
  ·rw[d,Fr];exact l
  ·rw[d,Fr];exact b
  ·rw[d];exact vl.D5 j
theorem evs5{b:Nat}{d f h j:Ϡ}(k:Δ w b 0 (vI 1))(l:Δ w b 1 (vI 1))(A:Δ w b 2 (vI 1))(D:Δ w b 3 (vS d 2 2))
 (c4:Δ w b 4 (vI 1)) (E:Δ w b 5 (vI 2)) (F:Δ w b 6 (vI 2)) (G:Δ w b 7 (vS f 2 2))
 (H:Δ w b 8 (vI 2)) (I:Δ w b 9 (vI 1)) (m:Δ w b 10 (vI 4)) (n:Δ w b 11 (vS none 0 0))
 (p:Δ w b 12 (vI 1)) (q:Δ w b 13 (vI 1)) (s:Δ w b 14 (vI 4)) (t:Δ w b 15 (vS h 2 2))
 (u:Δ w b 16 (vI 1)) (x:Δ w b 17 (vI 1)) (y:Δ w b 18 (vI 5)) (z:Δ w b 19 (vS j 2 2))
 (h1:vl.rowAt w d (rw2 7 1)) (J:vl.rowAt w f (rw2 7 2)) (K:vl.rowAt w h (rw2 7 3)) (L:vl.rowAt w j (rw2 7 4)):L4 w (ϋ b) Kv [(d,2),(f,2),(none,0),(h,2),(j,2)]:=by
 intro i a
 match i,a with
 |0,_=>exact⟨b,0,rfl,k,l,A,D,h1,FA Ϥ Ϥ,Ϥ⟩
 |1,_=>exact⟨b,0,rfl,c4,E,F,G,J,FA Ϥ Ϥ,Ϥ⟩
 |2,_=>exact⟨b,0,rfl,H,I,m,n,λi a=>absurd a (CA i),λc M=>absurd M SW,Ϥ⟩
 |3,_=>exact⟨b,0,rfl,p,q,s,t,K,FA Ϥ Ϥ,Ϥ⟩
 |4,_=>exact⟨b,0,rfl,u,x,y,z,L,FA Ϥ Ϥ,Ϥ⟩
theorem Zz(w:ϟ):χ 24 #[] w λe w'=>(∃b H,e= .returned (vS (ϋ b) 5 5)/\L4 w' (ϋ b) Kv H)/\Ϣ w w':=by
 go_enter func24,ntmps24;go_wp2_with fail;refine(pl.Iu _ _ _).mono ?_;rintro e F ⟨⟨z,rfl,i⟩,u⟩;have n:=hV0 i;clear i;go_wp2_with fail;refine(pl.Iu _ _ _).mono ?_;rintro e G ⟨⟨A,rfl,j⟩,x⟩;have p:=hV0 j;clear j;go_wp2_with fail;refine(pl.Iu _ _ _).mono ?_;rintro e I ⟨⟨D,rfl,k⟩,y⟩;have q:=hV0 k;clear k;go_wp2_with fail;refine(pl.Iu _ _ _).mono ?_;rintro e w4 ⟨⟨E,rfl,l⟩,h⟩;have s:=hV0 l;clear l;have f:Ϣ G w4:=bT y h;have d:Ϣ F w4:=bT x f;have t:Ϣ w w4:=bT u d;go_wp2;generalize a:(World.alloc w4 _)=W;have c:Ϣ w4 W:=by rw[<-a];exact Ϯ
 have m:ϡ (L4 W (ϋ w4) Kv [(z,2),(A,2),(none,0),(D,2),(E,2)]):=evs5 (by subst a;go_simp) (by subst a;go_simp) (by subst a;go_simp) (by subst a;go_simp) (by subst a;go_simp) (by subst a;go_simp) (by subst a;go_simp) (by subst a;go_simp) (by subst a;go_simp) (by subst a;go_simp) (by subst a;go_simp) (by subst a;go_simp) (by subst a;go_simp) (by subst a;go_simp) (by subst a;go_simp) (by subst a;go_simp) (by subst a;go_simp) (by subst a;go_simp) (by subst a;go_simp) (by subst a;go_simp)
  (vl.Ac n.o (bT d c)) (vl.Ac p.o (bT f c)) (vl.Ac q.o (bT h c)) (vl.Ac s.o c)
 clear a;go_ret;exact⟨⟨_,_,rfl,m.o⟩,bT t c⟩
def Ae2(n:Nat):B8 (bt.D3 n):=λc a=>by
 rw[eq_of_mem_replicate a];exact⟨Ϥ,Ϥ⟩
def Agl{a b:List Cel}(ha:B8 a)(d:B8 b):B8 (a++b):=λc f=>(Fk.1 f).elim (ha c) (d c)
end jn
namespace cd
open vl bf
variable {w w' : ϟ} {B C g o : Nat} {e : TypeId} {v : Value} {r : List Cel}
def CW(w:World)(g:Nat)(e:TypeId)(o:Nat)(v:Value):Prop:=Am w g e/\Δ w g o v
def CW.keep(h:CW w g e o v)(c:keepW w w')(h1:e≠5)(b:e≠64):CW w' g e o v:=
 ⟨A1 h.1 (c.2 g e h.1 h1 b),(cOb (w:=w) (a:=⟨g,o,none⟩) (c.2 g e h.1 h1 b)).trans h.2⟩
def CW.below(h:CW w g e o v)(a:Ϣ w w'):CW w' g e o v:=⟨Ak h.1 a,cLz a h.2⟩
def AD(x:Ent):List UInt8:=txt x.key.data.toList++AM x.time++AM x.seq++Ck x.row++Hm x.met
structure okW(x:Ent):Prop where
 key:x.key.size<=2000
 row:B8 x.row
 len:ϲ x.row<=8
 err:Aq x.row=0
def AbQ(b:ϲ r<=8)(a:Aq r=0):ϲ (encR r)<=1048:=by
 have:=DU r (IU (by have:=a;unfold Aq at this;rw[AC ϣ]at this;exact this));omega
def Hw(b:ϲ r<=8)(a:Aq r=0):ϲ (Ck r)<=1056:=by
 unfold Ck;rw[JA];have:=AbQ b a;omega
def Wg(b:Bool):ϲ (Hm b)=8:=As _
def Z0{x:Ent}(h:okW x):ϲ (AD x)<=4000:=by
 have a:=Hw h.len h.err;have b:=h.key;unfold AD;simp only[lAp,JA,As,Wg,A2];omega
theorem Z1(a:ϟ)(B:Nat)(f:List UInt8)(e:EM)(x:Ent)(w:ϟ)(M:Ϣ a w)(h:WR w a.heap.size B f)(he:ER a e x)(i:okW x)(hl:ϲ f<=9000000000000):
 χ 179 #[ω B,e.val] w (WO a.heap.size B w (f++AD x)):=by
 obtain⟨k1,t1,s1,⟨t,b1,u⟩,m1⟩:=e;obtain⟨F,G,H,I,J,y⟩:=he;dsimp only at F G H I J y;subst F G H I J;have E:=hIz (λ(b:ϟ) (j:WR b a.heap.size B f) (d:a.heap.size<=b.heap.size)=>Ui a.heap.size B f x.key b d j (by have:=i.key;omega));have D:=hIz (λ(b:ϟ) c n (j:WR b a.heap.size B c) (ab:ϲ c<=9001000000000) (d:a.heap.size<=b.heap.size)=>Cd a.heap.size B c n b d j ϣ);have s:=hIz (λ(b:ϟ) c (j:WR b a.heap.size B c) (ab:ϲ c<=9001000000000) (d:Ϣ a b)=>Iv a.heap.size B c t u x.row b d.size j ϣ (vl.Ac y d) i.row i.len i.err);have KF:=hIz (λ(b:ϟ) c (j:WR b a.heap.size B c) (ab:ϲ c<=9001000000000) (d:a.heap.size<=b.heap.size)=>Ac5 a.heap.size B c x.met b d j ϣ);have HR:=Hw i.len i.err;have HK:=i.key;have A:=JA x.key.data.toList;rw[A2]at A;have z:ϡ (f++AD x=f++txt x.key.data.toList++AM x.time++AM x.seq++Ck x.row++Hm x.met):=by
  show _=_;unfold AD;simp only[Bx]
 rw[z.o];obtain⟨T,L⟩:=nM (txt x.key.data.toList);rw[L]at E A⊢;obtain⟨R,K⟩:=nM (Ck x.row);rw[K]at s HR⊢;obtain⟨n,hn⟩:=nM (ϲ x.row);show Calls prog _ #[_,.agg #[.string x.key,vI x.time,vI x.seq,vS t (ϲ x.row) u,.bool x.met]] w _;rw[hn]at s⊢;clear L K hn y i z;go_enter func179,ntmps179;go_wp2_with fail;generalize m:(World.alloc w _)=V;have p:Ϣ w V:=by rw[<-m];exact Ϯ
 have k:Am V w 166:=by subst m;exact⟨_,_,DE _ _⟩
 have l:ϡ (CW V w.heap.size 166 0 (.string x.key)/\CW V w.heap.size 166 1 (vI x.time)/\CW V w.heap.size 166 2 (vI x.seq)/\CW V w.heap.size 166 3 (vS t n u)/\CW V w.heap.size 166 4 (.bool x.met)):=by
  refine⟨⟨k,?_⟩,⟨k,?_⟩,⟨k,?_⟩,⟨k,?_⟩,⟨k,?_⟩⟩<;>(subst m;go_simp)
 have q:ϡ (keepW w V/\Below a.heap.size w V):=⟨keepW.of p,p.mono M.size⟩;have N:Ϣ a V:=M.trans q.o.2;have aj:WR V a.heap.size B f:=h.below p;clear m p k h;have c0:=l.o.1.2;refine(E.o V aj N.size).mono ?_;rintro e b ⟨rfl,ak,d,aa⟩;have ac:=(l.o.2.1.keep aa Ϥ Ϥ).2;clear c0;have O:=N.trans d;go_wp2_with fail;refine(D.o b _ _ ak (by rw[lAp];omega) O.size).mono ?_;rintro e w2 ⟨rfl,al,S,af⟩;have X:=aa.trans af;have c2:=(l.o.2.2.1.keep X Ϥ Ϥ).2;clear ac;have P:=O.trans S;go_wp2_with fail;refine(D.o w2 _ _ al (by simp only[lAp,As];omega) P.size).mono ?_;rintro e w3 ⟨rfl,am,U,ag⟩;have Y:=X.trans ag;have c3:=(l.o.2.2.2.1.keep Y Ϥ Ϥ).2;clear c2;have Q:=P.trans U;go_wp2_with fail;refine(s.o w3 _ am (by simp only[lAp,As];omega) Q).mono ?_;rintro e w4 ⟨rfl,an,W,ah⟩;have Z:=Y.trans ah;have c4:=(l.o.2.2.2.2.keep Z Ϥ Ϥ).2;clear c3;have ad:=Q.trans W;go_wp2_with fail;refine(KF.o w4 _ an (by simp only[lAp,As];omega) ad.size).mono ?_;rintro e w5 ⟨rfl,ao,ae,ai⟩;go_wp2
 go_end0
 exact⟨rfl,ao,q.o.2.trans (d.trans (S.trans (U.trans (W.trans ae)))),q.o.1.trans (Z.trans ai)⟩
def WP(w:World)(C B:Nat):Prop:=CW w C 66 0 (.pointer (ϋ B))
def WP.keep(h:WP w C B)(a:keepW w w'):WP w' C B:=CW.keep h a Ϥ Ϥ
def WP.below(h:WP w C B)(a:Ϣ w w'):WP w' C B:=CW.below h a
def Ae3(a:ϟ)(C B:Nat)(b:List UInt8)(e:EM)(x:Ent)(w:ϟ)(j:Ϣ a w)(h:WR w a.heap.size B b)(d:WP w C B)(k:ER a e x)(l:okW x)(n:ϲ b<=9000000000000):
 χ 178 #[e.val,ω C] w (WO a.heap.size B w (b++AD x)):=by
 have i:=hIz (λ(f:ϟ) (c:Ϣ w f)=>Z1 a B b e x f (bT j c) (h.below c) k l n);have u:=d.2;have t:=A7 d.1;have p:=j.size;unfold EM.val hdV at i⊢;clear k l h d;go_enter func178,ntmps178;go_wp2_with fail;refine(i.o _ Ϯ).mono ?_;rintro s f ⟨rfl,q,c,m⟩;go_wp2
 go_end0
 exact⟨rfl,q,(Ϯ.mono p).trans c,(keepW.of Ϯ).trans m⟩
def BI(l:List Ent):List UInt8:=AM (ϲ l)++l.flatMap AD
theorem O1{l:List Ent}(h:∀x∈l,okW x):ϲ (l.flatMap AD)<=4000 * ϲ l:=by
 induction l with
 |nil=>simp
 |cons x l ih=>
  have a:=Z0 (h x (E0 ..));have b:=ih (λy hy=>h y (EQ _ hy));rw[aH,lAp,DP];omega
def Ec{α:Type} [Inhabited α](f:α->List UInt8)(l:List α)(k:Nat)(h:k<ϲ l):(l.take (k+1)).flatMap f=(l.take k).flatMap f++f (l.getD k ϰ):=by
 rw[M1 h,SN];simp[gDe,h]
theorem T6(c:ϟ)(C B:Nat)(f:List UInt8)(a:Ϡ)(cap:Nat)(m:List EM)(l:List Ent)(w:ϟ)(P:Ϣ c w)(h:WR w c.heap.size B f)(hc:WP w C B)(ha:Cn c a m)(p:ERs c m l)(S:∀x∈l,okW x)(hn:ϲ l<=10000)(hl:ϲ f+4000 * ϲ l<=8900000000000):
 χ 180 #[ω B,vS a (ϲ l) cap,.func (.func 178) #[] #[ω C]] w (WO c.heap.size B w (f++BI l)):=by
 have Y:=hIz (λn=>Cd c.heap.size B f n w P.size h ϣ);have z:ϡ (Cn c a m/\(ϲ m)=ϲ l/\∀i,i<ϲ l->ER c (m.getD i ϰ) (l.getD i ϰ)):=⟨ha,p.1,p.2⟩;have N:ϡ (∀i,i<ϲ l->okW (l.getD i ϰ)):=λi hi=>S _ (by rw[gDe,gEe hi];exact GE hi);have V:ϡ (∀k,ϲ ((l.take k).flatMap AD)<=4000 * ϲ l):=λk=>by
  have:=O1 (l:=l.take k) (λx hx=>S x (cJ hx));have h2:ϲ (l.take k)<=ϲ l:=fB ..;omega
 have M:ϡ (∀k,k<ϲ l->(l.take (k+1)).flatMap AD=(l.take k).flatMap AD++AD (l.getD k ϰ)):=λk y=>Ec AD l k y;have T:ϡ (f++AM (ϲ l)++(l.take (ϲ l)).flatMap AD=f++BI l):=by
  show _=_;unfold BI;rw[Ok,Bx]
 have O:ϡ (∀k,k<ϲ l->∀d j,Ϣ c d->WR d c.heap.size B j->WP d C B->ϲ j<=9000000000000->CT 178 #[(m.getD k ϰ).val,ω C] d (WO c.heap.size B d (j++AD (l.getD k ϰ)))):=λk y d j I h1 ae ah=>Ae3 c C B j _ _ d I h1 ae (p.2 k y) (N.o k y) ah;obtain⟨n,J⟩:=nM (ϲ l);have HN:=hV0 J;rw[J]at z N V M O hl hn⊢;rw[J]at T;have HC:=hV0 hc;have A:=hV0 P;clear ha p S J h hc P;go_enter func180,ntmps180;go_wp2_with fail;refine(Y.o _).mono ?_;rintro e d ⟨rfl,ac,I,ab⟩;have W:ϡ (WR d c.heap.size B (f++AM n)/\Below c.heap.size w d/\keepW w d):=⟨ac,I,ab⟩;clear ac I ab Y;go_wp2_with fail
 go_loopw [14] (λi wr=> ∃k:Nat,k<=n/\i=vI k/\WR wr c.heap.size B (f++AM n++(l.take k).flatMap AD)/\Below c.heap.size w wr/\keepW w wr) (λi _=>n - (intOf i).toNat)
 case atStart=>exact⟨0,At _,rfl,by simpa using W.o.1,W.o.2⟩
 case round=>
  obtain⟨k,y,rfl,L,u,Q⟩:=hrel;by_cases R:k<n
  ·obtain⟨b,al,e,D,F,G,s,H⟩:=z.o.1 k (by rw[z.o.2.1];exact R);subst e;have aa:=A.o.trans u;have zz:=lk5 aa D F G s H;clear D F G s H;obtain⟨D,F,G,s,H⟩:=zz;have aj:=V.o k;have K:=O.o k R;unfold EM.val at K;unfold hdV at K s;have U:ϡ ((l.take (k+1)).flatMap AD=(l.take k).flatMap AD++AD (l.getD k ϰ)):=M.o k R;obtain⟨E,p⟩:=nM (AD (l.getD k ϰ));rw[p]at K U;obtain⟨X,Z⟩:=nM (m.getD k ϰ);rw[Z]at K D F G s H;have KH:ϡ (∀d j,Ϣ c d->WR d c.heap.size B j->WP d C B->ϲ j<=9000000000000->CT 178 #[.agg #[.string X.key,vI X.time,vI X.seq,vS X.row.1 X.row.2.1 X.row.2.2,.bool X.met],ω C] d (WO c.heap.size B d (j++E))):=K;have q:ϡ (WR wr c.heap.size B (f++AM n++(l.take k).flatMap AD)/\Below c.heap.size w wr/\keepW w wr):=⟨L,u,Q⟩;have ak:=u.size;have i1:=nn0 k;have i2:(k:Int)<(n:Int):=ϣ;clear K p Z L u Q aa O z N M;go_wp2_with fail;have t:Ϣ wr (ϊ wr #[.string X.key,vI X.time,vI X.seq,vS X.row.1 X.row.2.1 X.row.2.2,.bool X.met] 166):=Ϯ;refine(KH.o _ _ ((A.o.trans q.o.2.1).trans (t.mono (by have:=A.o.size;omega))) (q.o.1.below t) ((HC.o.keep q.o.2.2).below t) (by simp only[lAp,As];omega)).mono ?_;rintro e w2 ⟨rfl,ai,ad,af⟩;go_wp2;go_roundw;exact⟨k+1,ϣ,by go_num,by rw[U.o,<-Bx];exact ai,q.o.2.1.trans ((t.mono (by have:=A.o.size;omega)).trans ad),q.o.2.2.trans ((keepW.of t).trans af)⟩;simp[intOf];omega
  ·have ag:k=n:=ϣ;subst ag;have i2:¬((k:Int)<(k:Int)):=ϣ;rw[T.o]at L;go_wp2
   go_end0
   exact⟨rfl,L,u,Q⟩
end cd
