import Derived.Test.YtfkihidbnfkbaaaGreatDoorPv31
set_option linter.all false
set_option maxHeartbeats 4000000
set_option maxRecDepth 100000
open Go.ChangeShapes Go.WideShapes Go.ChangeAt Go.RowKit List
open Inhabited renaming default->ϰ
namespace Go.Proofs.YtfkihidbnfkbaaaGreatDoor
open Go.Proofs.Tryz
namespace cd
open vl bf
variable {w w' : Ϡ} {B C g o : Nat} {e : TypeId} {v : Value} {r : List Cel}
def CW(w:World)(g:Nat)(e:TypeId)(o:Nat)(v:Value):Prop:=Ah w g e/\Δ w g o v
theorem CW.keep(h:CW w g e o v)(c:keepW w w')(h1:e≠5)(b:e≠64):CW w' g e o v:=
 ⟨Aq h.1 (c.2 g e h.1 h1 b),(cOb (w:=w) (a:=⟨g,o,none⟩) (c.2 g e h.1 h1 b)).trans h.2⟩
theorem CW.below(h:CW w g e o v)(a:ϣ w w'):CW w' g e o v:=⟨Ak h.1 a,cLz a h.2⟩
def Bp(x:Ent):List UInt8:=txt x.key.data.toList++As x.time++As x.seq++Bz x.row++CC x.met
structure okW(x:Ent):Prop where
 key:x.key.size<=2000
 row:Bq x.row
 len:x.row.length<=8
 err:Au x.row=0
theorem SR(b:r.length<=8)(a:Au r=0):(encR r).length<=1048:=by
 have:=D6 r (I9 (by have:=a;unfold Au at this;rw[if_neg Ϥ]at this;exact this));omega
theorem FV(b:r.length<=8)(a:Au r=0):(Bz r).length<=1056:=by
 unfold Bz;rw[GH];have:=SR b a;omega
theorem Fs(b:Bool):(CC b).length=8:=Am _
theorem Yr{x:Ent}(h:okW x):(Bp x).length<=4000:=by
 have a:=FV h.len h.err;have b:=h.key;unfold Bp;simp only[lAp,GH,Am,Fs,A2];omega
theorem Ys(a:Ϡ)(B:Nat)(f:List UInt8)(e:EM)(x:Ent)(w:Ϡ)(M:ϣ a w)(h:WR w a.heap.size B f)(he:ER a e x)(i:okW x)(hl:f.length<=9000000000000):
 χ 179 #[ω B,e.val] w (WO a.heap.size B w (f++Bp x)):=by
 obtain⟨k1,t1,s1,⟨t,b1,u⟩,m1⟩:=e;obtain⟨F,G,H,I,J,y⟩:=he;dsimp only at F G H I J y;subst F G H I J;have E:=hIz (λ(b:Ϡ) (j:WR b a.heap.size B f) (d:a.heap.size<=b.heap.size)=>TC a.heap.size B f x.key b d j (by have:=i.key;omega));have D:=hIz (λ(b:Ϡ) c n (j:WR b a.heap.size B c) (ab:c.length<=9001000000000) (d:a.heap.size<=b.heap.size)=>Cg a.heap.size B c n b d j Ϥ);have s:=hIz (λ(b:Ϡ) c (j:WR b a.heap.size B c) (ab:c.length<=9001000000000) (d:ϣ a b)=>Hx a.heap.size B c t u x.row b d.size j Ϥ (vl.Ac y d) i.row i.len i.err);have KF:=hIz (λ(b:Ϡ) c (j:WR b a.heap.size B c) (ab:c.length<=9001000000000) (d:a.heap.size<=b.heap.size)=>Ab8 a.heap.size B c x.met b d j Ϥ);have HR:=FV i.len i.err;have HK:=i.key;have A:=GH x.key.data.toList;rw[A2]at A;have z:Ϣ (f++Bp x=f++txt x.key.data.toList++As x.time++As x.seq++Bz x.row++CC x.met):=by
  show _=_;unfold Bp;simp only[append_assoc]
 rw[z.o];obtain⟨T,L⟩:=nM (txt x.key.data.toList);rw[L]at E A⊢;obtain⟨R,K⟩:=nM (Bz x.row);rw[K]at s HR⊢;obtain⟨n,hn⟩:=nM x.row.length;show Calls Tryz.prog _ #[_,.agg #[.string x.key,vI x.time,vI x.seq,vS t x.row.length u,.bool x.met]] w _;rw[hn]at s⊢;clear L K hn y i z;go_enter func179,ntmps179;go_wp2_with fail;generalize m:(World.alloc w _)=V;have p:ϣ w V:=by rw[<-m];exact ϯ
 have k:Ah V w 166:=by subst m;exact⟨_,_,World.alloc_heap_new _ _⟩
 have l:Ϣ (CW V w.heap.size 166 0 (.string x.key)/\CW V w.heap.size 166 1 (vI x.time)/\CW V w.heap.size 166 2 (vI x.seq)/\CW V w.heap.size 166 3 (vS t n u)/\CW V w.heap.size 166 4 (.bool x.met)):=by
  refine⟨⟨k,?_⟩,⟨k,?_⟩,⟨k,?_⟩,⟨k,?_⟩,⟨k,?_⟩⟩<;>(subst m;go_simp)
 have q:Ϣ (keepW w V/\Below a.heap.size w V):=⟨keepW.of p,p.mono M.size⟩;have N:ϣ a V:=M.trans q.o.2;have aj:WR V a.heap.size B f:=h.below p;clear m p k h;have c0:=l.o.1.2;refine(E.o V aj N.size).mono ?_;rintro e b ⟨rfl,ak,d,aa⟩;have ac:=(l.o.2.1.keep aa ϥ ϥ).2;clear c0;have O:=N.trans d;go_wp2_with fail;refine(D.o b _ _ ak (by rw[lAp];omega) O.size).mono ?_;rintro e w2 ⟨rfl,al,S,af⟩;have X:=aa.trans af;have c2:=(l.o.2.2.1.keep X ϥ ϥ).2;clear ac;have P:=O.trans S;go_wp2_with fail;refine(D.o w2 _ _ al (by simp only[lAp,Am];omega) P.size).mono ?_;rintro e w3 ⟨rfl,am,U,ag⟩;have Y:=X.trans ag;have c3:=(l.o.2.2.2.1.keep Y ϥ ϥ).2;clear c2;have Q:=P.trans U;go_wp2_with fail;refine(s.o w3 _ am (by simp only[lAp,Am];omega) Q).mono ?_;rintro e w4 ⟨rfl,an,W,ah⟩;have Z:=Y.trans ah;have c4:=(l.o.2.2.2.2.keep Z ϥ ϥ).2;clear c3;have ad:=Q.trans W;go_wp2_with fail;refine(KF.o w4 _ an (by simp only[lAp,Am];omega) ad.size).mono ?_;rintro e w5 ⟨rfl,ao,ae,ai⟩;go_wp2
 go_end0
 exact⟨rfl,ao,q.o.2.trans (d.trans (S.trans (U.trans (W.trans ae)))),q.o.1.trans (Z.trans ai)⟩
def WP(w:World)(C B:Nat):Prop:=CW w C 66 0 (.pointer (ϋ B))
theorem WP.keep(h:WP w C B)(a:keepW w w'):WP w' C B:=CW.keep h a ϥ ϥ
theorem WP.below(h:WP w C B)(a:ϣ w w'):WP w' C B:=CW.below h a
theorem Adz(a:Ϡ)(C B:Nat)(b:List UInt8)(e:EM)(x:Ent)(w:Ϡ)(j:ϣ a w)(h:WR w a.heap.size B b)(d:WP w C B)(k:ER a e x)(l:okW x)(n:b.length<=9000000000000):
 χ 178 #[e.val,ω C] w (WO a.heap.size B w (b++Bp x)):=by
 have i:=hIz (λ(f:Ϡ) (c:ϣ w f)=>Ys a B b e x f (bT j c) (h.below c) k l n);have u:=d.2;have t:=AH d.1;have p:=j.size;unfold EM.val hdV at i⊢;clear k l h d;go_enter func178,ntmps178;go_wp2_with fail;refine(i.o _ ϯ).mono ?_;rintro s f ⟨rfl,q,c,m⟩;go_wp2
 go_end0
 exact⟨rfl,q,(ϯ.mono p).trans c,(keepW.of ϯ).trans m⟩
def A5(l:List Ent):List UInt8:=As l.length++l.flatMap Bp
theorem I5{l:List Ent}(h:∀x∈l,okW x):(l.flatMap Bp).length<=4000 * l.length:=by
 induction l with
 |nil=>simp
 |cons x l ih=>
  have a:=Yr (h x (mem_cons_self ..));have b:=ih (λy hy=>h y (mem_cons_of_mem _ hy));rw[flatMap_cons,lAp,length_cons];omega
theorem Cz{α:Type} [Inhabited α](f:α->List UInt8)(l:List α)(k:Nat)(h:k<l.length):(l.take (k+1)).flatMap f=(l.take k).flatMap f++f (l.getD k ϰ):=by
 rw[take_succ_eq_append_getElem h,flatMap_append];simp[gDe,h]
theorem SS(c:Ϡ)(C B:Nat)(f:List UInt8)(a:ϡ)(cap:Nat)(m:List EM)(l:List Ent)(w:Ϡ)(P:ϣ c w)(h:WR w c.heap.size B f)(hc:WP w C B)(ha:BR c a m)(p:ERs c m l)(S:∀x∈l,okW x)(hn:l.length<=10000)(hl:f.length+4000 * l.length<=8900000000000):
 χ 180 #[ω B,vS a l.length cap,.func (.func 178) #[] #[ω C]] w (WO c.heap.size B w (f++A5 l)):=by
 have Y:=hIz (λn=>Cg c.heap.size B f n w P.size h Ϥ);have z:Ϣ (BR c a m/\m.length=l.length/\∀i,i<l.length->ER c (m.getD i ϰ) (l.getD i ϰ)):=⟨ha,p.1,p.2⟩;have N:Ϣ (∀i,i<l.length->okW (l.getD i ϰ)):=λi hi=>S _ (by rw[gDe,gEe hi];exact getElem_mem hi);have V:Ϣ (∀k,((l.take k).flatMap Bp).length<=4000 * l.length):=λk=>by
  have:=I5 (l:=l.take k) (λx hx=>S x (mem_of_mem_take hx));have h2:(l.take k).length<=l.length:=List.length_take_le' ..;omega
 have M:Ϣ (∀k,k<l.length->(l.take (k+1)).flatMap Bp=(l.take k).flatMap Bp++Bp (l.getD k ϰ)):=λk y=>Cz Bp l k y;have T:Ϣ (f++As l.length++(l.take l.length).flatMap Bp=f++A5 l):=by
  show _=_;unfold A5;rw[take_length,append_assoc]
 have O:Ϣ (∀k,k<l.length->∀d j,ϣ c d->WR d c.heap.size B j->WP d C B->j.length<=9000000000000->CT 178 #[(m.getD k ϰ).val,ω C] d (WO c.heap.size B d (j++Bp (l.getD k ϰ)))):=λk y d j I h1 ae ah=>Adz c C B j _ _ d I h1 ae (p.2 k y) (N.o k y) ah;obtain⟨n,J⟩:=nM l.length;have HN:=hV0 J;rw[J]at z N V M O hl hn⊢;rw[J]at T;have HC:=hV0 hc;have A:=hV0 P;clear ha p S J h hc P;go_enter func180,ntmps180;go_wp2_with fail;refine(Y.o _).mono ?_;rintro e d ⟨rfl,ac,I,ab⟩;have W:Ϣ (WR d c.heap.size B (f++As n)/\Below c.heap.size w d/\keepW w d):=⟨ac,I,ab⟩;clear ac I ab Y;go_wp2_with fail
 go_loopw [14] (λi wr=> ∃k:Nat,k<=n/\i=vI k/\WR wr c.heap.size B (f++As n++(l.take k).flatMap Bp)/\Below c.heap.size w wr/\keepW w wr) (λi _=>n - (intOf i).toNat)
 case atStart=>exact⟨0,Nat.zero_le _,rfl,by simpa using W.o.1,W.o.2⟩
 case round=>
  obtain⟨k,y,rfl,L,u,Q⟩:=hrel;by_cases R:k<n
  ·obtain⟨b,al,e,D,F,G,s,H⟩:=z.o.1 k (by rw[z.o.2.1];exact R);subst e;have aa:=A.o.trans u;have zz:=lk5 aa D F G s H;clear D F G s H;obtain⟨D,F,G,s,H⟩:=zz;have aj:=V.o k;have K:=O.o k R;unfold EM.val at K;unfold hdV at K s;have U:Ϣ ((l.take (k+1)).flatMap Bp=(l.take k).flatMap Bp++Bp (l.getD k ϰ)):=M.o k R;obtain⟨E,p⟩:=nM (Bp (l.getD k ϰ));rw[p]at K U;obtain⟨X,Z⟩:=nM (m.getD k ϰ);rw[Z]at K D F G s H;have KH:Ϣ (∀d j,ϣ c d->WR d c.heap.size B j->WP d C B->j.length<=9000000000000->CT 178 #[.agg #[.string X.key,vI X.time,vI X.seq,vS X.row.1 X.row.2.1 X.row.2.2,.bool X.met],ω C] d (WO c.heap.size B d (j++E))):=K;have q:Ϣ (WR wr c.heap.size B (f++As n++(l.take k).flatMap Bp)/\Below c.heap.size w wr/\keepW w wr):=⟨L,u,Q⟩;have ak:=u.size;have i1:=nn0 k;have i2:(k:Int)<(n:Int):=Ϥ;clear K p Z L u Q aa O z N M;go_wp2_with fail;have t:ϣ wr (ϊ wr #[.string X.key,vI X.time,vI X.seq,vS X.row.1 X.row.2.1 X.row.2.2,.bool X.met] 166):=ϯ;refine(KH.o _ _ ((A.o.trans q.o.2.1).trans (t.mono (by have:=A.o.size;omega))) (q.o.1.below t) ((HC.o.keep q.o.2.2).below t) (by simp only[lAp,Am];omega)).mono ?_;rintro e w2 ⟨rfl,ai,ad,af⟩;go_wp2;go_roundw;exact⟨k+1,Ϥ,by go_num,by rw[U.o,<-append_assoc];exact ai,q.o.2.1.trans ((t.mono (by have:=A.o.size;omega)).trans ad),q.o.2.2.trans ((keepW.of t).trans af)⟩;simp[intOf];omega
  ·have ag:k=n:=Ϥ;subst ag;have i2:¬((k:Int)<(k:Int)):=Ϥ;rw[T.o]at L;go_wp2
   go_end0
   exact⟨rfl,L,u,Q⟩
end cd
namespace jn
open vl bf
theorem evs5{w:Ϡ}{b:Nat}{d f h j:ϡ}(k:Δ w b 0 (vI 1))(l:Δ w b 1 (vI 1))(A:Δ w b 2 (vI 1))(D:Δ w b 3 (vS d 2 2))
 (c4:Δ w b 4 (vI 1)) (E:Δ w b 5 (vI 2)) (F:Δ w b 6 (vI 2)) (G:Δ w b 7 (vS f 2 2))
 (H:Δ w b 8 (vI 2)) (I:Δ w b 9 (vI 1)) (m:Δ w b 10 (vI 4)) (n:Δ w b 11 (vS none 0 0))
 (p:Δ w b 12 (vI 1)) (q:Δ w b 13 (vI 1)) (s:Δ w b 14 (vI 4)) (t:Δ w b 15 (vS h 2 2))
 (u:Δ w b 16 (vI 1)) (x:Δ w b 17 (vI 1)) (y:Δ w b 18 (vI 5)) (z:Δ w b 19 (vS j 2 2))
 (h1:vl.rowAt w d (rw2 7 1)) (J:vl.rowAt w f (rw2 7 2)) (K:vl.rowAt w h (rw2 7 3)) (L:vl.rowAt w j (rw2 7 4)):Lf w (ϋ b) JP [(d,2),(f,2),(none,0),(h,2),(j,2)]:=by
 intro i a
 match i,a with
 |0,_=>exact⟨b,0,rfl,k,l,A,D,h1,Ej ϥ ϥ,ϥ⟩
 |1,_=>exact⟨b,0,rfl,c4,E,F,G,J,Ej ϥ ϥ,ϥ⟩
 |2,_=>exact⟨b,0,rfl,H,I,m,n,λi a=>absurd a (Nat.not_lt_zero i),λc M=>absurd M not_mem_nil,ϥ⟩
 |3,_=>exact⟨b,0,rfl,p,q,s,t,K,Ej ϥ ϥ,ϥ⟩
 |4,_=>exact⟨b,0,rfl,u,x,y,z,L,Ej ϥ ϥ,ϥ⟩
theorem Yt(w:Ϡ):χ 24 #[] w λe w'=>(∃b H,e= .returned (vS (ϋ b) 5 5)/\Lf w' (ϋ b) JP H)/\ϣ w w':=by
 go_enter func24,ntmps24;go_wp2_with fail;refine(pl.Hs _ _ _).mono ?_;rintro e F ⟨⟨z,rfl,i⟩,u⟩;have n:=hV0 i;clear i;go_wp2_with fail;refine(pl.Hs _ _ _).mono ?_;rintro e G ⟨⟨A,rfl,j⟩,x⟩;have p:=hV0 j;clear j;go_wp2_with fail;refine(pl.Hs _ _ _).mono ?_;rintro e I ⟨⟨D,rfl,k⟩,y⟩;have q:=hV0 k;clear k;go_wp2_with fail;refine(pl.Hs _ _ _).mono ?_;rintro e w4 ⟨⟨E,rfl,l⟩,h⟩;have s:=hV0 l;clear l;have f:ϣ G w4:=bT y h;have d:ϣ F w4:=bT x f;have t:ϣ w w4:=bT u d;go_wp2;generalize a:(World.alloc w4 _)=W;have c:ϣ w4 W:=by rw[<-a];exact ϯ
 have m:Ϣ (Lf W (ϋ w4) JP [(z,2),(A,2),(none,0),(D,2),(E,2)]):=evs5 (by subst a;go_simp) (by subst a;go_simp) (by subst a;go_simp) (by subst a;go_simp) (by subst a;go_simp) (by subst a;go_simp) (by subst a;go_simp) (by subst a;go_simp) (by subst a;go_simp) (by subst a;go_simp) (by subst a;go_simp) (by subst a;go_simp) (by subst a;go_simp) (by subst a;go_simp) (by subst a;go_simp) (by subst a;go_simp) (by subst a;go_simp) (by subst a;go_simp) (by subst a;go_simp) (by subst a;go_simp)
  (vl.Ac n.o (bT d c)) (vl.Ac p.o (bT f c)) (vl.Ac q.o (bT h c)) (vl.Ac s.o c)
 clear a;go_ret;exact⟨⟨_,_,rfl,m.o⟩,bT t c⟩
theorem Ad0(n:Nat):Bq (bt.D3 n):=λc a=>by
 rw[eq_of_mem_replicate a];exact⟨ϥ,ϥ⟩
theorem Afd{a b:List Cel}(ha:Bq a)(d:Bq b):Bq (a++b):=λc f=>(mem_append.1 f).elim (ha c) (d c)
end jn
end Go.Proofs.YtfkihidbnfkbaaaGreatDoor
