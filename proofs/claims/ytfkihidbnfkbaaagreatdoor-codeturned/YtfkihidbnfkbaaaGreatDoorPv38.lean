import Derived.Test.YtfkihidbnfkbaaaGreatDoorPv36
set_option linter.all false
set_option maxHeartbeats 4000000
set_option maxRecDepth 100000
open Go.ChangeShapes Go.WideShapes Go.ChangeAt Go.RowKit List
open Inhabited renaming default->ϰ
namespace Go.Proofs.YtfkihidbnfkbaaaGreatDoor
open Go.Proofs.Tryz
namespace cd
open vl bf
variable {B C D N R g o : Nat} {w w' : Ϙ} {s : List UInt8} {e : TypeId} {v : Value} {r : List Cel} {x : Ent} {vs : List Value} {l : List Ent}
def WO(base B:Nat)(w:World)(bs:List UInt8)(e:Ending)(w':World):Prop:=e= .returned (.tuple #[])/\WR w' base B bs/\Below base w w'/\keepW w w'
theorem Ht(s:List UInt8):(txt s).length=8+s.length:=by unfold txt;rw[lAp,Az]
theorem Q7(base B:Nat)(b:List UInt8)(s:ByteArray)(w:Ϙ)(d:base<=w.heap.size)(h:WR w base B b)(u:b.length+s.size<=99999000):
 η 113 #[μ B,.string s] w (WO base B w (b++txt s.data.toList)):=by
 have f:Ϛ (CT 60 #[μ B,vI s.size] w (WO base B w (b++A2 s.size))):=C7 base B b s.size w d h Ϝ;have i:Ϛ (∀a,Below base w a->WR a base B (b++A2 s.size)->CT 185 #[μ B,.string s] a (WO base B a (b++A2 s.size++s.data.toList))):=λa c j=>YC base B _ s a (Nat.le_trans d c.size) j (by rw[lAp,Az];omega) Ϝ;have t:=h.lt;clear h;unfold txt;rw[AE];go_enter func113,ntmps113;go_wp2_with fail;refine f.o.mono ?_;rintro e a ⟨rfl,p,c,m⟩;go_wp2_with fail;refine(i.o a c p).mono ?_;rintro e y ⟨rfl,q,k,n⟩;go_wp2
 go_end0
 exact⟨rfl,by rw[<-append_assoc];exact q,c.trans k,m.trans n⟩
def Cp(r:List Cel):List UInt8:=txt (encR r)
theorem IM(base B:Nat)(c:List UInt8)(a:ϙ)(cap:Nat)(r:List Cel)(w:Ϙ)(j:base<=w.heap.size)(h:WR w base B c)(E:c.length<=99990000)(m:vl.rowAt w a r)(p:Cb r)(F:r.length<=8)(f:AD r=0):
 η 59 #[μ B,vS a r.length cap] w (WO base B w (c++Cp r)):=by
 have i:Ϛ (CT 112 #[vS a r.length cap] w (θ w (.tuple #[.string ⟨(encR r).toArray⟩,ω]))):=by
  have:=Ja a cap r w m p Ϝ;unfold EI at this;rw[if_pos f,f]at this;exact this
 have A:(encR r).length<=1048:=by
  have:=DC r (GM (by have:=f;unfold AD at this;rw[if_neg Ϝ]at this;exact this));omega
 have q:Ϛ (∀b,ϛ w b->CT 113 #[μ B,.string ⟨(encR r).toArray⟩] b (WO base B b (c++Cp r))):=λb d=>Q7 base B c ⟨(encR r).toArray⟩ b (Nat.le_trans j d.size) (h.below d) (by show c.length+(encR r).toArray.size<=_;rw[size_toArray];omega);have z:=h.lt;obtain⟨n,k⟩:=nM r.length;rw[k]at i⊢;clear h m p k;go_enter func59,ntmps59;go_wp2_with fail;refine i.o.mono ?_;rintro e b ⟨rfl,d⟩;go_wp2_with fail;refine(q.o b d).mono ?_;rintro e G ⟨rfl,y,t,u⟩;go_wp2
 go_end0
 exact⟨rfl,y,(d.mono j).trans t,(keepW.of d).trans u⟩
def Cu(b:Bool):List UInt8:=A2 (if b then 1 else 0)
theorem XN(base B:Nat)(a:List UInt8)(is:Bool)(w:Ϙ)(c:base<=w.heap.size)(h:WR w base B a)(i:a.length<=100000000):
 η 243 #[μ B,.bool is] w (WO base B w (a++Cu is)):=by
 have b:=hIz (λn=>C7 base B a n w c h Ϝ);clear h i
 cases is
 all_goals
  go_enter func243,ntmps243;go_wp2_with fail;refine(b.o _).mono ?_;rintro e k ⟨rfl,j,d,f⟩;go_wp2
  go_end0
  exact⟨rfl,j,d,f⟩
structure RR(w:World)(R:Nat)(s:List UInt8):Prop where
 cell:Δ w R 0 (.string ⟨s.toArray⟩)
 frz:Ξ w R 0
 tb:Ae w R 124
def Ah(R:Nat)(w w':World):Prop:=Below 0 w w'/\∀g,g<w.heap.size->g≠R->w'.heap[g]? =w.heap[g]?
theorem Ah.refl(R:Nat)(w:Ϙ):Ah R w w:=⟨bR,λ_ _ _=>rfl⟩
theorem Ah.trans{a b c:Ϙ}(h:Ah R a b)(k:Ah R b c):Ah R a c:=⟨h.1.trans k.1,λg f d=>(k.2 g (Nat.lt_of_lt_of_le f h.1.size) d).trans (h.2 g f d)⟩
theorem Ah.of(h:ϛ w w'):Ah R w w':=⟨h.mono (Nat.zero_le _),λg a _=>h.block g a⟩
theorem Ah.below{n:Nat}(h:Ah R w w')(b:n<=R)(c:n<=w.heap.size):Below n w w':=⟨h.1.os,h.1.tape,h.1.output,h.1.size,λk a=>h.2 k Ϝ Ϝ⟩
theorem RR.below(h:RR w R s)(b:ϛ w w'):RR w' R s:=
 ⟨cLz b h.cell,(World.frozen?_of_block (w:=w) (a:=⟨R,0,none⟩) (b.block R (A6 h.tb))).trans h.frz,Ad h.tb b⟩
theorem RR.lt(h:RR w R s):R<w.heap.size:=A6 h.tb
theorem RR.put{t:List UInt8}(h:RR w R s):RR (φ w R 0 (.string ⟨t.toArray⟩)) R t/\Ah R w (φ w R 0 (.string ⟨t.toArray⟩)):=
 ⟨⟨World.cell?_setCell_same' _ _ _ (by rw[h.cell];rfl),by rw[World.frozen?_setCell];exact h.frz,Ai h.tb _ _⟩,(Below.refl 0 w).setCell (Nat.zero_le _) _,λg b a=>heap_setCell_other _ _ _ _ a⟩
theorem EO(R:Nat)(a:Bool)(w:Ϙ)(h:a=true):η 139 #[μ R,.bool a] w λe w'=>e= .returned (.tuple #[])/\w'=w:=by
 subst h;go_enter func139,ntmps139;go_wp2
 go_end0
 exact⟨rfl,rfl⟩
theorem Z0(a b:List UInt8):(⟨(a++b).toArray⟩:ByteArray).extract 0 a.length=⟨a.toArray⟩:=by
 apply ByteArray.ext;rw[ByteArray.data_extract];simp
theorem XO(a b:List UInt8):(⟨(a++b).toArray⟩:ByteArray).extract a.length (a.length+b.length)=⟨b.toArray⟩:=by
 apply ByteArray.ext;rw[ByteArray.data_extract];simp
theorem size_mk(l:List UInt8):(⟨l.toArray⟩:ByteArray).size=l.length:=size_toArray
theorem Q8(R n:Nat)(a b:List UInt8)(w:Ϙ)(h:RR w R (a++b))(d:a.length=n)(y:a.length+b.length<=100000000):
 η 147 #[μ R,vI n] w λe w'=>e= .returned (.string ⟨a.toArray⟩)/\RR w' R b/\Ah R w w':=by
 have m:=hIz (λi (j:Ϙ) (h:i=true)=>EO R i j h);have k:=hqz h;have t:=h.cell;have u:=h.frz;obtain⟨s,c⟩:=nM (⟨(a++b).toArray⟩:ByteArray);have z:s.size=n+b.length:=by rw[<-c,size_mk,lAp,d]
 have f:=hqz c;rw[c]at t;clear h c;go_enter func147,ntmps147;go_wp2_with (go_at_call 139;refine(m.o _ _ ϣ).mono ?_;rintro e j ⟨rfl,rfl⟩);have p:s.extract 0 n=⟨a.toArray⟩:=by rw[<-f.o,<-d];exact Z0 a b
 have q:s.extract n (n+b.length)=⟨b.toArray⟩:=by rw[<-f.o,<-d];exact XO a b
 rw[p,q];go_ret;exact⟨rfl,k.o.put⟩
def Z1(u:Nat):Int:=if u<9223372036854775808 then u else(u:Int) - 18446744073709551616
theorem XP(n:Int)(a: -9223372036854775808<=n)(b:n<=9223372036854775807):Z1 (u64 n)=n:=by
 unfold Z1 u64;split<;>omega
theorem Vk(u:Nat)(h:u<18446744073709551616):wrap64 (u:Int)=Z1 u:=by
 unfold Z1 wrap64;split<;>omega
theorem XQ(n:Int):Ba (A2 n)=u64 n:=FG _ (by have:=Rp n;omega)
theorem BN(R:Nat)(n:Int)(b:List UInt8)(w:Ϙ)(h:RR w R (A2 n++b))(j: -9223372036854775808<=n/\n<=9223372036854775807)(I:b.length<=90000000):
 η 82 #[μ R] w λe w'=>e= .returned (vI n)/\RR w' R b/\Ah R w w':=by
 have f:Ϛ (CT 147 #[μ R,vI 8] w λe w'=>e= .returned (.string ⟨(A2 n).toArray⟩)/\RR w' R b/\Ah R w w'):=Q8 R 8 (A2 n) b w h (Az n) (by rw[Az];omega);obtain⟨l,a⟩:=nM (A2 n);have G:l.length=8:=by rw[<-a];exact Az n
 have q:Ϛ (wrap64 ((Ba (l.take 8):Nat):Int)=n):=by
  show _=_;rw[take_of_length_le Ϝ,<-a,XQ,Vk _ (by have:=Rp n;omega),XP n j.1 j.2]
 rw[a]at f;obtain⟨s,c⟩:=nM (⟨l.toArray⟩:ByteArray);have P:s.size=8:=by rw[<-c,size_mk,G]
 have p:Ϛ (s.data.toList=l):=by show _=_;rw[<-c]
 rw[c]at f;clear h a c j I;go_enter func82,ntmps82;go_wp2_with fail;refine f.o.mono ?_;rintro e K ⟨rfl,J,F⟩;go_wp2_with fail
 go_loopw [3,5,10] (λu t i wr=> ∃k:Nat,k<=8/\i=vI k/\u= .int .u64 (Ba (l.take k):Nat)/\wr=K) (λ_ _ i _=>8 - (intOf i).toNat)
 case atStart=>exact⟨0,Ϝ,rfl,by simp[Ba],rfl⟩
 case round=>
  obtain⟨k,M,rfl,rfl,rfl⟩:=hrel;obtain⟨u,m⟩:∃u,Ba (l.take k)=u:=⟨_,rfl⟩;have d:=hqz m;rw[m];clear m;by_cases O:k<8
  ·have H:k<s.size:=Ϝ;have y:Ϛ (u<72057594037927936):=by
    show u<72057594037927936;have A:=Fg (l.take k);rw[d.o,length_take]at A;have L:256 ^ (min k l.length)<=256 ^ 7:=Nat.pow_le_pow_right Ϝ Ϝ;omega
   have z:Ϛ (Ba (l.take (k+1))=u * 256+s[k].toNat):=by
    show Ba (l.take (k+1))=_;rw[<-p.o,FE s k H,Mh,p.o,d.o]
   go_wp2;go_roundw
   case rel=>exact⟨k+1,Ϝ,by go_num,by rw[z.o,Te u s[k].toNat y.o s[k].toNat_lt],trivial⟩
   case measure=>simp[intOf];omega
  ·have E:k=8:=Ϝ;subst E;rw[d.o]at q;go_wp2;go_ret;exact⟨Am q.o,J,F⟩
theorem Z2(s b:List UInt8):txt s++b=A2 s.length++(s++b):=by unfold txt;rw[append_assoc]
theorem NN(R:Nat)(s b:List UInt8)(w:Ϙ)(h:RR w R (txt s++b))(q:s.length+b.length<=80000000):
 η 146 #[μ R] w λe w'=>e= .returned (.string ⟨s.toArray⟩)/\RR w' R b/\Ah R w w':=by
 rw[Z2]at h;have c:Ϛ (CT 82 #[μ R] w λe w'=>e= .returned (vI s.length)/\RR w' R (s++b)/\Ah R w w'):=BN R s.length (s++b) w h Ϝ (by rw[lAp];omega);have d:=hIz (λ(a:Ϙ) (i:RR a R (s++b))=>Q8 R s.length s b a i rfl Ϝ);obtain⟨n,f⟩:=nM s.length;rw[f]at c d;clear h f;go_enter func146,ntmps146;go_wp2_with fail;refine c.o.mono ?_;rintro e a ⟨rfl,m,j⟩;go_wp2_with fail;refine(d.o a m).mono ?_;rintro e t ⟨rfl,p,k⟩;go_wp2;go_ret;exact⟨rfl,p,j.trans k⟩
def CW(w:World)(g:Nat)(e:TypeId)(o:Nat)(v:Value):Prop:=Ae w g e/\Δ w g o v
theorem CW.keep(h:CW w g e o v)(d:keepW w w')(b:e≠5)(c:e≠64):CW w' g e o v:=
 ⟨Ao h.1 (d.2 g e h.1 b c),(cOb (w:=w) (a:=⟨g,o,none⟩) (d.2 g e h.1 b c)).trans h.2⟩
theorem CW.below(h:CW w g e o v)(a:ϛ w w'):CW w' g e o v:=⟨Ad h.1 a,cLz a h.2⟩
def B5(x:Ent):List UInt8:=txt x.key.data.toList++A2 x.time++A2 x.seq++Cp x.row++Cu x.met
structure okW(x:Ent):Prop where
 key:x.key.size<=2000
 row:Cb x.row
 len:x.row.length<=8
 err:AD x.row=0
theorem XR(b:r.length<=8)(a:AD r=0):(encR r).length<=1048:=by
 have:=DC r (GM (by have:=a;unfold AD at this;rw[if_neg Ϝ]at this;exact this));omega
theorem Hu(b:r.length<=8)(a:AD r=0):(Cp r).length<=1056:=by
 unfold Cp;rw[Ht];have:=XR b a;omega
theorem Ee(b:Bool):(Cu b).length=8:=Az _
theorem Vl(h:okW x):(B5 x).length<=4000:=by
 have a:=Hu h.len h.err;have b:=h.key;unfold B5;simp only[lAp,Ht,Az,Ee,AE];omega
theorem Vm(a:Ϙ)(B:Nat)(f:List UInt8)(e:EM)(x:Ent)(w:Ϙ)(Q:ϛ a w)(h:WR w a.heap.size B f)(he:ER a e x)(i:okW x)(hl:f.length<=90000000):
 η 179 #[μ B,e.val] w (WO a.heap.size B w (f++B5 x)):=by
 obtain⟨k1,t1,s1,⟨y,b1,z⟩,m1⟩:=e;obtain⟨I,J,K,L,M,A⟩:=he;dsimp only at I J K L M A;subst I J K L M;have H:=hIz (λ(b:Ϙ) (j:WR b a.heap.size B f) (d:a.heap.size<=b.heap.size)=>Q7 a.heap.size B f x.key b d j (by have:=i.key;omega));have G:=hIz (λ(b:Ϙ) c n (j:WR b a.heap.size B c) (af:c.length<=90010000) (d:a.heap.size<=b.heap.size)=>C7 a.heap.size B c n b d j Ϝ);have u:=hIz (λ(b:Ϙ) c (j:WR b a.heap.size B c) (af:c.length<=90010000) (d:ϛ a b)=>IM a.heap.size B c y z x.row b d.size j Ϝ (vl.Ac A d) i.row i.len i.err);have KF:=hIz (λ(b:Ϙ) c (j:WR b a.heap.size B c) (af:c.length<=90010000) (d:a.heap.size<=b.heap.size)=>XN a.heap.size B c x.met b d j Ϝ);have HR:=Hu i.len i.err;have HK:=i.key;have F:=Ht x.key.data.toList;rw[AE]at F;have E:Ϛ (f++B5 x=f++txt x.key.data.toList++A2 x.time++A2 x.seq++Cp x.row++Cu x.met):=by
  show _=_;unfold B5;simp only[append_assoc]
 rw[E.o];obtain⟨T,P⟩:=nM (txt x.key.data.toList);rw[P]at H F⊢;obtain⟨R,O⟩:=nM (Cp x.row);rw[O]at u HR⊢;obtain⟨n,hn⟩:=nM x.row.length;show Calls Tryz.prog _ #[_,.agg #[.string x.key,vI x.time,vI x.seq,vS y x.row.length z,.bool x.met]] w _;rw[hn]at u⊢;clear P O hn A i E;go_enter func179,ntmps179;go_wp2_with fail;generalize p:(World.alloc w _)=V;have q:ϛ w V:=by rw[<-p];exact ϧ
 have k:Ae V w 166:=by subst p;exact⟨_,_,World.alloc_heap_new _ _⟩
 have m:Ϛ (CW V w.heap.size 166 0 (.string x.key)/\CW V w.heap.size 166 1 (vI x.time)/\CW V w.heap.size 166 2 (vI x.seq)/\CW V w.heap.size 166 3 (vS y n z)/\CW V w.heap.size 166 4 (.bool x.met)):=by
  refine⟨⟨k,?_⟩,⟨k,?_⟩,⟨k,?_⟩,⟨k,?_⟩,⟨k,?_⟩⟩<;>(subst p;go_simp)
 have t:Ϛ (keepW w V/\Below a.heap.size w V):=⟨keepW.of q,q.mono Q.size⟩;have S:ϛ a V:=Q.trans t.o.2;have an:WR V a.heap.size B f:=h.below q;clear p q k h;have c0:=m.o.1.2;refine(H.o V an S.size).mono ?_;rintro e b ⟨rfl,ao,d,ae⟩;have ag:=(m.o.2.1.keep ae ϝ ϝ).2;clear c0;have U:=S.trans d;go_wp2_with fail;refine(G.o b _ _ ao (by rw[lAp];omega) U.size).mono ?_;rintro e w2 ⟨rfl,ap,Y,aj⟩;have ab:=ae.trans aj;have c2:=(m.o.2.2.1.keep ab ϝ ϝ).2;clear ag;have W:=U.trans Y;go_wp2_with fail;refine(G.o w2 _ _ ap (by simp only[lAp,Az];omega) W.size).mono ?_;rintro e w3 ⟨rfl,aq,Z,ak⟩;have ac:=ab.trans ak;have c3:=(m.o.2.2.2.1.keep ac ϝ ϝ).2;clear c2;have X:=W.trans Z;go_wp2_with fail;refine(u.o w3 _ aq (by simp only[lAp,Az];omega) X).mono ?_;rintro e w4 ⟨rfl,ar,aa,al⟩;have ad:=ac.trans al;have c4:=(m.o.2.2.2.2.keep ad ϝ ϝ).2;clear c3;have ah:=X.trans aa;go_wp2_with fail;refine(KF.o w4 _ ar (by simp only[lAp,Az];omega) ah.size).mono ?_;rintro e w5 ⟨rfl,au,ai,am⟩;go_wp2
 go_end0
 exact⟨rfl,au,t.o.2.trans (d.trans (Y.trans (Z.trans (aa.trans ai)))),t.o.1.trans (ad.trans am)⟩
structure SB(w:World)(N:Nat)(vs:List Value):Prop where
 cell:∀j v,vs[j]? =some v->Δ w N j v
 frz:∀j,Ξ w N j
 lt:N<w.heap.size
theorem SB.new(w:Ϙ)(vs:List Value)(t:TypeId):SB (w.alloc (.cells vs.toArray t)) w.heap.size vs:=
 ⟨λj v h=>by rw[World.cell?_alloc_new];simpa using h,λj=>by go_simp,Ϟ⟩
theorem SB.same(h:SB w N vs)(b:w'.heap[N]? =w.heap[N]?)(c:w.heap.size<=w'.heap.size):SB w' N vs:=
 ⟨λj v d=>(cOb (w:=w) (a:=⟨N,j,none⟩) b).trans (h.cell j v d),λj=>(World.frozen?_of_block (w:=w) (a:=⟨N,j,none⟩) b).trans (h.frz j),Nat.lt_of_lt_of_le h.lt c⟩
theorem SB.below(h:SB w N vs)(a:ϛ w w'):SB w' N vs:=h.same (a.block N h.lt) a.size
theorem SB.keep(h:SB w N vs)(a:Ah R w w')(b:N≠R):SB w' N vs:=h.same (a.2 N h.lt b) a.1.size
theorem SB.set(h:SB w N vs)(j:Nat)(v:Value)(b:j<vs.length):SB (φ w N j v) N (vs.set j v):=by
 refine⟨λi u a=>?_,λi=>by rw[World.frozen?_setCell];exact h.frz i,by simpa using h.lt⟩;by_cases e:j=i
 ·subst e;have c:=h.cell j _ (gEe b);rw[World.cell?_setCell_same' _ _ _ (by rw[c];rfl)];rw[List.getElem?_set_self b]at a;exact a
 ·rw[List.getElem?_set_ne e]at a;rw[World.cell?_setCell_other (h:=λk=>e (by injection k))];exact h.cell i u a
theorem RR.set{j:Nat}(h:RR w R s)(c:N≠R):RR (φ w N j v) R s:=by
 have b:(w.setCell ⟨N,j,none⟩ v).heap[R]? =w.heap[R]? :=heap_setCell_other _ _ _ _ (λe=>c e.symm);exact⟨(cOb (w:=w) (a:=⟨R,0,none⟩) b).trans h.cell,(World.frozen?_of_block (w:=w) (a:=⟨R,0,none⟩) b).trans h.frz,Ao h.tb b⟩
theorem Q9(R:Nat)(r:List Cel)(b:List UInt8)(w:Ϙ)(h:RR w R (Cp r++b))(i:rowOk r)(G:b.length<=70000000):
 η 81 #[μ R] w λe w'=>(∃d f,e= .returned (vS d r.length f)/\AA w' w (vS d r.length f) r)/\RR w' R b/\Ah R w w':=by
 have A:(encR r).length<=1048:=by
  have:=DC r (λc z=>(i.2 c z).1);have:=i.1;omega
 have k:Ϛ (CT 146 #[μ R] w λe w'=>e= .returned (.string ⟨(encR r).toArray⟩)/\RR w' R b/\Ah R w w'):=NN R (encR r) b w h Ϝ;have j:Ϛ (∀a,CT 145 #[.string ⟨(encR r).toArray⟩] a λe w'=>(∃d f,e= .returned (.tuple #[vS d r.length f,ω])/\AA w' a (vS d r.length f) r)/\ϛ a w'):=λa=>Ly ⟨(encR r).toArray⟩ r a (by rw[size_mk];unfold maxLen;omega) i rfl;have y:=hIz (λu (a:Ϙ) (h:u=true)=>EO R u a h);obtain⟨n,q⟩:=nM r.length;rw[q]at j⊢;obtain⟨s,t⟩:=nM (⟨(encR r).toArray⟩:ByteArray);rw[t]at k j;clear h i A q t;go_enter func81,ntmps81;go_wp2_with fail;refine k.o.mono ?_;rintro e a ⟨rfl,F,p⟩;go_wp2_with fail;refine(j.o a).mono ?_;rintro e H ⟨⟨d,f,rfl,E⟩,m⟩;go_wp2_with (go_at_call 139;refine(y.o _ _ Ϟ).mono ?_;rintro e I ⟨rfl,rfl⟩);go_ret;exact⟨⟨d,f,rfl,World.ownsRow.mono E p.1.size⟩,F.below m,p.trans (Ah.of m)⟩
theorem Vn(R:Nat)(m:Bool)(b:List UInt8)(w:Ϙ)(h:RR w R (Cu m++b))(n:b.length<=70000000):
 η 247 #[μ R] w λe w'=>e= .returned (.bool m)/\RR w' R b/\Ah R w w':=by
 have i:=hIz (λj (f:Ϙ) (h:j=true)=>EO R j f h)
 cases m
 ·have a:Ϛ (CT 82 #[μ R] w λe w'=>e= .returned (vI 0)/\RR w' R b/\Ah R w w'):=BN R 0 b w h ϝ Ϝ;clear h;go_enter func247,ntmps247;go_wp2_with fail;refine a.o.mono ?_;rintro e f ⟨rfl,d,c⟩;go_wp2_with (go_at_call 139;refine(i.o _ _ Ϟ).mono ?_;rintro e k ⟨rfl,rfl⟩);go_ret;exact⟨rfl,d,c⟩
 ·have a:Ϛ (CT 82 #[μ R] w λe w'=>e= .returned (vI 1)/\RR w' R b/\Ah R w w'):=BN R 1 b w h ϝ Ϝ;clear h;go_enter func247,ntmps247;go_wp2_with fail;refine a.o.mono ?_;rintro e f ⟨rfl,d,c⟩;go_wp2_with (go_at_call 139;refine(i.o _ _ Ϟ).mono ?_;rintro e k ⟨rfl,rfl⟩);go_ret;exact⟨rfl,d,c⟩
theorem SB.there(h:SB w N vs):w.there N 0 vs.length:=λj a=>by
 rw[Nat.zero_add];exact⟨by rw[h.cell j _ (gEe a)];rfl,h.frz j⟩
theorem Ce{g b:Nat}(h:g≠b):∀(l:List Value) (o:Nat) (w:Ϙ),(w.setCells b o l).heap[g]? =w.heap[g]?
 |[],_,_=>rfl
 |v::l,o,w=>(Ce h l (o+1) _).trans (heap_setCell_other _ _ _ _ h)
theorem RR.sets(h:RR w R s)(c:N≠R)(l:List Value)(o:Nat):RR (w.setCells N o l) R s:=by
 have b:(w.setCells N o l).heap[R]? =w.heap[R]? :=Ce (λe=>c e.symm) l o w;exact⟨(cOb (w:=w) (a:=⟨R,0,none⟩) b).trans h.cell,(World.frozen?_of_block (w:=w) (a:=⟨R,0,none⟩) b).trans h.frz,Ao h.tb b⟩
theorem Ef{W:Ϙ}(h:Ah R w W)(c:w.heap.size<=N)(l:List Value)(o:Nat):Ah R w (W.setCells N o l):=
 ⟨jn.below_setCells (Nat.zero_le _) l o _ h.1,λg b a=>(Ce Ϝ l o W).trans (h.2 g b a)⟩
theorem XS:(Tryz.prog.info? 166).map (·.size)=some 5:=ϟ
structure okR(x:Ent):Prop where
 key:x.key.size<=2000
 row:rowOk x.row
 time: -9223372036854775808<=x.time/\x.time<=9223372036854775807
 seq: -9223372036854775808<=x.seq/\x.seq<=9223372036854775807
theorem okR.few(h:okR x):(Cp x.row).length<=1056/\(encR x.row).length<=1048:=by
 have:=DC x.row (λc a=>(h.row.2 c a).1);have b:=h.row.1;unfold Cp;rw[Ht];omega
theorem Ss(R:Nat)(x:Ent)(b:List UInt8)(w:Ϙ)(h:RR w R (B5 x++b))(J:okR x)(hm:b.length<=60000000):
 η 205 #[μ R] w λe w'=>(∃m:EM,e= .returned m.val/\OR w' w.heap.size m x)/\RR w' R b/\Ah R w w':=by
 have e0:B5 x++b=txt x.key.data.toList++(A2 x.time++(A2 x.seq++(Cp x.row++(Cu x.met++b)))):=by
  unfold B5;simp only[append_assoc]
 rw[e0]at h;have hf:=J.few;have d:=J.key;have hs:x.key.data.toList.length=x.key.size:=AE x.key;have Y:Ϛ ((Cp x.row).length<=1056/\x.key.size<=2000):=⟨hf.1,d⟩;have K0:Ϛ (∀i,RR i R (txt x.key.data.toList++(A2 x.time++(A2 x.seq++(Cp x.row++(Cu x.met++b)))))->CT 146 #[μ R] i λe w'=>e= .returned (.string x.key)/\RR w' R (A2 x.time++(A2 x.seq++(Cp x.row++(Cu x.met++b))))/\Ah R i w'):=λi y=>NN R x.key.data.toList _ i y (by simp only[lAp,Az,Ee];omega);have K1:=hIz (λ(i:Ϙ) n r (y:RR i R (A2 n++r)) (h2:(-9223372036854775808<=n/\n<=9223372036854775807)) (h3:r.length<=90000000)=>BN R n r i y h2 h3);have K3:Ϛ (∀i,RR i R (Cp x.row++(Cu x.met++b))->CT 81 #[μ R] i λe w'=>(∃j k,e= .returned (vS j x.row.length k)/\AA w' i (vS j x.row.length k) x.row)/\RR w' R (Cu x.met++b)/\Ah R i w'):=λi y=>Q9 R x.row _ i y J.row (by simp only[lAp,Ee];omega);have K4:=hIz (λ(i:Ϙ) (y:RR i R (Cu x.met++b))=>Vn R x.met b i y Ϝ);have Z:Ϛ ((-9223372036854775808<=x.time/\x.time<=9223372036854775807)/\(-9223372036854775808<=x.seq/\x.seq<=9223372036854775807)):=⟨J.time,J.seq⟩;have z:=h.lt;obtain⟨n,W⟩:=nM x.row.length;have HN:=hqz W;rw[W]at K3;have E:=hqz h;clear h J hf d hs W e0;go_enter func205,ntmps205;go_wp2_with fail;generalize S:(World.alloc (World.alloc w _) _)=V;have U:ϛ w V:=by rw[<-S];exact ϧ.alloc Ϟ _
 have p:Ϛ (SB V w.heap.size [ϊ,ω,ω,ψ,ϋ]):=by
  subst S;exact(SB.new w [ϊ,ω,ω,ψ,ϋ] 166).below ϧ
 have c:Ϛ (SB V (w.heap.size+1) [ϊ,ω,ω,ψ,ϋ]):=by
  subst S;have:=SB.new (ξ w #[ϊ,ω,ω,ψ,ϋ] 166) [ϊ,ω,ω,ψ,ϋ] 166;rw[World.size_alloc]at this;exact this
 have a:Ϛ (Ah R w V/\RR V R (txt x.key.data.toList++(A2 x.time++(A2 x.seq++(Cp x.row++(Cu x.met++b)))))):=⟨Ah.of U,E.o.below U⟩;clear S U E;refine(K0.o V a.o.2).mono ?_;rintro o i ⟨rfl,t,d⟩;replace p:Ϛ (SB i w.heap.size [ϊ,ω,ω,ψ,ϋ]):=p.o.keep d Ϝ;replace c:Ϛ (SB i (w.heap.size+1) [ϊ,ω,ω,ψ,ϋ]):=c.o.keep d Ϝ;replace a:Ϛ (Ah R w i/\RR i R (A2 x.time++(A2 x.seq++(Cp x.row++(Cu x.met++b))))):=⟨a.o.1.trans d,t⟩;have F:=c.o.cell 0 _ rfl;have G:=c.o.frz 0;clear t d;go_wp2_with fail;generalize f:World.setCell i _ _=L;replace p:Ϛ (SB L w.heap.size [ϊ,ω,ω,ψ,ϋ]):=by
  subst f;exact p.o.same (heap_setCell_other _ _ _ _ Ϣ) Ϟ
 replace c:Ϛ (SB L (w.heap.size+1) [.string x.key,ω,ω,ψ,ϋ]):=by
  subst f;exact c.o.set 0 _ Ϟ
 replace a:Ϛ (Ah R w L/\RR L R (A2 x.time++(A2 x.seq++(Cp x.row++(Cu x.met++b))))):=by
  subst f;exact⟨⟨a.o.1.1.setCell (Nat.zero_le _) _,λg q z=>(heap_setCell_other _ _ _ _ Ϣ).trans (a.o.1.2 g q z)⟩,a.o.2.set Ϝ⟩
 clear F G f;refine(K1.o L x.time _ a.o.2 Z.o.1 (by have:=Y.o;simp only[lAp,Az,Ee];omega)).mono ?_;rintro o O ⟨rfl,t,d⟩;replace p:Ϛ (SB O w.heap.size [ϊ,ω,ω,ψ,ϋ]):=p.o.keep d Ϝ;replace c:Ϛ (SB O (w.heap.size+1) [.string x.key,ω,ω,ψ,ϋ]):=c.o.keep d Ϝ;replace a:Ϛ (Ah R w O/\RR O R (A2 x.seq++(Cp x.row++(Cu x.met++b)))):=⟨a.o.1.trans d,t⟩;have F:=c.o.cell 1 _ rfl;have G:=c.o.frz 1;clear t d;go_wp2_with fail;generalize f:World.setCell O _ _=M;replace p:Ϛ (SB M w.heap.size [ϊ,ω,ω,ψ,ϋ]):=by
  subst f;exact p.o.same (heap_setCell_other _ _ _ _ Ϣ) Ϟ
 replace c:Ϛ (SB M (w.heap.size+1) [.string x.key,vI x.time,ω,ψ,ϋ]):=by
  subst f;exact c.o.set 1 _ Ϟ
 replace a:Ϛ (Ah R w M/\RR M R (A2 x.seq++(Cp x.row++(Cu x.met++b)))):=by
  subst f;exact⟨⟨a.o.1.1.setCell (Nat.zero_le _) _,λg q z=>(heap_setCell_other _ _ _ _ Ϣ).trans (a.o.1.2 g q z)⟩,a.o.2.set Ϝ⟩
 clear F G f;refine(K1.o M x.seq _ a.o.2 Z.o.2 (by have:=Y.o;simp only[lAp,Az,Ee];omega)).mono ?_;rintro o P ⟨rfl,t,d⟩;replace p:Ϛ (SB P w.heap.size [ϊ,ω,ω,ψ,ϋ]):=p.o.keep d Ϝ;replace c:Ϛ (SB P (w.heap.size+1) [.string x.key,vI x.time,ω,ψ,ϋ]):=c.o.keep d Ϝ;replace a:Ϛ (Ah R w P/\RR P R (Cp x.row++(Cu x.met++b))):=⟨a.o.1.trans d,t⟩;have F:=c.o.cell 2 _ rfl;have G:=c.o.frz 2;clear t d;go_wp2_with fail;generalize f:World.setCell P _ _=H;replace p:Ϛ (SB H w.heap.size [ϊ,ω,ω,ψ,ϋ]):=by
  subst f;exact p.o.same (heap_setCell_other _ _ _ _ Ϣ) Ϟ
 replace c:Ϛ (SB H (w.heap.size+1) [.string x.key,vI x.time,vI x.seq,ψ,ϋ]):=by
  subst f;exact c.o.set 2 _ Ϟ
 replace a:Ϛ (Ah R w H/\RR H R (Cp x.row++(Cu x.met++b))):=by
  subst f;exact⟨⟨a.o.1.1.setCell (Nat.zero_le _) _,λg q z=>(heap_setCell_other _ _ _ _ Ϣ).trans (a.o.1.2 g q z)⟩,a.o.2.set Ϝ⟩
 have ab:w.heap.size+1<H.heap.size:=c.o.lt;clear F G f;refine(K3.o H a.o.2).mono ?_;rintro o w4 ⟨⟨j,k,rfl,X⟩,t,d⟩;replace p:Ϛ (SB w4 w.heap.size [ϊ,ω,ω,ψ,ϋ]):=p.o.keep d Ϝ;replace c:Ϛ (SB w4 (w.heap.size+1) [.string x.key,vI x.time,vI x.seq,ψ,ϋ]):=c.o.keep d Ϝ;replace a:Ϛ (Ah R w w4/\RR w4 R (Cu x.met++b)):=⟨a.o.1.trans d,t⟩;have A:Ϛ (AA w4 w (vS j n k) x.row):=by
  exact World.ownsRow.mono X (by have:=a.o.1.1.size;have:=d.1.size;have:=ab;omega)
 have T:Ϛ ((Value.slice j n k).ownBlock≠some (w.heap.size+1)/\(Value.slice j n k).ownBlock≠some w.heap.size):=by
  have y:=X;exact⟨λe=>by have:=(A5 y e).1;omega,λe=>by have:=(A5 y e).1;omega⟩
 clear X;have F:=c.o.cell 3 _ rfl;have G:=c.o.frz 3;clear t d;go_wp2_with fail;generalize f:World.setCell w4 _ _=I;replace p:Ϛ (SB I w.heap.size [ϊ,ω,ω,ψ,ϋ]):=by
  subst f;exact p.o.same (heap_setCell_other _ _ _ _ Ϣ) Ϟ
 replace c:Ϛ (SB I (w.heap.size+1) [.string x.key,vI x.time,vI x.seq,vS j n k,ϋ]):=by
  subst f;exact c.o.set 3 _ Ϟ
 replace a:Ϛ (Ah R w I/\RR I R (Cu x.met++b)):=by
  subst f;exact⟨⟨a.o.1.1.setCell (Nat.zero_le _) _,λg q z=>(heap_setCell_other _ _ _ _ Ϣ).trans (a.o.1.2 g q z)⟩,a.o.2.set Ϝ⟩
 replace A:Ϛ (AA I w (vS j n k) x.row):=by
  subst f;exact As A.o (λg q=>heap_setCell_other _ _ _ _ (λe=>T.o.1 (q.trans (congrArg some e))))
 clear F G f;refine(K4.o I a.o.2).mono ?_;rintro o K ⟨rfl,t,d⟩;replace p:Ϛ (SB K w.heap.size [ϊ,ω,ω,ψ,ϋ]):=p.o.keep d Ϝ;replace c:Ϛ (SB K (w.heap.size+1) [.string x.key,vI x.time,vI x.seq,vS j n k,ϋ]):=c.o.keep d Ϝ;replace a:Ϛ (Ah R w K/\RR K R (b)):=⟨a.o.1.trans d,t⟩;replace A:Ϛ (AA K w (vS j n k) x.row):=As A.o (λg q=>d.2 g (A5 A.o q).2 (by have:=(A5 A.o q).1;omega));have F:=c.o.cell 4 _ rfl;have G:=c.o.frz 4;clear t d;go_upto_region 7 with fail;generalize f:World.setCell K _ _=u;replace p:Ϛ (SB u w.heap.size [ϊ,ω,ω,ψ,ϋ]):=by
  subst f;exact p.o.same (heap_setCell_other _ _ _ _ Ϣ) Ϟ
 replace c:Ϛ (SB u (w.heap.size+1) [.string x.key,vI x.time,vI x.seq,vS j n k,.bool x.met]):=by
  subst f;exact c.o.set 4 _ Ϟ
 replace a:Ϛ (Ah R w u/\RR u R b):=by
  subst f;exact⟨⟨a.o.1.1.setCell (Nat.zero_le _) _,λg q z=>(heap_setCell_other _ _ _ _ Ϣ).trans (a.o.1.2 g q z)⟩,a.o.2.set Ϝ⟩
 replace A:Ϛ (AA u w (vS j n k) x.row):=by
  subst f;exact As A.o (λg q=>heap_setCell_other _ _ _ _ (λe=>T.o.1 (q.trans (congrArg some e))))
 clear F G f;have d0:=c.o.cell 0 _ rfl;have d1:=c.o.cell 1 _ rfl;have d2:=c.o.cell 2 _ rfl;have d3:=c.o.cell 3 _ rfl;have d4:=c.o.cell 4 _ rfl;have aa:Ϛ (u.there w.heap.size 0 5):=p.o.there;have Q:Ϛ (RR (World.setCells u w.heap.size 0 [.string x.key,vI x.time,vI x.seq,vS j n k,.bool x.met]) R b/\Ah R w (World.setCells u w.heap.size 0 [.string x.key,vI x.time,vI x.seq,vS j n k,.bool x.met])/\AA (World.setCells u w.heap.size 0 [.string x.key,vI x.time,vI x.seq,vS j n k,.bool x.met]) w.heap.size (vS j n k) x.row):=
  ⟨a.o.2.sets Ϝ _ _,Ef a.o.1 nR _ _,As A.o (λg q=>Ce (λe=>T.o.2 (q.trans (congrArg some e))) _ _ _)⟩
 have E:Ϛ ((World.setCells u w.heap.size 0 [.string x.key,vI x.time,vI x.seq,vS j n k,.bool x.met]).rangeAt w.heap.size 0 [.string x.key,vI x.time,vI x.seq,vS j n k,.bool x.met]):=World.rangeAt_setCells_same _ _ _ _ aa.o;go_wp2_with ((with_reducible refine wpList_store_mid ?_ 166 (.tmp 2) (.tmp 19) ?_ w.heap.size 0 #[.string x.key,vI x.time,vI x.seq,vS j n k,.bool x.met] ?_ ?_ ?_ ?_ ?_ ?_);exact rfl;exact rfl;exact rfl;exact rfl;exact aa.o;exact XS;exact ϥ);generalize (World.setCells u w.heap.size 0 [.string x.key,vI x.time,vI x.seq,vS j n k,.bool x.met])=W' at E Q⊢;have z0:=E.o 0 _ rfl;have z1:=E.o 1 _ rfl;have z2:=E.o 2 _ rfl;have z3:=E.o 3 _ rfl;have z4:=E.o 4 _ rfl;simp only[Nat.zero_add]at z0 z1 z2 z3 z4;exact bodyPost_ret (v:=.agg #[.string x.key,vI x.time,vI x.seq,vS j n k,.bool x.met]) (by simp[results,results205,go_sem,z0,z1,z2,z3,z4]) rfl ⟨⟨⟨x.key,x.time,x.seq,(j,n,k),x.met⟩,rfl,⟨rfl,rfl,rfl,rfl,HN.o.symm,Q.o.2.2⟩⟩,Q.o.1,Q.o.2.1⟩
def WP(w:World)(C B:Nat):Prop:=CW w C 66 0 (.pointer (τ B))
theorem WP.keep(h:WP w C B)(a:keepW w w'):WP w' C B:=CW.keep h a ϝ ϝ
theorem WP.below(h:WP w C B)(a:ϛ w w'):WP w' C B:=CW.below h a
theorem Z3(a:Ϙ)(C B:Nat)(b:List UInt8)(e:EM)(x:Ent)(w:Ϙ)(j:ϛ a w)(h:WR w a.heap.size B b)(d:WP w C B)(k:ER a e x)(m:okW x)(p:b.length<=90000000):
 η 178 #[e.val,μ C] w (WO a.heap.size B w (b++B5 x)):=by
 have i:=hIz (λ(f:Ϙ) (c:ϛ w f)=>Vm a B b e x f (bT j c) (h.below c) k m p);have z:=d.2;have y:=A6 d.1;have q:=j.size;unfold EM.val hdV at i⊢;clear k m h d;go_enter func178,ntmps178;go_wp2_with fail;refine(i.o _ ϧ).mono ?_;rintro u f ⟨rfl,t,c,n⟩;go_wp2
 go_end0
 exact⟨rfl,t,(ϧ.mono q).trans c,(keepW.of ϧ).trans n⟩
def AG(l:List Ent):List UInt8:=A2 l.length++l.flatMap B5
theorem MC(h:∀x∈l,okW x):(l.flatMap B5).length<=4000 * l.length:=by
 induction l with
 |nil=>simp
 |cons x l ih=>
  have b:=Vl (h x (mem_cons_self ..));have c:=ih (λy a=>h y (mem_cons_of_mem _ a));rw[flatMap_cons,lAp,length_cons];omega
theorem Kg{α:Type} [Inhabited α](f:α->List UInt8)(l:List α)(k:Nat)(h:k<l.length):(l.take (k+1)).flatMap f=(l.take k).flatMap f++f (l.getD k ϰ):=by
 rw[take_succ_eq_append_getElem h,flatMap_append];simp[gDe,h]
theorem QA(c:Ϙ)(C B:Nat)(f:List UInt8)(a:ϙ)(cap:Nat)(m:List EM)(l:List Ent)(w:Ϙ)(U:ϛ c w)(h:WR w c.heap.size B f)(hc:WP w C B)(ha:C5 c a m)(p:ERs c m l)(Y:∀x∈l,okW x)(hn:l.length<=10000)(hl:f.length+4000 * l.length<=89000000):
 η 180 #[μ B,vS a l.length cap,.func (.func 178) #[] #[μ C]] w (WO c.heap.size B w (f++AG l)):=by
 have KN:=hIz (λn=>C7 c.heap.size B f n w U.size h Ϝ);have A:Ϛ (C5 c a m/\m.length=l.length/\∀i,i<l.length->ER c (m.getD i ϰ) (l.getD i ϰ)):=⟨ha,p.1,p.2⟩;have M:Ϛ (∀i,i<l.length->okW (l.getD i ϰ)):=λi hi=>Y _ (by rw[gDe,gEe hi];exact getElem_mem hi);have HT:Ϛ (∀k,((l.take k).flatMap B5).length<=4000 * l.length):=λk=>by
  have:=MC (l:=l.take k) (λx hx=>Y x (mem_of_mem_take hx));have h2:(l.take k).length<=l.length:=List.length_take_le' ..;omega
 have L:Ϛ (∀k,k<l.length->(l.take (k+1)).flatMap B5=(l.take k).flatMap B5++B5 (l.getD k ϰ)):=λk z=>Kg B5 l k z;have Z:Ϛ (f++A2 l.length++(l.take l.length).flatMap B5=f++AG l):=by
  show _=_;unfold AG;rw[take_length,append_assoc]
 have O:Ϛ (∀k,k<l.length->∀d j,ϛ c d->WR d c.heap.size B j->WP d C B->j.length<=90000000->CT 178 #[(m.getD k ϰ).val,μ C] d (WO c.heap.size B d (j++B5 (l.getD k ϰ)))):=λk z d j H h1 ae ah=>Z3 c C B j _ _ d H h1 ae (p.2 k z) (M.o k z) ah;obtain⟨n,I⟩:=nM l.length;have HN:=hqz I;rw[I]at A M HT L O hl hn⊢;rw[I]at Z;have HC:=hqz hc;have F:=hqz U;clear ha p Y I h hc U;go_enter func180,ntmps180;go_wp2_with fail;refine(KN.o _).mono ?_;rintro e d ⟨rfl,ac,H,ab⟩;have aa:Ϛ (WR d c.heap.size B (f++A2 n)/\Below c.heap.size w d/\keepW w d):=⟨ac,H,ab⟩;clear ac H ab KN;go_wp2_with fail
 go_loopw [14] (λi wr=> ∃k:Nat,k<=n/\i=vI k/\WR wr c.heap.size B (f++A2 n++(l.take k).flatMap B5)/\Below c.heap.size w wr/\keepW w wr) (λi _=>n - (intOf i).toNat)
 case atStart=>exact⟨0,Nat.zero_le _,rfl,by simpa using aa.o.1,aa.o.2⟩
 case round=>
  obtain⟨k,z,rfl,J,y,V⟩:=hrel;by_cases W:k<n
  ·obtain⟨b,al,e,P,Q,S,G,T⟩:=A.o.1 k (by rw[A.o.2.1];exact W);subst e;have q:=F.o.trans y;replace P:=cLz q P;replace Q:=cLz q Q;replace S:=cLz q S;replace G:=cLz q G;replace T:=cLz q T;have aj:=HT.o k;have K:=O.o k W;unfold EM.val at K;unfold hdV at K G;have HS:Ϛ ((l.take (k+1)).flatMap B5=(l.take k).flatMap B5++B5 (l.getD k ϰ)):=L.o k W;obtain⟨E,p⟩:=nM (B5 (l.getD k ϰ));rw[p]at K HS;obtain⟨X,hX⟩:=nM (m.getD k ϰ);rw[hX]at K P Q S G T;have KH:Ϛ (∀d j,ϛ c d->WR d c.heap.size B j->WP d C B->j.length<=90000000->CT 178 #[.agg #[.string X.key,vI X.time,vI X.seq,vS X.row.1 X.row.2.1 X.row.2.2,.bool X.met],μ C] d (WO c.heap.size B d (j++E))):=K;have t:Ϛ (WR wr c.heap.size B (f++A2 n++(l.take k).flatMap B5)/\Below c.heap.size w wr/\keepW w wr):=⟨J,y,V⟩;have ak:=y.size;have i1:(0:Int)<=(k:Int):=Ϝ;have i2:(k:Int)<(n:Int):=Ϝ;clear K p hX J y V q O A M L;go_wp2_with fail;have u:ϛ wr (ξ wr #[.string X.key,vI X.time,vI X.seq,vS X.row.1 X.row.2.1 X.row.2.2,.bool X.met] 166):=ϧ;refine(KH.o _ _ ((F.o.trans t.o.2.1).trans (u.mono (by have:=F.o.size;omega))) (t.o.1.below u) ((HC.o.keep t.o.2.2).below u) (by simp only[lAp,Az];omega)).mono ?_;rintro e w2 ⟨rfl,ai,ad,af⟩;go_wp2;go_roundw
   case rel=>exact⟨k+1,Ϝ,by go_num,by rw[HS.o,<-append_assoc];exact ai,t.o.2.1.trans ((u.mono (by have:=F.o.size;omega)).trans ad),t.o.2.2.trans ((keepW.of u).trans af)⟩
   case measure=>simp[intOf];omega
  ·have ag:k=n:=Ϝ;subst ag;have i2:¬((k:Int)<(k:Int)):=Ϝ;rw[Z.o]at J;go_wp2
   go_end0
   exact⟨rfl,J,y,V⟩
def F1(C:Nat):Value:=.func (.func 178) #[] #[μ C]
def FP(w:World)(D C:Nat):Prop:=CW w D 240 0 (F1 C)
theorem FP.keep(h:FP w D C)(a:keepW w w'):FP w' D C:=CW.keep h a ϝ ϝ
theorem FP.below(h:FP w D C)(a:ϛ w w'):FP w' D C:=CW.below h a
theorem Z4(b:Ϙ)(C D B:Nat)(c:List UInt8)(a:ϙ)(cap:Nat)(f:List EM)(l:List Ent)(w:Ϙ)(u:ϛ b w)(h:WR w b.heap.size B c)(i:WP w C B)(k:FP w D C)(ha:C5 b a f)(j:ERs b f l)(t:∀x∈l,okW x)(p:l.length<=10000)(m:c.length+4000 * l.length<=89000000):
 η 182 #[vS a l.length cap,μ C,μ D] w (WO b.heap.size B w (c++AG l)):=by
 have d:Ϛ (CT 180 #[μ B,vS a l.length cap,F1 C] w (WO b.heap.size B w (c++AG l))):=QA b C B c a cap f l w u h i ha j t p m;have G:=i.2;have z:=k.2;unfold F1 at d z;obtain⟨n,q⟩:=nM l.length;rw[q]at d⊢;clear ha j t h i k q p m;go_enter func182,ntmps182;go_wp2_with fail;refine d.o.mono ?_;rintro F H ⟨rfl,E,y,A⟩;go_wp2
 go_end0
 exact⟨rfl,E,y,A⟩
def C2(l:List (List Ent)):List UInt8:=A2 l.length++l.flatMap AG
theorem Su(h:∀x∈l,okW x):(AG l).length<=8+4000 * l.length:=by
 have:=MC h;unfold AG;rw[lAp,Az];omega
theorem MD{l:List (List Ent)}(h:∀r∈l,∀x∈r,okW x):(l.flatMap AG).length<=8 * l.length+4000 * l.flatten.length:=by
 induction l with
 |nil=>simp
 |cons x l ih=>
  have b:=Su (h x (mem_cons_self ..));have c:=ih (λy a=>h y (mem_cons_of_mem _ a));rw[flatMap_cons,lAp,length_cons,flatten_cons,lAp];omega
theorem FN{α:Type}(l:List (List α))(k:Nat):(l.take k).flatten.length<=l.flatten.length:=by
 have:=congrArg (λz=>z.flatten.length) (take_append_drop k l)
 try dsimp only at this
 rw[flatten_append,lAp]at this;omega
theorem Gm{α:Type}{l:List (List α)}{r:List α}(h:r∈l):r.length<=l.flatten.length:=by
 induction l with
 |nil=>cases h
 |cons x l ih=>
  rw[flatten_cons,lAp];rcases mem_cons.1 h with rfl|h
  ·omega
  ·have:=ih h;omega
theorem XT(c:Ϙ)(C D B:Nat)(q:List UInt8)(a:ϙ)(cap:Nat)(rs:List Part)(l:List (List Ent))(w:Ϙ)(Q:ϛ c w)(h:WR w c.heap.size B q)(hc:WP w C B)(hd:FP w D C)(ha:FL c a (rs.map (·.1)))(ai:∀p∈rs,p.1.2.1=p.2.length)(ag:∀p∈rs,C5 c p.1.1 p.2)(ak:rs.length=l.length)(y:∀i,i<l.length->ERs c (rs.getD i ϰ).2 (l.getD i ϰ))(H:∀r∈l,∀x∈r,okW x)(hn:l.length<=10000)(hf:l.flatten.length<=10000)(hl:q.length<=40000000):
 η 181 #[μ B,vS a l.length cap,.func (.func 182) #[] #[μ C,μ D]] w (WO c.heap.size B w (q++C2 l)):=by
 have KN:=hIz (λn=>C7 c.heap.size B q n w Q.size h Ϝ);have V:∀i,i<l.length->l.getD i ϰ∈l:=λi T=>by rw[gDe,gEe T];exact getElem_mem T
 have W:∀i,i<l.length->rs.getD i ϰ∈rs:=λi T=>by rw[gDe,gEe Ϝ];exact getElem_mem _
 have Y:=hqz ha;have HT:Ϛ (∀k,((l.take k).flatMap AG).length<=40100000):=λk=>by
  have:=MD (l:=l.take k) (λr X=>H r (mem_of_mem_take X));have h2:(l.take k).length<=l.length:=List.length_take_le' ..;have P:=FN l k;omega
 have J:Ϛ (∀k,k<l.length->(l.take (k+1)).flatMap AG=(l.take k).flatMap AG++AG (l.getD k ϰ)):=λk f=>Kg AG l k f;have Z:Ϛ (q++A2 l.length++(l.take l.length).flatMap AG=q++C2 l):=by
  show _=_;unfold C2;rw[take_length,append_assoc]
 have M:Ϛ (∀k,k<l.length->(rs.map (·.1)).getD k (none,0,0)=((rs.getD k ϰ).1.1,(l.getD k ϰ).length,(rs.getD k ϰ).1.2.2)):=λk f=>by
  have e1:(rs.map (·.1)).getD k (none,0,0)=(rs.getD k ϰ).1:=by
   rw[gDe,getElem?_map,gDe,gEe Ϝ];rfl
  rw[e1,<-(y k f).1,<-ai _ (W k f)]
 have O:Ϛ (∀k,k<l.length->∀d j,ϛ c d->WR d c.heap.size B j->WP d C B->FP d D C->j.length<=89000000 - 4000 * 10000+40000000->j.length+4000 * (l.getD k ϰ).length<=89000000->CT 182 #[vS (rs.getD k ϰ).1.1 (l.getD k ϰ).length (rs.getD k ϰ).1.2.2,μ C,μ D] d (WO c.heap.size B d (j++AG (l.getD k ϰ)))):=λk f d j G h1 ao ap ax au=>by
  have S:=Gm (V k f);exact Z4 c C D B j _ _ (rs.getD k ϰ).2 _ d G h1 ao ap (ag _ (W k f)) (y k f) (H _ (V k f)) Ϝ au
 have L:Ϛ (∀k,k<l.length->(l.getD k ϰ).length+((l.take k).flatten.length)<=10000):=λk f=>by
  have P:=FN l (k+1);rw[take_succ_eq_append_getElem f,flatten_append,lAp]at P;have e:l.getD k ϰ=l[k]:=by rw[gDe,gEe f];rfl
  rw[e];simp at P⊢;simp at hf;omega
 have aa:Ϛ (∀k,((l.take k).flatMap AG).length<=80000+4000 * (l.take k).flatten.length):=λk=>by
  have:=MD (l:=l.take k) (λr X=>H r (mem_of_mem_take X));have h2:(l.take k).length<=l.length:=List.length_take_le' ..;omega
 obtain⟨n,F⟩:=nM l.length;have HN:=hqz F;rw[F]at J O hn M L⊢;rw[F]at Z;have HC:Ϛ (WP w C B/\FP w D C):=⟨hc,hd⟩;have HB:=hqz Q;have am:Ϛ (rs.length=n):=ak.trans F;clear ha y H F h hc Q hd ai ag ak V W hf HT;go_enter func181,ntmps181;go_wp2_with fail;refine(KN.o _).mono ?_;rintro e d ⟨rfl,al,G,ah⟩;have ab:Ϛ (WR d c.heap.size B (q++A2 n)/\Below c.heap.size w d/\keepW w d):=⟨al,G,ah⟩;clear al G ah KN;go_wp2_with fail
 go_loopw [14] (λi wr=> ∃k:Nat,k<=n/\i=vI k/\WR wr c.heap.size B (q++A2 n++(l.take k).flatMap AG)/\Below c.heap.size w wr/\keepW w wr) (λi _=>n - (intOf i).toNat)
 case atStart=>exact⟨0,Nat.zero_le _,rfl,by simpa using ab.o.1,ab.o.2⟩
 case round=>
  obtain⟨k,f,rfl,I,z,U⟩:=hrel;by_cases A:k<n
  ·obtain⟨b,az,e,t⟩:=Y.o k (by rw[lMp,am.o];exact A);subst e;rw[M.o k A]at t;unfold hdV at t;dsimp only at t;have ae:=HB.o.trans z;replace t:=cLz ae t;have av:=aa.o k;have aj:=L.o k A;have K:=O.o k A;have HS:Ϛ ((l.take (k+1)).flatMap AG=(l.take k).flatMap AG++AG (l.getD k ϰ)):=J.o k A;obtain⟨E,y⟩:=nM (AG (l.getD k ϰ));rw[y]at K HS;obtain⟨m,hm⟩:=nM ((l.getD k ϰ).length);rw[hm]at K t aj;obtain⟨ad,ac⟩:=nM ((rs.getD k ϰ).1.1);obtain⟨cp,af⟩:=nM ((rs.getD k ϰ).1.2.2);rw[ac,af]at K t;obtain⟨fl,S⟩:=nM ((l.take k).flatten.length);rw[S]at av aj;have KH:Ϛ (∀d j,ϛ c d->WR d c.heap.size B j->WP d C B->FP d D C->j.length<=89000000 - 4000 * 10000+40000000->j.length+4000 * m<=89000000->CT 182 #[vS ad m cp,μ C,μ D] d (WO c.heap.size B d (j++E))):=K;have u:Ϛ (WR wr c.heap.size B (q++A2 n++(l.take k).flatMap AG)/\Below c.heap.size w wr/\keepW w wr):=⟨I,z,U⟩;have ay:=z.size;have i1:(0:Int)<=(k:Int):=Ϝ;have i2:(k:Int)<(n:Int):=Ϝ;clear K y hm ac af S I z U ae O Y J M L aa;go_wp2_with fail;refine(KH.o _ _ (HB.o.trans u.o.2.1) u.o.1 (HC.o.1.keep u.o.2.2) (HC.o.2.keep u.o.2.2) (by simp only[lAp,Az];omega) (by simp only[lAp,Az];omega)).mono ?_;rintro e w2 ⟨rfl,aw,an,aq⟩;go_wp2;go_roundw
   case rel=>exact⟨k+1,Ϝ,by go_num,by rw[HS.o,<-append_assoc];exact aw,u.o.2.1.trans an,u.o.2.2.trans aq⟩
   case measure=>simp[intOf];omega
  ·have ar:k=n:=Ϝ;subst ar;have i2:¬((k:Int)<(k:Int)):=Ϝ;rw[Z.o]at I;go_wp2
   go_end0
   exact⟨rfl,I,z,U⟩
def BQ(c:ch.Cnt):List UInt8:=Cp c.r++A2 c.n
def Cf(v:List ch.Cnt):List UInt8:=A2 v.length++v.flatMap BQ
structure okC(c:ch.Cnt):Prop where
 row:Cb c.r
 len:c.r.length<=8
 err:AD c.r=0
theorem Kh{c:ch.Cnt}(h:okC c):(BQ c).length<=2000:=by
 have:=Hu h.len h.err;unfold BQ;rw[lAp,Az];omega
theorem XU{l:List ch.Cnt}(h:∀x∈l,okC x):(l.flatMap BQ).length<=2000 * l.length:=by
 induction l with
 |nil=>simp
 |cons x l ih=>
  have b:=Kh (h x (mem_cons_self ..));have c:=ih (λy a=>h y (mem_cons_of_mem _ a));rw[flatMap_cons,lAp,length_cons];omega
theorem Z5(base C B:Nat)(f:List UInt8)(a:ϙ)(cap:Nat)(c:ch.Cnt)(w:Ϙ)(q:base<=w.heap.size)(h:WR w base B f)(p:WP w C B)(ha:vl.rowAt w a c.r)(i:okC c)(Q:f.length<=90000000):
 η 58 #[.agg #[vS a c.r.length cap,vI c.n],μ C] w (WO base B w (f++BQ c)):=by
 have y:=hIz (λ(b:Ϙ) (d:ϛ w b)=>IM base B f a cap c.r b (Nat.le_trans q d.size) (h.below d) Ϝ (vl.Ac ha d) i.row i.len i.err);have A:Ϛ (∀b,WR b base B (f++Cp c.r)->base<=b.heap.size->CT 60 #[μ B,vI c.n] b (WO base B b (f++BQ c))):=λb J d=>by
  have:=C7 base B _ c.n b d J (by have:=Hu i.len i.err;rw[lAp];omega);unfold BQ;rw[<-append_assoc];exact this
 have P:=A6 p.1;have G:=p.2;obtain⟨n,z⟩:=nM c.r.length;rw[z]at y⊢;clear ha i h z;go_enter func58,ntmps58;go_wp2_with fail;generalize m:(World.alloc w _)=V;have j:ϛ w V:=by rw[<-m];exact ϧ
 have u:Ae V w 83:=by subst m;exact⟨_,_,World.alloc_heap_new _ _⟩
 have k:Ϛ (CW V w.heap.size 83 0 (vS a n cap)/\CW V w.heap.size 83 1 (vI c.n)/\WP V C B):=by
  refine⟨⟨u,?_⟩,⟨u,?_⟩,p.below j⟩<;>(subst m;go_simp)
 clear m u p G;have E:=k.o.1.2;have M:=k.o.2.2.2;refine(y.o V j).mono ?_;rintro e b ⟨rfl,K,d,t⟩;replace M:=(k.o.2.2.keep t).2;have O:=(k.o.2.1.keep t ϝ ϝ).2;clear E;have I:base<=b.heap.size:=Nat.le_trans (Nat.le_trans q j.size) d.size;go_wp2_with fail;refine(A.o b K I).mono ?_;rintro e S ⟨rfl,L,F,H⟩;go_wp2
 go_end0
 exact⟨rfl,L,(j.mono q).trans (d.trans F),(keepW.of j).trans (t.trans H)⟩
theorem XV(d:Ϙ)(C B:Nat)(j:List UInt8)(a:ϙ)(cap:Nat)(l:List ch.Cnt)(w:Ϙ)(Q:ϛ d w)(h:WR w d.heap.size B j)(hc:WP w C B)(ha:ch.viewAt d a l)(U:∀x∈l,okC x)(hn:l.length<=10000)(hl:j.length<=60000000):
 η 57 #[μ B,vS a l.length cap,.func (.func 58) #[] #[μ C]] w (WO d.heap.size B w (j++Cf l)):=by
 have KN:=hIz (λn=>C7 d.heap.size B j n w Q.size h Ϝ);have V:=hqz ha;have M:Ϛ (∀i,i<l.length->okC (l.getD i ϰ)):=λi hi=>U _ (by rw[gDe,gEe hi];exact getElem_mem hi);have HT:Ϛ (∀k,((l.take k).flatMap BQ).length<=20000000):=λk=>by
  have:=XU (l:=l.take k) (λx hx=>U x (mem_of_mem_take hx));have h2:(l.take k).length<=l.length:=List.length_take_le' ..;omega
 have L:Ϛ (∀k,k<l.length->(l.take (k+1)).flatMap BQ=(l.take k).flatMap BQ++BQ (l.getD k ϰ)):=λk G=>Kg BQ l k G;have Y:Ϛ (j++A2 l.length++(l.take l.length).flatMap BQ=j++Cf l):=by
  show _=_;unfold Cf;rw[take_length,append_assoc]
 have O:Ϛ (∀k,k<l.length->∀c p f q,d.heap.size<=c.heap.size->WR c d.heap.size B p->WP c C B->vl.rowAt c f (l.getD k ϰ).r->p.length<=90000000->CT 58 #[.agg #[vS f (l.getD k ϰ).r.length q,vI (l.getD k ϰ).n],μ C] c (WO d.heap.size B c (p++BQ (l.getD k ϰ)))):=λk G c p f q F h1 af hr ai=>Z5 d.heap.size C B p f q _ c F h1 af hr (M.o k G) ai;obtain⟨n,H⟩:=nM l.length;have HN:=hqz H;rw[H]at M L O hn⊢;rw[H]at Y;have HC:=hqz hc;have J:=hqz Q;clear ha U H h hc Q M;go_enter func57,ntmps57;go_wp2_with fail;refine(KN.o _).mono ?_;rintro e c ⟨rfl,ad,F,ab⟩;have aa:Ϛ (WR c d.heap.size B (j++A2 n)/\Below d.heap.size w c/\keepW w c):=⟨ad,F,ab⟩;clear ad F ab KN;go_wp2_with fail
 go_loopw [14] (λi wr=> ∃k:Nat,k<=n/\i=vI k/\WR wr d.heap.size B (j++A2 n++(l.take k).flatMap BQ)/\Below d.heap.size w wr/\keepW w wr) (λi _=>n - (intOf i).toNat)
 case atStart=>exact⟨0,Nat.zero_le _,rfl,by simpa using aa.o.1,aa.o.2⟩
 case round=>
  obtain⟨k,G,rfl,I,u,S⟩:=hrel;by_cases T:k<n
  ·obtain⟨b,am,f,q,e,z,ac,P⟩:=V.o k (by rw[HN.o];exact T);subst e;have A:=J.o.trans u;replace z:=cLz A z;replace P:=cLz A P;have Z:Ϛ (∀W,ϛ wr W->vl.rowAt W f (l.getD k ϰ).r):=λW hW=>vl.Ac (vl.Ac ac A) hW;have ak:=HT.o k;have K:=O.o k T;have HS:Ϛ ((l.take (k+1)).flatMap BQ=(l.take k).flatMap BQ++BQ (l.getD k ϰ)):=L.o k T;obtain⟨E,hE⟩:=nM (BQ (l.getD k ϰ));rw[hE]at K HS;obtain⟨X,hX⟩:=nM (l.getD k ϰ);rw[hX]at K z P Z;obtain⟨m,hm⟩:=nM X.r.length;rw[hm]at K z;have KH:Ϛ (∀c p f q,d.heap.size<=c.heap.size->WR c d.heap.size B p->WP c C B->vl.rowAt c f X.r->p.length<=90000000->CT 58 #[.agg #[vS f m q,vI X.n],μ C] c (WO d.heap.size B c (p++E))):=K;have y:Ϛ (WR wr d.heap.size B (j++A2 n++(l.take k).flatMap BQ)/\Below d.heap.size w wr/\keepW w wr):=⟨I,u,S⟩;have al:=u.size;have i1:(0:Int)<=(k:Int):=Ϝ;have i2:(k:Int)<(n:Int):=Ϝ;clear K hE hX hm I u S A O V L ac;go_wp2_with fail;have t:ϛ wr (ξ wr #[vS f m q,vI X.n] 83):=ϧ;refine(KH.o _ _ _ _ (by have:=J.o.size;have:=t.size;omega) (y.o.1.below t) ((HC.o.keep y.o.2.2).below t) (Z.o _ t) (by simp only[lAp,Az];omega)).mono ?_;rintro e w2 ⟨rfl,aj,ae,ag⟩;go_wp2;go_roundw
   case rel=>exact⟨k+1,Ϝ,by go_num,by rw[HS.o,<-append_assoc];exact aj,y.o.2.1.trans ((t.mono (by have:=J.o.size;omega)).trans ae),y.o.2.2.trans ((keepW.of t).trans ag)⟩
   case measure=>simp[intOf];omega
  ·have ah:k=n:=Ϝ;subst ah;have i2:¬((k:Int)<(k:Int)):=Ϝ;rw[Y.o]at I;go_wp2
   go_end0
   exact⟨rfl,I,u,S⟩
theorem Vo(base B:Nat)(a:List UInt8)(f:Value)(w:Ϙ)(n:base<=w.heap.size)(h:WR w base B a)(p:a.length<=60000000):
 η 54 #[μ B,ψ,f] w (WO base B w (a++A2 0)):=by
 have c:Ϛ (CT 60 #[μ B,ω] w (WO base B w (a++A2 0))):=C7 base B a 0 w n h Ϝ;clear h;go_enter func54,ntmps54;go_wp2_with fail;refine c.o.mono ?_;rintro e b ⟨rfl,k,d,j⟩;have m:Ϛ (WR b base B (a++A2 0)/\Below base w b/\keepW w b):=⟨k,d,j⟩;clear k d j c;go_wp2_with fail
 go_loopw [14] (λi wr=>i=vI 0/\wr=b) (λi _=>0)
 case atStart=>exact⟨rfl,rfl⟩
 case round=>
  obtain⟨rfl,rfl⟩:=hrel;go_wp2
  go_end0
  exact⟨rfl,m.o⟩
def ahd(l:List UInt8):List UInt8:=w4 l.length++l
def Hz(l:List UInt8):List UInt8×Int:=if 1048576<l.length then([],2)else(ahd l++w4 (crc (ahd l)),0)
theorem Sv(a:List UInt8)(s:ByteArray):(⟨a.toArray⟩:ByteArray)++s=⟨(a++s.data.toList).toArray⟩:=by
 apply ByteArray.ext;rw[ByteArray.data_append];simp
theorem Ty(a b:List UInt8):(⟨a.toArray⟩:ByteArray)++⟨b.toArray⟩=⟨(a++b).toArray⟩:=Sv a ⟨b.toArray⟩
theorem Hv(s:ByteArray)(w:Ϙ)(h:GC w):
 η 10 #[.string s] w (θ w (.tuple #[.string ⟨(Hz s.data.toList).1.toArray⟩,vI (Hz s.data.toList).2])):=by
 have f:=hIz (λn (a:Ϙ) (y:n<4294967296)=>P4 n a y);have p:=hIz (λ(l:List UInt8) (a:Ϙ) (q:ϛ w a) (u:l.length<=100000000)=>Lc ⟨l.toArray⟩ a (nibAt_below h q) (by rw[size_mk];exact u));have c:s.data.toList.length=s.size:=AE s;have d:Ϛ ((⟨(w4 s.size).toArray⟩:ByteArray)++s=⟨(ahd s.data.toList).toArray⟩):=by
  show _=_;unfold ahd;rw[c];exact Sv _ s
 by_cases m:1048576<s.size
 ·have b:Ϛ (Hz s.data.toList=([],2)):=if_pos (by rw[c];exact m);rw[b.o];have z:(1048576:Int)<(s.size:Int):=Ϝ;go_enter func10,ntmps10;go_wp2
  go_ret2
  exact⟨rfl,bR⟩
 ·have b:Ϛ (Hz s.data.toList=(ahd s.data.toList++w4 (crc (ahd s.data.toList)),0)):=if_neg (by rw[c];exact m);rw[b.o];have z:¬(1048576:Int)<(s.size:Int):=Ϝ;have H:IntKind.u32.wrap (s.size:Int)=(s.size:Int):=FW s.size Ϝ;have j:(ahd s.data.toList).length<=100000000:=by unfold ahd;rw[lAp,Ep,c];omega
  have F:¬9223372036854775807<(w4 s.size).length+s.size:=by rw[Ep];omega
  obtain⟨A,i⟩:=nM (ahd s.data.toList);rw[i]at d j⊢;clear i b;go_enter func10,ntmps10;go_wp2_with fail;refine(f.o s.size _ Ϝ).mono ?_;rintro e a ⟨rfl,k⟩;go_upto_region 4 with fail;rw[d.o];go_wp2_with fail;refine(p.o A a k j).mono ?_;rintro e I ⟨rfl,rfl⟩;have E:=JH A;have G:¬9223372036854775807<A.length+(w4 (crc A)).length:=by rw[Ep];omega
  go_wp2_with fail;refine(f.o (crc A) _ Ϝ).mono ?_;rintro e J ⟨rfl,t⟩;go_wp2;rw[Ty]
  go_ret2
  exact⟨rfl,bT k t⟩
theorem QB(s:ByteArray)(w:Ϙ):
 η 11 #[.string s] w (θ w (.tuple #[.string ⟨(Hz s.data.toList).1.toArray⟩,vI (Hz s.data.toList).2])):=by
 have f:=hIz (λn (a:Ϙ) (t:n<4294967296)=>P5 n a t);have m:=hIz (λ(l:List UInt8) (a:Ϙ) (y:ϛ w a) (q:l.length<=100000000)=>JI ⟨l.toArray⟩ a (by rw[size_mk];exact q));have c:s.data.toList.length=s.size:=AE s;have d:Ϛ ((⟨(w4 s.size).toArray⟩:ByteArray)++s=⟨(ahd s.data.toList).toArray⟩):=by
  show _=_;unfold ahd;rw[c];exact Sv _ s
 by_cases k:1048576<s.size
 ·have b:Ϛ (Hz s.data.toList=([],2)):=if_pos (by rw[c];exact k);rw[b.o];have u:(1048576:Int)<(s.size:Int):=Ϝ;go_enter func11,ntmps11;go_wp2
  go_ret2
  exact⟨rfl,bR⟩
 ·have b:Ϛ (Hz s.data.toList=(ahd s.data.toList++w4 (crc (ahd s.data.toList)),0)):=if_neg (by rw[c];exact k);rw[b.o];have u:¬(1048576:Int)<(s.size:Int):=Ϝ;have G:IntKind.u32.wrap (s.size:Int)=(s.size:Int):=FW s.size Ϝ;have i:(ahd s.data.toList).length<=100000000:=by unfold ahd;rw[lAp,Ep,c];omega
  have E:¬9223372036854775807<(w4 s.size).length+s.size:=by rw[Ep];omega
  obtain⟨A,h⟩:=nM (ahd s.data.toList);rw[h]at d i⊢;clear h b;go_enter func11,ntmps11;go_wp2_with fail;refine(f.o s.size _ Ϝ).mono ?_;rintro e a ⟨rfl,j⟩;go_upto_region 4 with fail;rw[d.o];go_wp2_with fail;refine(m.o A a j i).mono ?_;rintro e H ⟨rfl,rfl⟩;have z:=JH A;have F:¬9223372036854775807<A.length+(w4 (crc A)).length:=by rw[Ep];omega
  go_wp2_with fail;refine(f.o (crc A) _ Ϝ).mono ?_;rintro e I ⟨rfl,p⟩;go_wp2;rw[Ty]
  go_ret2
  exact⟨rfl,bT j p⟩
def bodyL(l:List UInt8):List UInt8:=(l.take (l.length - 4)).drop 4
def EP(l:List UInt8):List UInt8×Int:=
 if l.length<8 then([],1)else if 1048576<(bodyL l).length then([],1)else if l.take 4≠w4 (bodyL l).length then([],1)else
 if l.drop (l.length - 4)≠w4 (crc (l.take (l.length - 4)))then([],11)else(bodyL l,0)
theorem GX(s:ByteArray)(i j:Nat):s.extract i j=⟨((s.data.toList.take j).drop i).toArray⟩:=by
 apply ByteArray.ext;rw[ByteArray.data_extract];apply Array.ext';rw[Array.toList_extract];exact(List.drop_take ..).symm
theorem J7(s:ByteArray)(w:Ϙ)(h:GC w)(hm:s.size<=9223372036854775807):
 η 14 #[.string s] w (θ w (.tuple #[.string ⟨(EP s.data.toList).1.toArray⟩,vI (EP s.data.toList).2])):=by
 have d:s.data.toList.length=s.size:=AE s;by_cases L:s.size<8
 ·have b:Ϛ (EP s.data.toList=([],1)):=if_pos (by rw[d];exact L);rw[b.o];have i1:(s.size:Int)<8:=Ϝ;go_enter func14,ntmps14;go_wp2
  go_ret2
  exact⟨rfl,bR⟩
 ·have i1:¬(s.size:Int)<8:=Ϝ;obtain⟨RS,F⟩:=nM (EP s.data.toList);have J:=hqz F;rw[F];clear F;go_enter func14,ntmps14;go_upto_region 3 with fail
  go_region
  have j:s.extract 0 (s.size - 4)=⟨(s.data.toList.take (s.size - 4)).toArray⟩:=by rw[GX,List.drop_zero]
  have m:s.extract (s.size - 4) s.size=⟨(s.data.toList.drop (s.size - 4)).toArray⟩:=by rw[GX,take_of_length_le (by rw[d];exact Nat.le_refl _)]
  rw[j,m];obtain⟨a,ha⟩:=nM (⟨(s.data.toList.take (s.size - 4)).toArray⟩:ByteArray);have G:a.data.toList=s.data.toList.take (s.size - 4):=by rw[<-ha]
  have aa:a.size=s.size - 4:=by rw[<-AE,G,length_take,d];omega
  have q:=hqz G;rw[ha];have i3:(4:Int)<=(a.size:Int):=Ϝ;clear j m ha G;go_upto_region 4 with fail
  go_region
  have j:a.extract 0 4=⟨(s.data.toList.take 4).toArray⟩:=by rw[GX,List.drop_zero,q.o,List.take_take,Nat.min_eq_left Ϝ]
  have m:a.extract 4 (s.size - 4)=⟨(bodyL s.data.toList).toArray⟩:=by
   rw[GX,q.o];unfold bodyL;rw[d,List.take_take,Nat.min_self]
  rw[j,m];have H:(bodyL s.data.toList).length=s.size - 8:=by
   unfold bodyL;rw[length_drop,length_take,d];omega
  have y:Ϛ (a=⟨(s.data.toList.take (s.size - 4)).toArray⟩):=by
   show _=_;rw[<-q.o]
  obtain⟨B,u⟩:=nM (bodyL s.data.toList);obtain⟨P,E⟩:=nM (s.data.toList.take 4);obtain⟨D,z⟩:=nM (s.data.toList.drop (s.size - 4));obtain⟨A,t⟩:=nM (s.data.toList.take (s.size - 4));have M:A.length=s.size - 4:=by rw[<-t,length_take,d];omega
  have c:Ϛ (RS=if 1048576<B.length then([],1)else if P≠w4 B.length then([],1)else if D≠w4 (crc A)then([],11)else(B,0)):=by
   show _=_;rw[<-J.o];unfold EP;rw[if_neg (by rw[d];exact L),d,u,E,z,t]
  rw[u,E,z];rw[t]at y;rw[u]at H;have T:Ϛ (B.length=s.size - 8/\A.length=s.size - 4):=⟨H,M⟩;clear H M;rw[y.o];clear j m q y J u E z t;have K:=hIz (λn (f:Ϙ) (hn:n<4294967296)=>P4 n f hn);have U:=hIz (λ(l:List UInt8) (f:Ϙ) (W:ϛ w f) (hl:l.length<=100000000)=>Lc ⟨l.toArray⟩ f (nibAt_below h W) (by rw[size_mk];exact hl));have O:ϛ w w.drew.drew:=bR.drew.drew;by_cases S:1048576<B.length
  ·have b:Ϛ (RS=([],1)):=by rw[if_pos S]at c;exact c
   have i5:(1048576:Int)<(B.length:Int):=Ϝ;go_wp2
   go_ret2
   exact⟨MV (by rw[b.o]) (by rw[b.o]),O⟩
  ·rw[if_neg S]at c;have i5:¬(1048576:Int)<(B.length:Int):=Ϝ;have hw:IntKind.u32.wrap (B.length:Int)=(B.length:Int):=FW _ Ϝ;go_wp2_with fail;refine(K.o B.length _ Ϝ).mono ?_;rintro e f ⟨rfl,X⟩;have I:ϛ w f:=O.trans X;by_cases p:P=w4 B.length
   rotate_left
   ·have b:Ϛ (RS=([],1)):=by rw[if_pos p]at c;exact c
    have q2:(P==w4 B.length)=false:=by simpa using p
    go_wp2
    go_ret2
    exact⟨MV (by rw[b.o]) (by rw[b.o]),I⟩
   ·rw[if_neg (λk=>k p)]at c;have q2:(P==w4 B.length)=true:=by simpa using p
    have Z:=JH A;have V:A.length<=100000000:=by have:=T.o;omega
    clear p;go_wp2_with fail;refine(U.o A f I V).mono ?_;rintro e w2 ⟨rfl,rfl⟩;go_wp2_with fail;refine(K.o (crc A) _ Z).mono ?_;rintro e w3 ⟨rfl,Y⟩;have Q:ϛ w w3:=bT I Y;by_cases i:D=w4 (crc A)
    ·have b:Ϛ (RS=(B,0)):=by rw[if_neg (λk=>k i)]at c;exact c
     have q3:(D==w4 (crc A))=true:=by simpa using i
     clear i;go_wp2
     go_ret2
     exact⟨MV (by rw[b.o]) (by rw[b.o]),Q⟩
    ·have b:Ϛ (RS=([],11)):=by rw[if_pos i]at c;exact c
     have q3:(D==w4 (crc A))=false:=by simpa using i
     clear i;go_wp2
     go_ret2
     exact⟨MV (by rw[b.o]) (by rw[b.o]),Q⟩
end cd
end Go.Proofs.YtfkihidbnfkbaaaGreatDoor
