import Derived.Test.YtfkihidbnfkbaaaGreatDoorPb34
set_option linter.all false
set_option maxHeartbeats 4000000
set_option maxRecDepth 100000
open Go.ChangeShapes Go.WideShapes Go.ChangeAt Go.RowKit List
open Inhabited renaming default->ϰ
namespace Go.Proofs.YtfkihidbnfkbaaaGreatDoor
open Go.Proofs.Tryz
namespace cd
open vl bf
variable {B C D N R base g o : Nat} {w w' w1 w2 : ϙ} {n : Int} {s t : List UInt8} {e : TypeId} {v : Value} {r : List Cel} {vs : List Value} {l : List Ent} {row : Option Nat}
def WO(base B:Nat)(w:World)(bs:List UInt8)(e:Ending)(w':World):Prop:=e= .returned (.tuple #[])/\WR w' base B bs/\Below base w w'/\keepW w w'
theorem Iv(s:List UInt8):(txt s).length=8+s.length:=by unfold txt;rw[lAp,Am]
theorem RA(base B:Nat)(a:List UInt8)(s:ByteArray)(w:ϙ)(c:base<=w.heap.size)(h:WR w base B a)(x:a.length+s.size<=9999900000000):
 η 113 #[μ B,.string s] w (WO base B w (a++txt s.data.toList)):=by
 have d:ϛ (CT 60 #[μ B,vI s.size] w (WO base B w (a++AU s.size))):=BI base B a s.size w c h ϝ;have f:ϛ (∀w1,Below base w w1->WR w1 base B (a++AU s.size)->CT 185 #[μ B,.string s] w1 (WO base B w1 (a++AU s.size++s.data.toList))):=λw1 b i=>AaW base B _ s w1 (Nat.le_trans c b.size) i (by rw[lAp,Am];omega) ϝ;have u:=h.lt;clear h;unfold txt;rw[AL];go_enter func113,ntmps113;go_wp2_with fail;refine d.o.mono ?_;rintro e w1 ⟨rfl,p,b,k⟩;go_wp2_with fail;refine(f.o w1 b p).mono ?_;rintro e w2 ⟨rfl,q,j,m⟩;go_wp2
 go_end0
 exact⟨rfl,by rw[<-append_assoc];exact q,b.trans j,k.trans m⟩
def C7(r:List Cel):List UInt8:=txt (encR r)
theorem GI(base B:Nat)(b:List UInt8)(a:Ϛ)(cap:Nat)(r:List Cel)(w:ϙ)(i:base<=w.heap.size)(h:WR w base B b)(A:b.length<=9999000000000)(k:vl.rowAt w a r)(m:B9 r)(E:r.length<=8)(d:A5 r=0):
 η 59 #[μ B,vS a r.length cap] w (WO base B w (b++C7 r)):=by
 have f:ϛ (CT 112 #[vS a r.length cap] w (θ w (.tuple #[.string ⟨(encR r).toArray⟩,ω]))):=by
  have:=Iy a cap r w k m ϝ;unfold EY at this;rw[if_pos d,d]at this;exact this
 have z:(encR r).length<=1048:=by
  have:=Dh r (H3 (by have:=d;unfold A5 at this;rw[if_neg ϝ]at this;exact this));omega
 have p:ϛ (∀w1,Ϝ w w1->CT 113 #[μ B,.string ⟨(encR r).toArray⟩] w1 (WO base B w1 (b++C7 r))):=λw1 c=>RA base B b ⟨(encR r).toArray⟩ w1 (Nat.le_trans i c.size) (h.below c) (by show b.length+(encR r).toArray.size<=_;rw[size_toArray];omega);have y:=h.lt;obtain⟨n,j⟩:=nM r.length;rw[j]at f⊢;clear h k m j;go_enter func59,ntmps59;go_wp2_with fail;refine f.o.mono ?_;rintro e w1 ⟨rfl,c⟩;go_wp2_with fail;refine(p.o w1 c).mono ?_;rintro e w2 ⟨rfl,x,q,u⟩;go_wp2
 go_end0
 exact⟨rfl,x,(c.mono i).trans q,(keepW.of c).trans u⟩
def GM(b:Bool):List UInt8:=AU (if b then 1 else 0)
theorem ZD(base B:Nat)(a:List UInt8)(is:Bool)(w:ϙ)(c:base<=w.heap.size)(h:WR w base B a)(i:a.length<=10000000000000):
 η 243 #[μ B,.bool is] w (WO base B w (a++GM is)):=by
 have b:=hIz (λn=>BI base B a n w c h ϝ);clear h i
 cases is
 all_goals
  go_enter func243,ntmps243;go_wp2_with fail;refine(b.o _).mono ?_;rintro e w1 ⟨rfl,j,d,f⟩;go_wp2
  go_end0
  exact⟨rfl,j,d,f⟩
structure RR(w:World)(R:Nat)(s:List UInt8):Prop where
 cell:Δ w R 0 (.string ⟨s.toArray⟩)
 frz:Ξ w R 0
 tb:Ai w R 124
def Al(R:Nat)(w w':World):Prop:=Below 0 w w'/\∀g,g<w.heap.size->g≠R->w'.heap[g]? =w.heap[g]?
theorem Al.refl(R:Nat)(w:ϙ):Al R w w:=⟨bR,λ_ _ _=>rfl⟩
theorem Al.trans{a b c:ϙ}(h:Al R a b)(k:Al R b c):Al R a c:=⟨h.1.trans k.1,λg f d=>(k.2 g (Nat.lt_of_lt_of_le f h.1.size) d).trans (h.2 g f d)⟩
theorem Al.of(h:Ϝ w w'):Al R w w':=⟨h.mono (Nat.zero_le _),λg a _=>h.block g a⟩
theorem Al.below{n:Nat}(h:Al R w w')(b:n<=R)(c:n<=w.heap.size):Below n w w':=⟨h.1.os,h.1.tape,h.1.output,h.1.size,λk a=>h.2 k ϝ ϝ⟩
theorem RR.below(h:RR w R s)(b:Ϝ w w'):RR w' R s:=
 ⟨cLz b h.cell,(World.frozen?_of_block (w:=w) (a:=⟨R,0,none⟩) (b.block R (A2 h.tb))).trans h.frz,Ad h.tb b⟩
theorem RR.lt(h:RR w R s):R<w.heap.size:=A2 h.tb
theorem RR.put(h:RR w R s):RR (φ w R 0 (.string ⟨t.toArray⟩)) R t/\Al R w (φ w R 0 (.string ⟨t.toArray⟩)):=
 ⟨⟨World.cell?_setCell_same' _ _ _ (by rw[h.cell];rfl),by rw[World.frozen?_setCell];exact h.frz,A6 h.tb _ _⟩,(Below.refl 0 w).setCell (Nat.zero_le _) _,λg b a=>heap_setCell_other _ _ _ _ a⟩
theorem ZE(R:Nat)(a:Bool)(w:ϙ)(h:a=true):η 139 #[μ R,.bool a] w λe w'=>e= .returned (.tuple #[])/\w'=w:=by
 subst h;go_enter func139,ntmps139;go_wp2
 go_end0
 exact⟨rfl,rfl⟩
theorem AbM(a b:List UInt8):(⟨(a++b).toArray⟩:ByteArray).extract 0 a.length=⟨a.toArray⟩:=by
 apply ByteArray.ext;rw[ByteArray.data_extract];simp
theorem ZF(a b:List UInt8):(⟨(a++b).toArray⟩:ByteArray).extract a.length (a.length+b.length)=⟨b.toArray⟩:=by
 apply ByteArray.ext;rw[ByteArray.data_extract];simp
theorem size_mk(l:List UInt8):(⟨l.toArray⟩:ByteArray).size=l.length:=size_toArray
theorem RD(R n:Nat)(a b:List UInt8)(w:ϙ)(h:RR w R (a++b))(d:a.length=n)(x:a.length+b.length<=100000000):
 η 147 #[μ R,vI n] w λe w'=>e= .returned (.string ⟨a.toArray⟩)/\RR w' R b/\Al R w w':=by
 have k:=hIz (λi (w1:ϙ) (h:i=true)=>ZE R i w1 h);have j:=hqz h;have q:=h.cell;have u:=h.frz;obtain⟨s,c⟩:=nM (⟨(a++b).toArray⟩:ByteArray);have y:s.size=n+b.length:=by rw[<-c,size_mk,lAp,d]
 have f:=hqz c;rw[c]at q;clear h c;go_enter func147,ntmps147;go_wp2_with (go_at_call 139;refine(k.o _ _ Ϥ).mono ?_;rintro e w1 ⟨rfl,rfl⟩);have m:s.extract 0 n=⟨a.toArray⟩:=by rw[<-f.o,<-d];exact AbM a b
 have p:s.extract n (n+b.length)=⟨b.toArray⟩:=by rw[<-f.o,<-d];exact ZF a b
 rw[m,p];go_ret;exact⟨rfl,j.o.put⟩
def PW(u:Nat):Int:=if u<9223372036854775808 then u else(u:Int) - 18446744073709551616
theorem MY(n:Int)(a: -9223372036854775808<=n)(b:n<=9223372036854775807):PW (u64 n)=n:=by
 unfold PW u64;split<;>omega
theorem Xl(u:Nat)(h:u<18446744073709551616):wrap64 (u:Int)=PW u:=by
 unfold PW wrap64;split<;>omega
theorem MZ(n:Int):Be (AU n)=u64 n:=Gq _ (by have:=SQ n;omega)
theorem RE(R:Nat)(n:Int)(b:List UInt8)(w:ϙ)(h:RR w R (AU n++b))(j: -9223372036854775808<=n/\n<=9223372036854775807)(H:b.length<=90000000):
 η 82 #[μ R] w λe w'=>e= .returned (vI n)/\RR w' R b/\Al R w w':=by
 have f:ϛ (CT 147 #[μ R,vI 8] w λe w'=>e= .returned (.string ⟨(AU n).toArray⟩)/\RR w' R b/\Al R w w'):=RD R 8 (AU n) b w h (Am n) (by rw[Am];omega);obtain⟨l,a⟩:=nM (AU n);have F:l.length=8:=by rw[<-a];exact Am n
 have q:ϛ (wrap64 ((Be (l.take 8):Nat):Int)=n):=by
  show _=_;rw[take_of_length_le ϝ,<-a,MZ,Xl _ (by have:=SQ n;omega),MY n j.1 j.2]
 rw[a]at f;obtain⟨s,c⟩:=nM (⟨l.toArray⟩:ByteArray);have M:s.size=8:=by rw[<-c,size_mk,F]
 have p:ϛ (s.data.toList=l):=by show _=_;rw[<-c]
 rw[c]at f;clear h a c j H;go_enter func82,ntmps82;go_wp2_with fail;refine f.o.mono ?_;rintro e w1 ⟨rfl,I,E⟩;go_wp2_with fail
 go_loopw [3,5,10] (λu t i wr=> ∃k:Nat,k<=8/\i=vI k/\u= .int .u64 (Be (l.take k):Nat)/\wr=w1) (λ_ _ i _=>8 - (intOf i).toNat)
 case atStart=>exact⟨0,ϝ,rfl,by simp[Be],rfl⟩
 case round=>
  obtain⟨k,K,rfl,rfl,rfl⟩:=hrel;obtain⟨u,m⟩:∃u,Be (l.take k)=u:=⟨_,rfl⟩;have d:=hqz m;rw[m];clear m;by_cases L:k<8
  ·have G:k<s.size:=ϝ;have x:ϛ (u<72057594037927936):=by
    show u<72057594037927936;have z:=FE (l.take k);rw[d.o,length_take]at z;have J:256 ^ (min k l.length)<=256 ^ 7:=Nat.pow_le_pow_right ϝ ϝ;omega
   have y:ϛ (Be (l.take (k+1))=u * 256+s[k].toNat):=by
    show Be (l.take (k+1))=_;rw[<-p.o,Iw s k G,Nr,p.o,d.o]
   go_wp2;go_roundw
   case rel=>exact⟨k+1,ϝ,by go_num,by rw[y.o,Ve u s[k].toNat x.o s[k].toNat_lt],trivial⟩
   case measure=>simp[intOf];omega
  ·have A:k=8:=ϝ;subst A;rw[d.o]at q;go_wp2;go_ret;exact⟨Aj q.o,I,E⟩
theorem JU(s b:List UInt8):txt s++b=AU s.length++(s++b):=by unfold txt;rw[append_assoc]
def CW(w:World)(g:Nat)(e:TypeId)(o:Nat)(v:Value):Prop:=Ai w g e/\Δ w g o v
theorem CW.keep(h:CW w g e o v)(d:keepW w w')(b:e≠5)(c:e≠64):CW w' g e o v:=
 ⟨A0 h.1 (d.2 g e h.1 b c),(cOb (w:=w) (a:=⟨g,o,none⟩) (d.2 g e h.1 b c)).trans h.2⟩
theorem CW.below(h:CW w g e o v)(a:Ϝ w w'):CW w' g e o v:=⟨Ad h.1 a,cLz a h.2⟩
def AN(x:Ent):List UInt8:=txt x.key.data.toList++AU x.time++AU x.seq++C7 x.row++GM x.met
structure okW(x:Ent):Prop where
 key:x.key.size<=2000
 row:B9 x.row
 len:x.row.length<=8
 err:A5 x.row=0
theorem ZG(b:r.length<=8)(a:A5 r=0):(encR r).length<=1048:=by
 have:=Dh r (H3 (by have:=a;unfold A5 at this;rw[if_neg ϝ]at this;exact this));omega
theorem Gi(b:r.length<=8)(a:A5 r=0):(C7 r).length<=1056:=by
 unfold C7;rw[Iv];have:=ZG b a;omega
theorem TE(b:Bool):(GM b).length=8:=Am _
theorem Xm{x:Ent}(h:okW x):(AN x).length<=4000:=by
 have a:=Gi h.len h.err;have b:=h.key;unfold AN;simp only[lAp,Iv,Am,TE,AL];omega
theorem Xn(a:ϙ)(B:Nat)(d:List UInt8)(e:EM)(x:Ent)(w:ϙ)(Q:Ϝ a w)(h:WR w a.heap.size B d)(he:ER a e x)(f:okW x)(hl:d.length<=9000000000000):
 η 179 #[μ B,e.val] w (WO a.heap.size B w (d++AN x)):=by
 obtain⟨k1,t1,s1,⟨y,b1,z⟩,m1⟩:=e;obtain⟨I,J,K,L,M,A⟩:=he;dsimp only at I J K L M A;subst I J K L M;have H:=hIz (λ(w1:ϙ) (i:WR w1 a.heap.size B d) (c:a.heap.size<=w1.heap.size)=>RA a.heap.size B d x.key w1 c i (by have:=f.key;omega));have G:=hIz (λ(w1:ϙ) b n (i:WR w1 a.heap.size B b) (af:b.length<=9001000000000) (c:a.heap.size<=w1.heap.size)=>BI a.heap.size B b n w1 c i ϝ);have u:=hIz (λ(w1:ϙ) b (i:WR w1 a.heap.size B b) (af:b.length<=9001000000000) (c:Ϝ a w1)=>GI a.heap.size B b y z x.row w1 c.size i ϝ (vl.Ab A c) f.row f.len f.err);have KF:=hIz (λ(w1:ϙ) b (i:WR w1 a.heap.size B b) (af:b.length<=9001000000000) (c:a.heap.size<=w1.heap.size)=>ZD a.heap.size B b x.met w1 c i ϝ);have HR:=Gi f.len f.err;have HK:=f.key;have F:=Iv x.key.data.toList;rw[AL]at F;have E:ϛ (d++AN x=d++txt x.key.data.toList++AU x.time++AU x.seq++C7 x.row++GM x.met):=by
  show _=_;unfold AN;simp only[append_assoc]
 rw[E.o];obtain⟨T,P⟩:=nM (txt x.key.data.toList);rw[P]at H F⊢;obtain⟨R,O⟩:=nM (C7 x.row);rw[O]at u HR⊢;obtain⟨n,hn⟩:=nM x.row.length;show Calls Tryz.prog _ #[_,.agg #[.string x.key,vI x.time,vI x.seq,vS y x.row.length z,.bool x.met]] w _;rw[hn]at u⊢;clear P O hn A f E;go_enter func179,ntmps179;go_wp2_with fail;generalize m:(World.alloc w _)=V;have p:Ϝ w V:=by rw[<-m];exact Ϩ
 have j:Ai V w 166:=by subst m;exact⟨_,_,World.alloc_heap_new _ _⟩
 have k:ϛ (CW V w.heap.size 166 0 (.string x.key)/\CW V w.heap.size 166 1 (vI x.time)/\CW V w.heap.size 166 2 (vI x.seq)/\CW V w.heap.size 166 3 (vS y n z)/\CW V w.heap.size 166 4 (.bool x.met)):=by
  refine⟨⟨j,?_⟩,⟨j,?_⟩,⟨j,?_⟩,⟨j,?_⟩,⟨j,?_⟩⟩<;>(subst m;go_simp)
 have q:ϛ (keepW w V/\Below a.heap.size w V):=⟨keepW.of p,p.mono Q.size⟩;have S:Ϝ a V:=Q.trans q.o.2;have an:WR V a.heap.size B d:=h.below p;clear m p j h;have c0:=k.o.1.2;refine(H.o V an S.size).mono ?_;rintro e w1 ⟨rfl,ao,c,ae⟩;have ag:=(k.o.2.1.keep ae Ϟ Ϟ).2;clear c0;have U:=S.trans c;go_wp2_with fail;refine(G.o w1 _ _ ao (by rw[lAp];omega) U.size).mono ?_;rintro e w2 ⟨rfl,ap,Y,aj⟩;have ab:=ae.trans aj;have c2:=(k.o.2.2.1.keep ab Ϟ Ϟ).2;clear ag;have W:=U.trans Y;go_wp2_with fail;refine(G.o w2 _ _ ap (by simp only[lAp,Am];omega) W.size).mono ?_;rintro e w3 ⟨rfl,aq,Z,ak⟩;have ac:=ab.trans ak;have c3:=(k.o.2.2.2.1.keep ac Ϟ Ϟ).2;clear c2;have X:=W.trans Z;go_wp2_with fail;refine(u.o w3 _ aq (by simp only[lAp,Am];omega) X).mono ?_;rintro e w4 ⟨rfl,ar,aa,al⟩;have ad:=ac.trans al;have c4:=(k.o.2.2.2.2.keep ad Ϟ Ϟ).2;clear c3;have ah:=X.trans aa;go_wp2_with fail;refine(KF.o w4 _ ar (by simp only[lAp,Am];omega) ah.size).mono ?_;rintro e w5 ⟨rfl,au,ai,am⟩;go_wp2
 go_end0
 exact⟨rfl,au,q.o.2.trans (c.trans (Y.trans (Z.trans (aa.trans ai)))),q.o.1.trans (ad.trans am)⟩
structure SB(w:World)(N:Nat)(vs:List Value):Prop where
 cell:∀j v,vs[j]? =some v->Δ w N j v
 frz:∀j,Ξ w N j
 lt:N<w.heap.size
theorem SB.new(w:ϙ)(vs:List Value)(t:TypeId):SB (w.alloc (.cells vs.toArray t)) w.heap.size vs:=
 ⟨λj v h=>by rw[World.cell?_alloc_new];simpa using h,λj=>by go_simp,ϟ⟩
theorem SB.same(h:SB w N vs)(b:w'.heap[N]? =w.heap[N]?)(c:w.heap.size<=w'.heap.size):SB w' N vs:=
 ⟨λj v d=>(cOb (w:=w) (a:=⟨N,j,none⟩) b).trans (h.cell j v d),λj=>(World.frozen?_of_block (w:=w) (a:=⟨N,j,none⟩) b).trans (h.frz j),Nat.lt_of_lt_of_le h.lt c⟩
theorem SB.below(h:SB w N vs)(a:Ϝ w w'):SB w' N vs:=h.same (a.block N h.lt) a.size
theorem SB.keep(h:SB w N vs)(a:Al R w w')(b:N≠R):SB w' N vs:=h.same (a.2 N h.lt b) a.1.size
theorem SB.set(h:SB w N vs)(j:Nat)(v:Value)(b:j<vs.length):SB (φ w N j v) N (vs.set j v):=by
 refine⟨λi u a=>?_,λi=>by rw[World.frozen?_setCell];exact h.frz i,by simpa using h.lt⟩;by_cases e:j=i
 ·subst e;have c:=h.cell j _ (gEe b);rw[World.cell?_setCell_same' _ _ _ (by rw[c];rfl)];rw[List.getElem?_set_self b]at a;exact a
 ·rw[List.getElem?_set_ne e]at a;rw[World.cell?_setCell_other (h:=λk=>e (by injection k))];exact h.cell i u a
theorem RR.set{j:Nat}(h:RR w R s)(c:N≠R):RR (φ w N j v) R s:=by
 have b:(w.setCell ⟨N,j,none⟩ v).heap[R]? =w.heap[R]? :=heap_setCell_other _ _ _ _ (λe=>c e.symm);exact⟨(cOb (w:=w) (a:=⟨R,0,none⟩) b).trans h.cell,(World.frozen?_of_block (w:=w) (a:=⟨R,0,none⟩) b).trans h.frz,A0 h.tb b⟩
theorem SB.there(h:SB w N vs):w.there N 0 vs.length:=λj a=>by
 rw[Nat.zero_add];exact⟨by rw[h.cell j _ (gEe a)];rfl,h.frz j⟩
theorem BS{g b:Nat}(h:g≠b):∀(l:List Value) (o:Nat) (w:ϙ),(w.setCells b o l).heap[g]? =w.heap[g]?
 |[],_,_=>rfl
 |v::l,o,w=>(BS h l (o+1) _).trans (heap_setCell_other _ _ _ _ h)
theorem RR.sets(h:RR w R s)(c:N≠R)(l:List Value)(o:Nat):RR (w.setCells N o l) R s:=by
 have b:(w.setCells N o l).heap[R]? =w.heap[R]? :=BS (λe=>c e.symm) l o w;exact⟨(cOb (w:=w) (a:=⟨R,0,none⟩) b).trans h.cell,(World.frozen?_of_block (w:=w) (a:=⟨R,0,none⟩) b).trans h.frz,A0 h.tb b⟩
theorem C1{W:ϙ}(h:Al R w W)(c:w.heap.size<=N)(l:List Value)(o:Nat):Al R w (W.setCells N o l):=
 ⟨jn.below_setCells (Nat.zero_le _) l o _ h.1,λg b a=>(BS ϝ l o W).trans (h.2 g b a)⟩
theorem ZH:(Tryz.prog.info? 166).map (·.size)=some 5:=Ϡ
def WP(w:World)(C B:Nat):Prop:=CW w C 66 0 (.pointer (τ B))
theorem WP.keep(h:WP w C B)(a:keepW w w'):WP w' C B:=CW.keep h a Ϟ Ϟ
theorem WP.below(h:WP w C B)(a:Ϝ w w'):WP w' C B:=CW.below h a
theorem AbN(a:ϙ)(C B:Nat)(b:List UInt8)(e:EM)(x:Ent)(w:ϙ)(i:Ϝ a w)(h:WR w a.heap.size B b)(d:WP w C B)(j:ER a e x)(k:okW x)(p:b.length<=9000000000000):
 η 178 #[e.val,μ C] w (WO a.heap.size B w (b++AN x)):=by
 have f:=hIz (λ(w1:ϙ) (c:Ϝ w w1)=>Xn a B b e x w1 (bT i c) (h.below c) j k p);have A:=d.2;have z:=A2 d.1;have q:=i.size;unfold EM.val hdV at f⊢;clear j k h d;go_enter func178,ntmps178;go_wp2_with fail;refine(f.o _ Ϩ).mono ?_;rintro y w1 ⟨rfl,u,c,m⟩;go_wp2
 go_end0
 exact⟨rfl,u,(Ϩ.mono q).trans c,(keepW.of Ϩ).trans m⟩
def Bw(l:List Ent):List UInt8:=AU l.length++l.flatMap AN
theorem Na(h:∀x∈l,okW x):(l.flatMap AN).length<=4000 * l.length:=by
 induction l with
 |nil=>simp
 |cons x l ih=>
  have a:=Xm (h x (mem_cons_self ..));have b:=ih (λy hy=>h y (mem_cons_of_mem _ hy));rw[flatMap_cons,lAp,length_cons];omega
theorem Dm{α:Type} [Inhabited α](f:α->List UInt8)(l:List α)(k:Nat)(h:k<l.length):(l.take (k+1)).flatMap f=(l.take k).flatMap f++f (l.getD k ϰ):=by
 rw[take_succ_eq_append_getElem h,flatMap_append];simp[gDe,h]
theorem RF(c:ϙ)(C B:Nat)(d:List UInt8)(a:Ϛ)(cap:Nat)(j:List EM)(l:List Ent)(w:ϙ)(U:Ϝ c w)(h:WR w c.heap.size B d)(hc:WP w C B)(ha:Cm c a j)(m:ERs c j l)(Y:∀x∈l,okW x)(hn:l.length<=10000)(hl:d.length+4000 * l.length<=8900000000000):
 η 180 #[μ B,vS a l.length cap,.func (.func 178) #[] #[μ C]] w (WO c.heap.size B w (d++Bw l)):=by
 have KN:=hIz (λn=>BI c.heap.size B d n w U.size h ϝ);have A:ϛ (Cm c a j/\j.length=l.length/\∀i,i<l.length->ER c (j.getD i ϰ) (l.getD i ϰ)):=⟨ha,m.1,m.2⟩;have M:ϛ (∀i,i<l.length->okW (l.getD i ϰ)):=λi hi=>Y _ (by rw[gDe,gEe hi];exact getElem_mem hi);have HT:ϛ (∀k,((l.take k).flatMap AN).length<=4000 * l.length):=λk=>by
  have:=Na (l:=l.take k) (λx hx=>Y x (mem_of_mem_take hx));have h2:(l.take k).length<=l.length:=List.length_take_le' ..;omega
 have L:ϛ (∀k,k<l.length->(l.take (k+1)).flatMap AN=(l.take k).flatMap AN++AN (l.getD k ϰ)):=λk z=>Dm AN l k z;have Z:ϛ (d++AU l.length++(l.take l.length).flatMap AN=d++Bw l):=by
  show _=_;unfold Bw;rw[take_length,append_assoc]
 have O:ϛ (∀k,k<l.length->∀w1 f,Ϝ c w1->WR w1 c.heap.size B f->WP w1 C B->f.length<=9000000000000->CT 178 #[(j.getD k ϰ).val,μ C] w1 (WO c.heap.size B w1 (f++AN (l.getD k ϰ)))):=λk z w1 f H h1 ae ah=>AbN c C B f _ _ w1 H h1 ae (m.2 k z) (M.o k z) ah;obtain⟨n,I⟩:=nM l.length;have HN:=hqz I;rw[I]at A M HT L O hl hn⊢;rw[I]at Z;have HC:=hqz hc;have F:=hqz U;clear ha m Y I h hc U;go_enter func180,ntmps180;go_wp2_with fail;refine(KN.o _).mono ?_;rintro e w1 ⟨rfl,ac,H,ab⟩;have aa:ϛ (WR w1 c.heap.size B (d++AU n)/\Below c.heap.size w w1/\keepW w w1):=⟨ac,H,ab⟩;clear ac H ab KN;go_wp2_with fail
 go_loopw [14] (λi wr=> ∃k:Nat,k<=n/\i=vI k/\WR wr c.heap.size B (d++AU n++(l.take k).flatMap AN)/\Below c.heap.size w wr/\keepW w wr) (λi _=>n - (intOf i).toNat)
 case atStart=>exact⟨0,Nat.zero_le _,rfl,by simpa using aa.o.1,aa.o.2⟩
 case round=>
  obtain⟨k,z,rfl,J,y,V⟩:=hrel;by_cases W:k<n
  ·obtain⟨b,al,e,P,Q,S,G,T⟩:=A.o.1 k (by rw[A.o.2.1];exact W);subst e;have p:=F.o.trans y;replace P:=cLz p P;replace Q:=cLz p Q;replace S:=cLz p S;replace G:=cLz p G;replace T:=cLz p T;have aj:=HT.o k;have K:=O.o k W;unfold EM.val at K;unfold hdV at K G;have HS:ϛ ((l.take (k+1)).flatMap AN=(l.take k).flatMap AN++AN (l.getD k ϰ)):=L.o k W;obtain⟨E,m⟩:=nM (AN (l.getD k ϰ));rw[m]at K HS;obtain⟨X,hX⟩:=nM (j.getD k ϰ);rw[hX]at K P Q S G T;have KH:ϛ (∀w1 f,Ϝ c w1->WR w1 c.heap.size B f->WP w1 C B->f.length<=9000000000000->CT 178 #[.agg #[.string X.key,vI X.time,vI X.seq,vS X.row.1 X.row.2.1 X.row.2.2,.bool X.met],μ C] w1 (WO c.heap.size B w1 (f++E))):=K;have q:ϛ (WR wr c.heap.size B (d++AU n++(l.take k).flatMap AN)/\Below c.heap.size w wr/\keepW w wr):=⟨J,y,V⟩;have ak:=y.size;have i1:(0:Int)<=(k:Int):=ϝ;have i2:(k:Int)<(n:Int):=ϝ;clear K m hX J y V p O A M L;go_wp2_with fail;have u:Ϝ wr (ξ wr #[.string X.key,vI X.time,vI X.seq,vS X.row.1 X.row.2.1 X.row.2.2,.bool X.met] 166):=Ϩ;refine(KH.o _ _ ((F.o.trans q.o.2.1).trans (u.mono (by have:=F.o.size;omega))) (q.o.1.below u) ((HC.o.keep q.o.2.2).below u) (by simp only[lAp,Am];omega)).mono ?_;rintro e w2 ⟨rfl,ai,ad,af⟩;go_wp2;go_roundw
   case rel=>exact⟨k+1,ϝ,by go_num,by rw[HS.o,<-append_assoc];exact ai,q.o.2.1.trans ((u.mono (by have:=F.o.size;omega)).trans ad),q.o.2.2.trans ((keepW.of u).trans af)⟩
   case measure=>simp[intOf];omega
  ·have ag:k=n:=ϝ;subst ag;have i2:¬((k:Int)<(k:Int)):=ϝ;rw[Z.o]at J;go_wp2
   go_end0
   exact⟨rfl,J,y,V⟩
structure RP(w:World)(C R:Nat):Prop where
 cell:Δ w C 0 (.pointer (τ R))
 ne:C≠R
 lt:C<w.heap.size
theorem RP.keep(h:RP w C R)(b:Al R w w'):RP w' C R:=⟨(cOb (w:=w) (a:=⟨C,0,none⟩) (b.2 C h.lt h.ne)).trans h.cell,h.ne,Nat.lt_of_lt_of_le h.lt b.1.size⟩
theorem OE.keptR{a:List EM}(h:OE w base v a l)(c:Al R w w')(d:Ai w R 124):OE w' base v a l:=
 h.same c.1.size (λg i t b f=>c.2 g (A2 ⟨_,_,b⟩) (λe=>by
  subst e;have:t≠124:=by
   rcases f with⟨_,rfl⟩|rfl
   ·decide
   ·decide
  exact tyAt_apart ⟨_,_,b⟩ d this rfl))
theorem RR.grown{o:Obj}(h:RR w1 R s)(c:(w1.alloc o).grownBy w2 row)(d:row≠some R):RR w2 R s:=by
 have b:w2.heap[R]? =w1.heap[R]? :=Eo (bR.alloc nR o) c h.lt d;exact⟨(cOb (w:=w1) (a:=⟨R,0,none⟩) b).trans h.cell,(World.frozen?_of_block (w:=w1) (a:=⟨R,0,none⟩) b).trans h.frz,A0 h.tb b⟩
theorem DJ{o:Obj}(h:Al R w w1)(a:(w1.alloc o).grownBy w2 row)(d:∀g,row=some g->w.heap.size<=g):Al R w w2:=
 ⟨(((h.1.alloc (Nat.zero_le _) o).grown a (Nat.zero_le _) (λk f=>Nat.zero_le _))),λg b c=>(Eo (bR.alloc nR o) a (Nat.lt_of_lt_of_le b h.1.size) (λe=>by have:=d g e;omega)).trans (h.2 g b c)⟩
def F1(C:Nat):Value:=.func (.func 178) #[] #[μ C]
def FP(w:World)(D C:Nat):Prop:=CW w D 240 0 (F1 C)
theorem FP.keep(h:FP w D C)(a:keepW w w'):FP w' D C:=CW.keep h a Ϟ Ϟ
theorem FP.below(h:FP w D C)(a:Ϝ w w'):FP w' D C:=CW.below h a
theorem AbO(b:ϙ)(C D B:Nat)(c:List UInt8)(a:Ϛ)(cap:Nat)(f:List EM)(l:List Ent)(w:ϙ)(y:Ϝ b w)(h:WR w b.heap.size B c)(i:WP w C B)(k:FP w D C)(ha:Cm b a f)(j:ERs b f l)(u:∀x∈l,okW x)(p:l.length<=10000)(m:c.length+4000 * l.length<=8900000000000):
 η 182 #[vS a l.length cap,μ C,μ D] w (WO b.heap.size B w (c++Bw l)):=by
 have d:ϛ (CT 180 #[μ B,vS a l.length cap,F1 C] w (WO b.heap.size B w (c++Bw l))):=RF b C B c a cap f l w y h i ha j u p m;have H:=i.2;have A:=k.2;unfold F1 at d A;obtain⟨n,q⟩:=nM l.length;rw[q]at d⊢;clear ha j u h i k q p m;go_enter func182,ntmps182;go_wp2_with fail;refine d.o.mono ?_;rintro G w1 ⟨rfl,F,z,E⟩;go_wp2
 go_end0
 exact⟨rfl,F,z,E⟩
def Hw(l:List (List Ent)):List UInt8:=AU l.length++l.flatMap Bw
theorem Nb(h:∀x∈l,okW x):(Bw l).length<=8+4000 * l.length:=by
 have:=Na h;unfold Bw;rw[lAp,Am];omega
theorem Nc{l:List (List Ent)}(h:∀r∈l,∀x∈r,okW x):(l.flatMap Bw).length<=8 * l.length+4000 * l.flatten.length:=by
 induction l with
 |nil=>simp
 |cons x l ih=>
  have a:=Nb (h x (mem_cons_self ..));have b:=ih (λy hy=>h y (mem_cons_of_mem _ hy));rw[flatMap_cons,lAp,length_cons,flatten_cons,lAp];omega
theorem Gj{α:Type}(l:List (List α))(k:Nat):(l.take k).flatten.length<=l.flatten.length:=by
 have:=congrArg (λz=>z.flatten.length) (take_append_drop k l)
 try dsimp only at this
 rw[flatten_append,lAp]at this;omega
theorem EU{α:Type}{l:List (List α)}{r:List α}(h:r∈l):r.length<=l.flatten.length:=by
 induction l with
 |nil=>cases h
 |cons x l ih=>
  rw[flatten_cons,lAp];rcases mem_cons.1 h with rfl|h
  ·omega
  ·have:=ih h;omega
theorem ZI(c:ϙ)(C D B:Nat)(j:List UInt8)(a:Ϛ)(cap:Nat)(rs:List Part)(l:List (List Ent))(w:ϙ)(Q:Ϝ c w)(h:WR w c.heap.size B j)(hc:WP w C B)(hd:FP w D C)(ha:FA c a (rs.map (·.1)))(ai:∀p∈rs,p.1.2.1=p.2.length)(ag:∀p∈rs,Cm c p.1.1 p.2)(ak:rs.length=l.length)(y:∀i,i<l.length->ERs c (rs.getD i ϰ).2 (l.getD i ϰ))(H:∀r∈l,∀x∈r,okW x)(hn:l.length<=10000)(hf:l.flatten.length<=10000)(hl:j.length<=4000000000000):
 η 181 #[μ B,vS a l.length cap,.func (.func 182) #[] #[μ C,μ D]] w (WO c.heap.size B w (j++Hw l)):=by
 have KN:=hIz (λn=>BI c.heap.size B j n w Q.size h ϝ);have V:∀i,i<l.length->l.getD i ϰ∈l:=λi T=>by rw[gDe,gEe T];exact getElem_mem T
 have W:∀i,i<l.length->rs.getD i ϰ∈rs:=λi T=>by rw[gDe,gEe ϝ];exact getElem_mem _
 have Y:=hqz ha;have HT:ϛ (∀k,((l.take k).flatMap Bw).length<=40100000):=λk=>by
  have:=Nc (l:=l.take k) (λr X=>H r (mem_of_mem_take X));have h2:(l.take k).length<=l.length:=List.length_take_le' ..;have P:=Gj l k;omega
 have J:ϛ (∀k,k<l.length->(l.take (k+1)).flatMap Bw=(l.take k).flatMap Bw++Bw (l.getD k ϰ)):=λk d=>Dm Bw l k d;have Z:ϛ (j++AU l.length++(l.take l.length).flatMap Bw=j++Hw l):=by
  show _=_;unfold Hw;rw[take_length,append_assoc]
 have M:ϛ (∀k,k<l.length->(rs.map (·.1)).getD k (none,0,0)=((rs.getD k ϰ).1.1,(l.getD k ϰ).length,(rs.getD k ϰ).1.2.2)):=λk d=>by
  have e1:(rs.map (·.1)).getD k (none,0,0)=(rs.getD k ϰ).1:=by
   rw[gDe,getElem?_map,gDe,gEe ϝ];rfl
  rw[e1,<-(y k d).1,<-ai _ (W k d)]
 have O:ϛ (∀k,k<l.length->∀w1 f,Ϝ c w1->WR w1 c.heap.size B f->WP w1 C B->FP w1 D C->f.length<=8900000000000 - 4000 * 10000+4000000000000->f.length+4000 * (l.getD k ϰ).length<=8900000000000->CT 182 #[vS (rs.getD k ϰ).1.1 (l.getD k ϰ).length (rs.getD k ϰ).1.2.2,μ C,μ D] w1 (WO c.heap.size B w1 (f++Bw (l.getD k ϰ)))):=λk d w1 f G h1 ao ap ax au=>by
  have S:=EU (V k d);exact AbO c C D B f _ _ (rs.getD k ϰ).2 _ w1 G h1 ao ap (ag _ (W k d)) (y k d) (H _ (V k d)) ϝ au
 have L:ϛ (∀k,k<l.length->(l.getD k ϰ).length+((l.take k).flatten.length)<=10000):=λk d=>by
  have P:=Gj l (k+1);rw[take_succ_eq_append_getElem d,flatten_append,lAp]at P;have e:l.getD k ϰ=l[k]:=by rw[gDe,gEe d];rfl
  rw[e];simp at P⊢;simp at hf;omega
 have aa:ϛ (∀k,((l.take k).flatMap Bw).length<=80000+4000 * (l.take k).flatten.length):=λk=>by
  have:=Nc (l:=l.take k) (λr X=>H r (mem_of_mem_take X));have h2:(l.take k).length<=l.length:=List.length_take_le' ..;omega
 obtain⟨n,F⟩:=nM l.length;have HN:=hqz F;rw[F]at J O hn M L⊢;rw[F]at Z;have HC:ϛ (WP w C B/\FP w D C):=⟨hc,hd⟩;have HB:=hqz Q;have am:ϛ (rs.length=n):=ak.trans F;clear ha y H F h hc Q hd ai ag ak V W hf HT;go_enter func181,ntmps181;go_wp2_with fail;refine(KN.o _).mono ?_;rintro e w1 ⟨rfl,al,G,ah⟩;have ab:ϛ (WR w1 c.heap.size B (j++AU n)/\Below c.heap.size w w1/\keepW w w1):=⟨al,G,ah⟩;clear al G ah KN;go_wp2_with fail
 go_loopw [14] (λi wr=> ∃k:Nat,k<=n/\i=vI k/\WR wr c.heap.size B (j++AU n++(l.take k).flatMap Bw)/\Below c.heap.size w wr/\keepW w wr) (λi _=>n - (intOf i).toNat)
 case atStart=>exact⟨0,Nat.zero_le _,rfl,by simpa using ab.o.1,ab.o.2⟩
 case round=>
  obtain⟨k,d,rfl,I,z,U⟩:=hrel;by_cases A:k<n
  ·obtain⟨b,az,e,q⟩:=Y.o k (by rw[lMp,am.o];exact A);subst e;rw[M.o k A]at q;unfold hdV at q;dsimp only at q;have ae:=HB.o.trans z;replace q:=cLz ae q;have av:=aa.o k;have aj:=L.o k A;have K:=O.o k A;have HS:ϛ ((l.take (k+1)).flatMap Bw=(l.take k).flatMap Bw++Bw (l.getD k ϰ)):=J.o k A;obtain⟨E,y⟩:=nM (Bw (l.getD k ϰ));rw[y]at K HS;obtain⟨m,hm⟩:=nM ((l.getD k ϰ).length);rw[hm]at K q aj;obtain⟨ad,ac⟩:=nM ((rs.getD k ϰ).1.1);obtain⟨cp,af⟩:=nM ((rs.getD k ϰ).1.2.2);rw[ac,af]at K q;obtain⟨fl,S⟩:=nM ((l.take k).flatten.length);rw[S]at av aj;have KH:ϛ (∀w1 f,Ϝ c w1->WR w1 c.heap.size B f->WP w1 C B->FP w1 D C->f.length<=8900000000000 - 4000 * 10000+4000000000000->f.length+4000 * m<=8900000000000->CT 182 #[vS ad m cp,μ C,μ D] w1 (WO c.heap.size B w1 (f++E))):=K;have u:ϛ (WR wr c.heap.size B (j++AU n++(l.take k).flatMap Bw)/\Below c.heap.size w wr/\keepW w wr):=⟨I,z,U⟩;have ay:=z.size;have i1:(0:Int)<=(k:Int):=ϝ;have i2:(k:Int)<(n:Int):=ϝ;clear K y hm ac af S I z U ae O Y J M L aa;go_wp2_with fail;refine(KH.o _ _ (HB.o.trans u.o.2.1) u.o.1 (HC.o.1.keep u.o.2.2) (HC.o.2.keep u.o.2.2) (by simp only[lAp,Am];omega) (by simp only[lAp,Am];omega)).mono ?_;rintro e w2 ⟨rfl,aw,an,aq⟩;go_wp2;go_roundw
   case rel=>exact⟨k+1,ϝ,by go_num,by rw[HS.o,<-append_assoc];exact aw,u.o.2.1.trans an,u.o.2.2.trans aq⟩
   case measure=>simp[intOf];omega
  ·have ar:k=n:=ϝ;subst ar;have i2:¬((k:Int)<(k:Int)):=ϝ;rw[Z.o]at I;go_wp2
   go_end0
   exact⟨rfl,I,z,U⟩
def G1(C:Nat):Value:=.func (.func 204) #[] #[μ C]
structure GP(w:World)(D C R:Nat):Prop where
 cell:Δ w D 0 (G1 C)
 ne:D≠R
 lt:D<w.heap.size
theorem GP.keep(h:GP w D C R)(b:Al R w w'):GP w' D C R:=⟨(cOb (w:=w) (a:=⟨D,0,none⟩) (b.2 D h.lt h.ne)).trans h.cell,h.ne,Nat.lt_of_lt_of_le h.lt b.1.size⟩
structure RS(w:World)(base:Nat)(v:Value)(ps:List Part)(l:List (List Ent)):Prop where
 own:w.ownsRow base 33 1 v ps.length (ps.map λp=>hdV p.1)
 len:ps.length=l.length
 runs:∀i,i<l.length->(ps.getD i ϰ).1.2.1=(l.getD i ϰ).length/\OE w base (hdV (ps.getD i ϰ).1) (ps.getD i ϰ).2 (l.getD i ϰ)
theorem RS.keptR{f:List Part}{l:List (List Ent)}(h:RS w base v f l)(d:Al R w w')(a:Ai w R 124):RS w' base v f l:=
 ⟨A4 h.own (λg b=>d.2 g (AE h.own b).2 (tyAt_apart (Av h.own b) a Ϟ)),h.len,λi c=>⟨(h.runs i c).1,OE.keptR (h.runs i c).2 d a⟩⟩
theorem AbP:(Tryz.prog.info? 33).map (λi=>(i.zero,i.size,i.bytes))=some (some (vS none 0 0),1,24):=Ϡ
def Ci(c:ch.Cnt):List UInt8:=C7 c.r++AU c.n
def Hx(v:List ch.Cnt):List UInt8:=AU v.length++v.flatMap Ci
structure okC(c:ch.Cnt):Prop where
 row:B9 c.r
 len:c.r.length<=8
 err:A5 c.r=0
theorem Lf{c:ch.Cnt}(h:okC c):(Ci c).length<=2000:=by
 have:=Gi h.len h.err;unfold Ci;rw[lAp,Am];omega
theorem ZJ{l:List ch.Cnt}(h:∀x∈l,okC x):(l.flatMap Ci).length<=2000 * l.length:=by
 induction l with
 |nil=>simp
 |cons x l ih=>
  have a:=Lf (h x (mem_cons_self ..));have b:=ih (λy hy=>h y (mem_cons_of_mem _ hy));rw[flatMap_cons,lAp,length_cons];omega
theorem AbQ(base C B:Nat)(d:List UInt8)(a:Ϛ)(cap:Nat)(c:ch.Cnt)(w:ϙ)(p:base<=w.heap.size)(h:WR w base B d)(m:WP w C B)(ha:vl.rowAt w a c.r)(f:okC c)(P:d.length<=9000000000000):
 η 58 #[.agg #[vS a c.r.length cap,vI c.n],μ C] w (WO base B w (d++Ci c)):=by
 have x:=hIz (λ(w1:ϙ) (b:Ϝ w w1)=>GI base B d a cap c.r w1 (Nat.le_trans p b.size) (h.below b) ϝ (vl.Ab ha b) f.row f.len f.err);have z:ϛ (∀w1,WR w1 base B (d++C7 c.r)->base<=w1.heap.size->CT 60 #[μ B,vI c.n] w1 (WO base B w1 (d++Ci c))):=λw1 I b=>by
  have:=BI base B _ c.n w1 b I (by have:=Gi f.len f.err;rw[lAp];omega);unfold Ci;rw[<-append_assoc];exact this
 have O:=A2 m.1;have F:=m.2;obtain⟨n,y⟩:=nM c.r.length;rw[y]at x⊢;clear ha f h y;go_enter func58,ntmps58;go_wp2_with fail;generalize k:(World.alloc w _)=V;have i:Ϝ w V:=by rw[<-k];exact Ϩ
 have u:Ai V w 83:=by subst k;exact⟨_,_,World.alloc_heap_new _ _⟩
 have j:ϛ (CW V w.heap.size 83 0 (vS a n cap)/\CW V w.heap.size 83 1 (vI c.n)/\WP V C B):=by
  refine⟨⟨u,?_⟩,⟨u,?_⟩,m.below i⟩<;>(subst k;go_simp)
 clear k u m F;have A:=j.o.1.2;have L:=j.o.2.2.2;refine(x.o V i).mono ?_;rintro e w1 ⟨rfl,J,b,q⟩;replace L:=(j.o.2.2.keep q).2;have M:=(j.o.2.1.keep q Ϟ Ϟ).2;clear A;have H:base<=w1.heap.size:=Nat.le_trans (Nat.le_trans p i.size) b.size;go_wp2_with fail;refine(z.o w1 J H).mono ?_;rintro e w2 ⟨rfl,K,E,G⟩;go_wp2
 go_end0
 exact⟨rfl,K,(i.mono p).trans (b.trans E),(keepW.of i).trans (q.trans G)⟩
theorem ZK(c:ϙ)(C B:Nat)(f:List UInt8)(a:Ϛ)(cap:Nat)(l:List ch.Cnt)(w:ϙ)(Q:Ϝ c w)(h:WR w c.heap.size B f)(hc:WP w C B)(ha:ch.viewAt c a l)(U:∀x∈l,okC x)(hn:l.length<=10000)(hl:f.length<=6000000000000):
 η 57 #[μ B,vS a l.length cap,.func (.func 58) #[] #[μ C]] w (WO c.heap.size B w (f++Hx l)):=by
 have KN:=hIz (λn=>BI c.heap.size B f n w Q.size h ϝ);have V:=hqz ha;have M:ϛ (∀i,i<l.length->okC (l.getD i ϰ)):=λi hi=>U _ (by rw[gDe,gEe hi];exact getElem_mem hi);have HT:ϛ (∀k,((l.take k).flatMap Ci).length<=20000000):=λk=>by
  have:=ZJ (l:=l.take k) (λx hx=>U x (mem_of_mem_take hx));have h2:(l.take k).length<=l.length:=List.length_take_le' ..;omega
 have L:ϛ (∀k,k<l.length->(l.take (k+1)).flatMap Ci=(l.take k).flatMap Ci++Ci (l.getD k ϰ)):=λk G=>Dm Ci l k G;have Y:ϛ (f++AU l.length++(l.take l.length).flatMap Ci=f++Hx l):=by
  show _=_;unfold Hx;rw[take_length,append_assoc]
 have O:ϛ (∀k,k<l.length->∀w1 j d p,c.heap.size<=w1.heap.size->WR w1 c.heap.size B j->WP w1 C B->vl.rowAt w1 d (l.getD k ϰ).r->j.length<=9000000000000->CT 58 #[.agg #[vS d (l.getD k ϰ).r.length p,vI (l.getD k ϰ).n],μ C] w1 (WO c.heap.size B w1 (j++Ci (l.getD k ϰ)))):=λk G w1 j d p F h1 af hr ai=>AbQ c.heap.size C B j d p _ w1 F h1 af hr (M.o k G) ai;obtain⟨n,H⟩:=nM l.length;have HN:=hqz H;rw[H]at M L O hn⊢;rw[H]at Y;have HC:=hqz hc;have J:=hqz Q;clear ha U H h hc Q M;go_enter func57,ntmps57;go_wp2_with fail;refine(KN.o _).mono ?_;rintro e w1 ⟨rfl,ad,F,ab⟩;have aa:ϛ (WR w1 c.heap.size B (f++AU n)/\Below c.heap.size w w1/\keepW w w1):=⟨ad,F,ab⟩;clear ad F ab KN;go_wp2_with fail
 go_loopw [14] (λi wr=> ∃k:Nat,k<=n/\i=vI k/\WR wr c.heap.size B (f++AU n++(l.take k).flatMap Ci)/\Below c.heap.size w wr/\keepW w wr) (λi _=>n - (intOf i).toNat)
 case atStart=>exact⟨0,Nat.zero_le _,rfl,by simpa using aa.o.1,aa.o.2⟩
 case round=>
  obtain⟨k,G,rfl,I,u,S⟩:=hrel;by_cases T:k<n
  ·obtain⟨b,am,d,p,e,z,ac,P⟩:=V.o k (by rw[HN.o];exact T);subst e;have A:=J.o.trans u;replace z:=cLz A z;replace P:=cLz A P;have Z:ϛ (∀W,Ϝ wr W->vl.rowAt W d (l.getD k ϰ).r):=λW hW=>vl.Ab (vl.Ab ac A) hW;have ak:=HT.o k;have K:=O.o k T;have HS:ϛ ((l.take (k+1)).flatMap Ci=(l.take k).flatMap Ci++Ci (l.getD k ϰ)):=L.o k T;obtain⟨E,hE⟩:=nM (Ci (l.getD k ϰ));rw[hE]at K HS;obtain⟨X,hX⟩:=nM (l.getD k ϰ);rw[hX]at K z P Z;obtain⟨m,hm⟩:=nM X.r.length;rw[hm]at K z;have KH:ϛ (∀w1 j d p,c.heap.size<=w1.heap.size->WR w1 c.heap.size B j->WP w1 C B->vl.rowAt w1 d X.r->j.length<=9000000000000->CT 58 #[.agg #[vS d m p,vI X.n],μ C] w1 (WO c.heap.size B w1 (j++E))):=K;have y:ϛ (WR wr c.heap.size B (f++AU n++(l.take k).flatMap Ci)/\Below c.heap.size w wr/\keepW w wr):=⟨I,u,S⟩;have al:=u.size;have i1:(0:Int)<=(k:Int):=ϝ;have i2:(k:Int)<(n:Int):=ϝ;clear K hE hX hm I u S A O V L ac;go_wp2_with fail;have q:Ϝ wr (ξ wr #[vS d m p,vI X.n] 83):=Ϩ;refine(KH.o _ _ _ _ (by have:=J.o.size;have:=q.size;omega) (y.o.1.below q) ((HC.o.keep y.o.2.2).below q) (Z.o _ q) (by simp only[lAp,Am];omega)).mono ?_;rintro e w2 ⟨rfl,aj,ae,ag⟩;go_wp2;go_roundw
   case rel=>exact⟨k+1,ϝ,by go_num,by rw[HS.o,<-append_assoc];exact aj,y.o.2.1.trans ((q.mono (by have:=J.o.size;omega)).trans ae),y.o.2.2.trans ((keepW.of q).trans ag)⟩
   case measure=>simp[intOf];omega
  ·have ah:k=n:=ϝ;subst ah;have i2:¬((k:Int)<(k:Int)):=ϝ;rw[Y.o]at I;go_wp2
   go_end0
   exact⟨rfl,I,u,S⟩
def ahd(l:List UInt8):List UInt8:=w4 l.length++l
def Xo(l:List UInt8):List UInt8×Int:=if 1048576<l.length then([],2)else(ahd l++w4 (crc (ahd l)),0)
theorem ZL(a:List UInt8)(s:ByteArray):(⟨a.toArray⟩:ByteArray)++s=⟨(a++s.data.toList).toArray⟩:=by
 apply ByteArray.ext;rw[ByteArray.data_append];simp
theorem AbR(a b:List UInt8):(⟨a.toArray⟩:ByteArray)++⟨b.toArray⟩=⟨(a++b).toArray⟩:=ZL a ⟨b.toArray⟩
theorem Xp(s:ByteArray)(w:ϙ)(h:Ju w):
 η 10 #[.string s] w (θ w (.tuple #[.string ⟨(Xo s.data.toList).1.toArray⟩,vI (Xo s.data.toList).2])):=by
 have d:=hIz (λn (w1:ϙ) (x:n<4294967296)=>QA n w1 x);have m:=hIz (λ(l:List UInt8) (w1:ϙ) (p:Ϝ w w1) (u:l.length<=100000000)=>Pq ⟨l.toArray⟩ w1 (EC h p) (by rw[size_mk];exact u));have b:s.data.toList.length=s.size:=AL s;have c:ϛ ((⟨(w4 s.size).toArray⟩:ByteArray)++s=⟨(ahd s.data.toList).toArray⟩):=by
  show _=_;unfold ahd;rw[b];exact ZL _ s
 by_cases k:1048576<s.size
 ·have a:ϛ (Xo s.data.toList=([],2)):=if_pos (by rw[b];exact k);rw[a.o];have y:(1048576:Int)<(s.size:Int):=ϝ;go_enter func10,ntmps10;go_wp2
  go_ret2
  exact⟨rfl,bR⟩
 ·have a:ϛ (Xo s.data.toList=(ahd s.data.toList++w4 (crc (ahd s.data.toList)),0)):=if_neg (by rw[b];exact k);rw[a.o];have y:¬(1048576:Int)<(s.size:Int):=ϝ;have G:IntKind.u32.wrap (s.size:Int)=(s.size:Int):=LI s.size ϝ;have i:(ahd s.data.toList).length<=100000000:=by unfold ahd;rw[lAp,SR,b];omega
  have E:¬9223372036854775807<(w4 s.size).length+s.size:=by rw[SR];omega
  obtain⟨A,f⟩:=nM (ahd s.data.toList);rw[f]at c i⊢;clear f a;go_enter func10,ntmps10;go_wp2_with fail;refine(d.o s.size _ ϝ).mono ?_;rintro e w1 ⟨rfl,j⟩;go_upto_region 4 with fail;rw[c.o];go_wp2_with fail;refine(m.o A w1 j i).mono ?_;rintro e w2 ⟨rfl,rfl⟩;have z:=Y6 A;have F:¬9223372036854775807<A.length+(w4 (crc A)).length:=by rw[SR];omega
  go_wp2_with fail;refine(d.o (crc A) _ ϝ).mono ?_;rintro e H ⟨rfl,q⟩;go_wp2;rw[AbR]
  go_ret2
  exact⟨rfl,bT j q⟩
def bodyL(l:List UInt8):List UInt8:=(l.take (l.length - 4)).drop 4
def TF(l:List UInt8):List UInt8×Int:=
 if l.length<8 then([],1)else if 1048576<(bodyL l).length then([],1)else if l.take 4≠w4 (bodyL l).length then([],1)else
 if l.drop (l.length - 4)≠w4 (crc (l.take (l.length - 4)))then([],11)else(bodyL l,0)
theorem PX(s:ByteArray)(i j:Nat):s.extract i j=⟨((s.data.toList.take j).drop i).toArray⟩:=by
 apply ByteArray.ext;rw[ByteArray.data_extract];apply Array.ext';rw[Array.toList_extract];exact(List.drop_take ..).symm
theorem ZM(s:ByteArray)(w:ϙ)(h:Ju w)(hm:s.size<=9223372036854775807):
 η 14 #[.string s] w (θ w (.tuple #[.string ⟨(TF s.data.toList).1.toArray⟩,vI (TF s.data.toList).2])):=by
 have d:s.data.toList.length=s.size:=AL s;by_cases K:s.size<8
 ·have b:ϛ (TF s.data.toList=([],1)):=if_pos (by rw[d];exact K);rw[b.o];have i1:(s.size:Int)<8:=ϝ;go_enter func14,ntmps14;go_wp2
  go_ret2
  exact⟨rfl,bR⟩
 ·have i1:¬(s.size:Int)<8:=ϝ;obtain⟨RS,E⟩:=nM (TF s.data.toList);have I:=hqz E;rw[E];clear E;go_enter func14,ntmps14;go_upto_region 3 with fail
  go_region
  have i:s.extract 0 (s.size - 4)=⟨(s.data.toList.take (s.size - 4)).toArray⟩:=by rw[PX,List.drop_zero]
  have j:s.extract (s.size - 4) s.size=⟨(s.data.toList.drop (s.size - 4)).toArray⟩:=by rw[PX,take_of_length_le (by rw[d];exact Nat.le_refl _)]
  rw[i,j];obtain⟨a,ha⟩:=nM (⟨(s.data.toList.take (s.size - 4)).toArray⟩:ByteArray);have F:a.data.toList=s.data.toList.take (s.size - 4):=by rw[<-ha]
  have aa:a.size=s.size - 4:=by rw[<-AL,F,length_take,d];omega
  have p:=hqz F;rw[ha];have i3:(4:Int)<=(a.size:Int):=ϝ;clear i j ha F;go_upto_region 4 with fail
  go_region
  have i:a.extract 0 4=⟨(s.data.toList.take 4).toArray⟩:=by rw[PX,List.drop_zero,p.o,List.take_take,Nat.min_eq_left ϝ]
  have j:a.extract 4 (s.size - 4)=⟨(bodyL s.data.toList).toArray⟩:=by
   rw[PX,p.o];unfold bodyL;rw[d,List.take_take,Nat.min_self]
  rw[i,j];have G:(bodyL s.data.toList).length=s.size - 8:=by
   unfold bodyL;rw[length_drop,length_take,d];omega
  have x:ϛ (a=⟨(s.data.toList.take (s.size - 4)).toArray⟩):=by
   show _=_;rw[<-p.o]
  obtain⟨B,u⟩:=nM (bodyL s.data.toList);obtain⟨P,z⟩:=nM (s.data.toList.take 4);obtain⟨D,y⟩:=nM (s.data.toList.drop (s.size - 4));obtain⟨A,q⟩:=nM (s.data.toList.take (s.size - 4));have L:A.length=s.size - 4:=by rw[<-q,length_take,d];omega
  have c:ϛ (RS=if 1048576<B.length then([],1)else if P≠w4 B.length then([],1)else if D≠w4 (crc A)then([],11)else(B,0)):=by
   show _=_;rw[<-I.o];unfold TF;rw[if_neg (by rw[d];exact K),d,u,z,y,q]
  rw[u,z,y];rw[q]at x;rw[u]at G;have S:ϛ (B.length=s.size - 8/\A.length=s.size - 4):=⟨G,L⟩;clear G L;rw[x.o];clear i j p x I u z y q;have J:=hIz (λn (w1:ϙ) (hn:n<4294967296)=>QA n w1 hn);have T:=hIz (λ(l:List UInt8) (w1:ϙ) (V:Ϝ w w1) (Z:l.length<=100000000)=>Pq ⟨l.toArray⟩ w1 (EC h V) (by rw[size_mk];exact Z));have M:Ϝ w w.drew.drew:=bR.drew.drew;by_cases Q:1048576<B.length
  ·have b:ϛ (RS=([],1)):=by rw[if_pos Q]at c;exact c
   have i5:(1048576:Int)<(B.length:Int):=ϝ;go_wp2
   go_ret2
   exact⟨TN (by rw[b.o]) (by rw[b.o]),M⟩
  ·rw[if_neg Q]at c;have i5:¬(1048576:Int)<(B.length:Int):=ϝ;have hw:IntKind.u32.wrap (B.length:Int)=(B.length:Int):=LI _ ϝ;go_wp2_with fail;refine(J.o B.length _ ϝ).mono ?_;rintro e w1 ⟨rfl,W⟩;have H:Ϝ w w1:=M.trans W;by_cases m:P=w4 B.length
   rotate_left
   ·have b:ϛ (RS=([],1)):=by rw[if_pos m]at c;exact c
    have q2:(P==w4 B.length)=false:=by simpa using m
    go_wp2
    go_ret2
    exact⟨TN (by rw[b.o]) (by rw[b.o]),H⟩
   ·rw[if_neg (λk=>k m)]at c;have q2:(P==w4 B.length)=true:=by simpa using m
    have Y:=Y6 A;have U:A.length<=100000000:=by have:=S.o;omega
    clear m;go_wp2_with fail;refine(T.o A w1 H U).mono ?_;rintro e w2 ⟨rfl,rfl⟩;go_wp2_with fail;refine(J.o (crc A) _ Y).mono ?_;rintro e w3 ⟨rfl,X⟩;have O:Ϝ w w3:=bT H X;by_cases f:D=w4 (crc A)
    ·have b:ϛ (RS=(B,0)):=by rw[if_neg (λk=>k f)]at c;exact c
     have q3:(D==w4 (crc A))=true:=by simpa using f
     clear f;go_wp2
     go_ret2
     exact⟨TN (by rw[b.o]) (by rw[b.o]),O⟩
    ·have b:ϛ (RS=([],11)):=by rw[if_pos f]at c;exact c
     have q3:(D==w4 (crc A))=false:=by simpa using f
     clear f;go_wp2
     go_ret2
     exact⟨TN (by rw[b.o]) (by rw[b.o]),O⟩
def Pre{α:Type}(f:α->List UInt8)(ok:α->Prop):Prop:=∀x y t u,ok x->ok y->f x++t=f y++u->x=y/\t=u
def Bad{α:Type}(f:α->List UInt8)(ok:α->Prop)(s:List UInt8):Prop:=∀x t,ok x->s≠f x++t
def cat{α β:Type}(f:α->List UInt8)(g:β->List UInt8):α×β->List UInt8:=λp=>f p.1++g p.2
def okP{α β:Type}(a:α->Prop)(b:β->Prop):α×β->Prop:=λp=>a p.1/\b p.2
theorem Pre.cat{α β:Type}{f:α->List UInt8}{g:β->List UInt8}{a:α->Prop}{b:β->Prop}(m:Pre f a)(p:Pre g b):Pre (cat f g) (okP a b):=by
 rintro ⟨x,y⟩ ⟨z,A⟩ t u ⟨c,d⟩ ⟨i,j⟩ h;simp only[cd.cat,append_assoc]at h;obtain⟨rfl,k⟩:=m _ _ _ _ c i h;obtain⟨rfl,q⟩:=p _ _ _ _ d j k;exact⟨rfl,q⟩
theorem Bad.fst{α β:Type}{f:α->List UInt8}{g:β->List UInt8}{a:α->Prop}{b:β->Prop}(h:Bad f a s):Bad (cat f g) (okP a b) s:=by
 rintro ⟨x,y⟩ t ⟨c,_⟩ e;exact h x (g y++t) c (e.trans (append_assoc ..))
theorem Bad.snd{α β:Type}{f:α->List UInt8}{g:β->List UInt8}{a:α->Prop}{b:β->Prop}{x:α}(i:Pre f a)(j:a x)(h:Bad g b s):Bad (cat f g) (okP a b) (f x++s):=by
 rintro ⟨k,y⟩ t ⟨c,d⟩ e;simp only[cd.cat,append_assoc]at e;exact h y t d (i _ _ _ _ j c e).2
def lst{α:Type}(f:α->List UInt8):List α->List UInt8:=λl=>AU l.length++l.flatMap f
def okL{α:Type}(ok:α->Prop):List α->Prop:=λl=>l.length<=χ/\∀x∈l,ok x
def okN(n:Int):Prop:= -9223372036854775808<=n/\n<=9223372036854775807
theorem Bu:Pre AU okN:=by
 intro x y t u a hy h;obtain⟨b,c⟩:=append_inj h (by rw[Am,Am]);refine⟨?_,c⟩;have e:=congrArg Be b;rw[MZ,MZ]at e;rw[<-MY x a.1 a.2,<-MY y hy.1 hy.2,e]
theorem Pre.all{α:Type}{f:α->List UInt8}{ok:α->Prop}(b:Pre f ok):∀(l m:List α) (t u:List UInt8),(∀x∈l,ok x)->(∀x∈m,ok x)->l.length=m.length->l.flatMap f++t=m.flatMap f++u->l=m/\t=u
 |[],[],t,u,_,_,_,h=>⟨rfl,by simpa using h⟩
 |x::l,y::m,t,u,hl,hm,hlen,h=>by
  simp only[flatMap_cons,append_assoc]at h;obtain⟨rfl,k⟩:=b _ _ _ _ (hl x (mem_cons_self ..)) (hm y (mem_cons_self ..)) h;obtain⟨rfl,c⟩:=Pre.all b l m t u (λz a=>hl z (mem_cons_of_mem _ a)) (λz a=>hm z (mem_cons_of_mem _ a)) (by simpa using hlen) k;exact⟨rfl,c⟩
 |[],y::m,_,_,_,_,h,_=>by simp at h
 |x::l,[],_,_,_,_,h,_=>by simp at h
theorem Pre.lst{α:Type}{f:α->List UInt8}{ok:α->Prop}(c:Pre f ok):Pre (lst f) (okL ok):=by
 intro l m t u a b h;simp only[cd.lst,append_assoc]at h;obtain⟨e,k⟩:=Bu _ _ _ _ ⟨ϝ,by have:=a.1;omega⟩ ⟨ϝ,by have:=b.1;omega⟩ h;exact c.all l m t u a.2 b.2 ϝ k
theorem Bad.len{α:Type}{f:α->List UInt8}{ok:α->Prop}(h:Bad AU okN s):Bad (lst f) (okL ok) s:=by
 intro l t a e;exact h l.length (l.flatMap f++t) ⟨ϝ,by have:=a.1;omega⟩ (e.trans (append_assoc ..))
theorem Bad.neg{α:Type}{f:α->List UInt8}{ok:α->Prop}(b:okN n)(h:n<0):Bad (lst f) (okL ok) (AU n++s):=by
 intro l t a e;simp only[lst,append_assoc]at e;have:=(Bu _ _ _ _ b ⟨ϝ,by have:=a.1;omega⟩ e).1;omega
theorem Bad.elem{α:Type}{f:α->List UInt8}{ok:α->Prop}(j:Pre f ok){l:List α}(k:∀x∈l,ok x){n:Nat}(y:n<=9223372036854775807)(u:l.length<n)(h:Bad f ok s):Bad (lst f) (okL ok) (AU n++(l.flatMap f++s)):=by
 intro m t a e;simp only[lst,append_assoc]at e;obtain⟨q,b⟩:=Bu _ _ _ _ ⟨ϝ,ϝ⟩ ⟨ϝ,by have:=a.1;omega⟩ e;have d:m.take l.length++m.drop l.length=m:=take_append_drop ..;have c:l.length<m.length:=ϝ;rw[<-d,flatMap_append,append_assoc,drop_eq_getElem_cons c,flatMap_cons,append_assoc]at b;obtain⟨_,i⟩:=j.all l (m.take l.length) _ _ k (λx p=>a.2 x (mem_of_mem_take p)) Ϣ b;exact h _ _ (a.2 _ (getElem_mem c)) i
theorem Bad.short(h:s.length<8):Bad AU okN s:=by
 intro n t _ e;have:=congrArg List.length e;rw[lAp,Am]at this;omega
theorem ZN(u:Nat)(h:u<18446744073709551616):u64 (PW u)=u:=by
 unfold u64 PW;split<;>omega
theorem AdL(h:8<=s.length):okN (PW (Be (s.take 8)))/\s=AU (PW (Be (s.take 8)))++s.drop 8:=by
 have a:(s.take 8).length=8:=by rw[length_take];omega
 have b:=Np _ a;refine⟨?_,?_⟩
 ·unfold okN PW;split<;>omega
 ·unfold AU;rw[ZN _ b,OS _ a,take_append_drop]
def okT(s:List UInt8):Prop:=s.length<=χ
theorem GN:Pre txt okT:=by
 intro x y t u a hy h;rw[JU,JU]at h;obtain⟨e,k⟩:=Bu _ _ _ _ ⟨ϝ,by unfold okT at a;omega⟩ ⟨ϝ,by unfold okT at hy;omega⟩ h;exact append_inj k ϝ
theorem Bad.txtN(h:Bad AU okN s):Bad txt okT s:=by
 intro x t a e;rw[JU]at e;exact h _ _ ⟨ϝ,by unfold okT at a;omega⟩ e
theorem Bad.txtL(b:okN n)(h:¬(0<=n/\n<=s.length)):Bad txt okT (AU n++s):=by
 intro x t c e;rw[JU]at e;obtain⟨d,a⟩:=Bu _ _ _ _ b ⟨ϝ,by unfold okT at c;omega⟩ e;have:=congrArg List.length a;rw[lAp]at this;omega
theorem E8:Pre C7 rowOk:=by
 intro x y t u d hy h;have a:∀r,rowOk r->okT (encR r):=λr b=>by
  have:=Dh r (λc f=>(b.2 c f).1);have:=b.1;unfold okT;omega
 obtain⟨e,k⟩:=GN _ _ _ _ (a x d) (a y hy) h;exact⟨Q3 d.2 hy.2 e,k⟩
theorem Bad.rowT(h:Bad txt okT s):Bad C7 rowOk s:=by
 intro x t a e;refine h _ t ?_ e;have:=Dh x (λc b=>(a.2 c b).1);have:=a.1;unfold okT;omega
theorem Bad.rowK{k:List UInt8}(f:okT k)(h:Ol k):Bad C7 rowOk (txt k++s):=by
 intro x t a e;have b:okT (encR x):=by
  have:=Dh x (λc d=>(a.2 c d).1);have:=a.1;unfold okT;omega
 exact h x a (GN _ _ _ _ f b e).1.symm
theorem ZO:Pre GM (λ_=>True):=by
 intro x y t u _ _ h;obtain⟨e,k⟩:=Bu _ _ _ _ (by unfold okN;split<;>omega) (by unfold okN;split<;>omega) h;refine⟨?_,k⟩
 cases x<;>cases y<;>simp at e⊢
theorem Bad.flagN(h:Bad AU okN s):Bad GM (λ_=>True) s:=by
 intro x t _ e;exact h _ t (by unfold okN;split<;>omega) e
theorem Bad.flagO(a:okN n)(h:¬(n=0\/n=1)):Bad GM (λ_=>True) (AU n++s):=by
 intro x t _ e;have:=(Bu _ _ _ _ a (by unfold okN;split<;>omega) e).1
 cases x<;>simp at this<;>omega
theorem Pre.via{α β:Type}{f:α->List UInt8}{ok:α->Prop}{g:β->List UInt8}{a:β->Prop}(h:Pre f ok)(m:β->α)(k:∀x y,a x->a y->m x=m y->x=y)(b:∀x,g x=f (m x))(c:∀x,a x->ok (m x)):Pre g a:=by
 intro x y t u d hy e;rw[b,b]at e;obtain⟨i,j⟩:=h _ _ _ _ (c x d) (c y hy) e;exact⟨k _ _ d hy i,j⟩
theorem Bad.via{α β:Type}{f:α->List UInt8}{ok:α->Prop}{g:β->List UInt8}{a:β->Prop}(h:Bad f ok s)(m:β->α)(b:∀x,g x=f (m x))(c:∀x,a x->ok (m x)):Bad g a s:=by
 intro x t d e;rw[b]at e;exact h _ t (c x d) e
theorem hy{p:Prop}(h:p):ϛ p:=h
structure RQ(w:World)(R:Nat)(s:List UInt8):Prop where
 rr:RR w R s
 err:∃T a,Δ w 1 0 (.iface T a)
 ne:R≠1
theorem RQ.go(h:RQ w R s)(b:Al R w w')(c:RR w' R t):RQ w' R t:=by
 obtain⟨T,a,ha⟩:=h.err;exact⟨c,⟨T,a,(cOb (w:=w) (a:=⟨1,0,none⟩) (b.2 1 (bLt _ _ ha) (λe=>h.ne e.symm))).trans ha⟩,h.ne⟩
theorem RQ.below(h:RQ w R s)(b:Ϝ w w'):RQ w' R s:=by
 obtain⟨T,a,ha⟩:=h.err;exact⟨h.rr.below b,⟨T,a,cLz b ha⟩,h.ne⟩
def PAN(e:Ending):Prop:=∃p:TypeId×Value,e= .panicked [{v:=.iface p.1 p.2,recovered:=false}]
def VN(n:Int)(v:Value)(_:World):Prop:=v=vI n
def VT(x:List UInt8)(v:Value)(_:World):Prop:=v= .string ⟨x.toArray⟩
def VB(b:Bool)(v:Value)(_:World):Prop:=v= .bool b
def VR(base:Nat)(r:List Cel)(v:Value)(w:World):Prop:=∃ad cap,v=vS ad r.length cap/\AA w base v r
def Rd{α:Type}(f:α->List UInt8)(ok:α->Prop)(V:α->Value->World->Prop)(R:Nat)(s:List UInt8)(w:World)(e:Ending)(w':World):Prop:=
 Al R w w'/\((∃x t v,ok x/\s=f x++t/\e= .returned v/\V x v w'/\RR w' R t)\/(Bad f ok s/\PAN e))
theorem Dz(R:Nat)(b:Bool)(w:ϙ)(h:∃T a,Δ w 1 0 (.iface T a)):
 η 139 #[μ R,.bool b] w λe w'=>w'=w/\(b=true->e= .returned (.tuple #[]))/\(b=false->PAN e):=by
 obtain⟨T,a,ha⟩:=h
 cases b
 ·go_enter func139,ntmps139;go_wp2;exact⟨rfl,rfl,(λh=>by cases h),λ_=>⟨(T,a),rfl⟩⟩
 ·go_enter func139,ntmps139;go_wp2
  go_end0
  exact⟨rfl,λ_=>rfl,λh=>by cases h⟩
theorem RG(R:Nat)(n:Int)(s:List UInt8)(w:ϙ)(h:RQ w R s)(y:s.length<=10000000):
 η 147 #[μ R,vI n] w λe w'=>Al R w w'/\((∃a b,s=a++b/\(a.length:Int)=n/\e= .returned (.string ⟨a.toArray⟩)/\RR w' R b)\/(¬(0<=n/\n<=s.length)/\PAN e)):=by
 have q:ϛ (∀j,j=false->CT 139 #[μ R,.bool j] w λe w'=>w'=w/\PAN e):=λj d=>(Dz R j w h.err).mono λ_ _ k=>⟨k.1,k.2.2 d⟩;by_cases f:0<=n/\n<=s.length
 ·obtain⟨m,rfl⟩:∃m:Nat,n=m:=⟨n.toNat,ϝ⟩;have c:(s.take m).length=m:=by rw[length_take];omega
  have e:s.take m++s.drop m=s:=take_append_drop ..;have d:=h.rr;rw[<-e]at d;exact(RD R m _ _ w d c (by rw[c,length_drop];omega)).mono λ_ _ k=>⟨k.2.2,.inl ⟨_,_,e.symm,by rw[c],k.1,k.2.1⟩⟩
 have x:=h.rr.cell;have i:(⟨s.toArray⟩:ByteArray).size=s.length:=size_mk s;obtain⟨z,u⟩:=nM (⟨s.toArray⟩:ByteArray);obtain⟨l,c⟩:∃l,s.length=l:=⟨_,rfl⟩;rw[u]at x i;rw[c]at i f y⊢;have p:=hqz f;clear h u c;by_cases A:0<=n
 ·have d:¬(n<=(l:Int)):=ϝ;clear f;go_enter func147,ntmps147;go_wp2_with (go_at_call 139;refine(q.o _ (by simp[i]<;>omega)).mono ?_;rintro e w1 ⟨rfl,v,rfl⟩);exact⟨rfl,Al.refl _ _,.inr ⟨p.o,_,rfl⟩⟩
 ·clear f;go_enter func147,ntmps147;go_wp2_with (go_at_call 139;refine(q.o _ (by simp[i]<;>omega)).mono ?_;rintro e w1 ⟨rfl,v,rfl⟩);exact⟨rfl,Al.refl _ _,.inr ⟨p.o,_,rfl⟩⟩
theorem CH(R:Nat)(s:List UInt8)(w:ϙ)(h:RQ w R s)(j:s.length<=10000000):
 η 82 #[μ R] w (Rd AU okN VN R s w):=by
 by_cases c:8<=s.length
 ·obtain⟨d,f⟩:=AdL c;have i:=h.rr;rw[f]at i;exact(RE R _ _ w i d (by rw[length_drop];omega)).mono λ_ _ k=>⟨k.2.2,.inl ⟨_,_,_,d,f,k.1,rfl,k.2.1⟩⟩
 have m:ϛ (Bad AU okN s):=Bad.short ϝ;have p:ϛ (CT 147 #[μ R,vI 8] w λe w'=>Al R w w'/\PAN e):=(RG R 8 s w h j).mono λ_ _ k=>⟨k.1,by
  rcases k.2 with⟨a,b,rfl,e,_⟩|k
  ·rw[lAp]at c;omega
  ·exact k.2⟩
 clear h j c;go_enter func82,ntmps82;go_wp2_with fail;refine p.o.mono ?_;rintro e w1 ⟨q,v,rfl⟩;exact⟨rfl,q,.inr ⟨m.o,_,rfl⟩⟩
theorem OI(R:Nat)(s:List UInt8)(w:ϙ)(h:RQ w R s)(i:s.length<=10000000):
 η 146 #[μ R] w (Rd txt okT VT R s w):=by
 have k:=hy (CH R s w h i);have m:=hIz (λn t (w1:ϙ) (e:s=AU n++t) (q:Al R w w1) (y:RR w1 R t)=>RG R n t w1 (h.go q y) (by subst e;rw[lAp]at i;omega));clear h;go_enter func146,ntmps146;go_wp2_with fail;refine k.o.mono ?_;rintro e w1 ⟨c,⟨n,t,v,j,rfl,rfl,rfl,z⟩|⟨p,v,rfl⟩⟩
 rotate_left
 ·exact⟨rfl,c,.inr ⟨p.txtN,_,rfl⟩⟩
 have d:ϛ (okN n):=j;clear j;go_wp2_with fail;refine(m.o n t w1 rfl c z).mono ?_;rintro e w2 ⟨f,⟨a,b,rfl,u,rfl,A⟩|⟨x,v,rfl⟩⟩
 rotate_left
 ·exact⟨rfl,c.trans f,.inr ⟨Bad.txtL d.o x,_,rfl⟩⟩
 go_wp2;go_ret;exact⟨c.trans f,.inl ⟨a,b,_,by have:=d.o.2;unfold okT;omega,by rw[JU,u],rfl,rfl,A⟩⟩
theorem JW(R:Nat)(s:List UInt8)(w:ϙ)(h:RQ w R s)(j:s.length<=10000000):
 η 81 #[μ R] w (Rd C7 rowOk (VR w.heap.size) R s w):=by
 have F:=hy (OI R s w h j);have E:ϛ (∀k:List UInt8,k.length<=10000000->∀w1,CT 145 #[.string ⟨k.toArray⟩] w1 λe w'=>U4 ⟨k.toArray⟩ w1.heap.size e w'/\Ϝ w1 w'):=λk q w1=>Mg ⟨k.toArray⟩ w1 (by rw[size_mk];unfold maxLen;omega);have p:=hIz (λM (w1:ϙ) t (q:Al R w w1) (d:RR w1 R t)=>Dz R M w1 (h.go q d).err);clear h;go_enter func81,ntmps81;go_wp2_with fail;refine F.o.mono ?_;rintro e w1 ⟨c,⟨x,t,v,u,rfl,rfl,rfl,y⟩|⟨I,v,rfl⟩⟩
 rotate_left
 ·exact⟨rfl,c,.inr ⟨I.rowT,_,rfl⟩⟩
 have L:x.length<=10000000:=by rw[lAp,Iv]at j;omega
 have A:ϛ (okT x):=u;clear u j;go_wp2_with fail;refine(E.o x L w1).mono ?_;rintro e w2 ⟨⟨r,G,H,rfl,d,z,K⟩|⟨rfl,J⟩,b⟩
 ·have a:=c.trans (Al.of b);have f:=y.below b;have m:ϛ (rowOk r/\encR r=x):=⟨d,z⟩;clear z d;go_wp2_with (go_at_call 139;refine(p.o _ _ _ a f).mono ?_;rintro e O ⟨rfl,i,_⟩;obtain rfl:=i ϟ);go_ret;exact⟨a,.inl ⟨r,t,_,m.o.1,by unfold C7;rw[m.o.2],rfl,⟨G,H,rfl,World.ownsRow.mono K c.1.size⟩,f⟩⟩
 ·have a:=c.trans (Al.of b);have f:=y.below b;go_wp2_with (go_at_call 139;refine(p.o _ _ _ a f).mono ?_;rintro e O ⟨rfl,_,i⟩;obtain⟨v,rfl⟩:=i ϟ);exact⟨rfl,a,.inr ⟨Bad.rowK A.o J,_,rfl⟩⟩
theorem Xq(R:Nat)(s:List UInt8)(w:ϙ)(h:RQ w R s)(j:s.length<=10000000):
 η 247 #[μ R] w (Rd GM (λ_=>True) VB R s w):=by
 have q:=hy (CH R s w h j);have d:=hIz (λA (w1:ϙ) t (y:Al R w w1) (z:RR w1 R t)=>Dz R A w1 (h.go y z).err);clear h j;go_enter func247,ntmps247;go_wp2_with fail;refine q.o.mono ?_;rintro e w1 ⟨a,⟨n,t,v,k,rfl,rfl,rfl,c⟩|⟨x,v,rfl⟩⟩
 rotate_left
 ·exact⟨rfl,a,.inr ⟨x.flagN,_,rfl⟩⟩
 have p:ϛ (okN n):=k;clear k;by_cases f:n=0
 ·subst f;go_wp2_with (go_at_call 139;refine(d.o _ _ _ a c).mono ?_;rintro e m ⟨rfl,b,_⟩;obtain rfl:=b ϟ);go_ret;exact⟨a,.inl ⟨false,t,_,trivial,rfl,rfl,by simp[VB],c⟩⟩
 by_cases i:n=1
 ·subst i;clear f;go_wp2_with (go_at_call 139;refine(d.o _ _ _ a c).mono ?_;rintro e m ⟨rfl,b,_⟩;obtain rfl:=b ϟ);go_ret;exact⟨a,.inl ⟨true,t,_,trivial,rfl,rfl,by simp[VB],c⟩⟩
 have E:(n==0)=false:=by simpa using f
 have u:(n==1)=false:=by simpa using i
 go_wp2_with (go_at_call 139;refine(d.o _ _ _ a c).mono ?_;rintro e m ⟨rfl,_,b⟩;obtain⟨v,rfl⟩:=b (by simp[u]));exact⟨rfl,a,.inr ⟨Bad.flagO p.o ϝ,_,rfl⟩⟩
end cd
end Go.Proofs.YtfkihidbnfkbaaaGreatDoor
