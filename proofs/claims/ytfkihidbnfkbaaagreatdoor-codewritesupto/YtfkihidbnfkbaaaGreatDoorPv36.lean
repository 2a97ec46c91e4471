import Derived.Test.YtfkihidbnfkbaaaGreatDoorPv35
set_option linter.all false
set_option maxHeartbeats 4000000
set_option maxRecDepth 100000
open Go.ChangeShapes Go.WideShapes Go.ChangeAt Go.RowKit List
open Inhabited renaming default->ϰ
namespace Go.Proofs.YtfkihidbnfkbaaaGreatDoor
open Go.Proofs.Tryz
namespace cd
open vl bf
variable {N R : Nat} {w w' : Ϡ} {s : List UInt8} {vs : List Value}
structure RR(w:World)(R:Nat)(s:List UInt8):Prop where
 cell:Δ w R 0 (.string ⟨s.toArray⟩)
 frz:Ξ w R 0
 tb:Ah w R 124
def An(R:Nat)(w w':World):Prop:=Below 0 w w'/\∀g,g<w.heap.size->g≠R->w'.heap[g]? =w.heap[g]?
theorem An.refl(R:Nat)(w:Ϡ):An R w w:=⟨bR,λ_ _ _=>rfl⟩
theorem An.trans{a b c:Ϡ}(h:An R a b)(k:An R b c):An R a c:=⟨h.1.trans k.1,λg e d=>(k.2 g (Nat.lt_of_lt_of_le e h.1.size) d).trans (h.2 g e d)⟩
theorem An.of(h:ϣ w w'):An R w w':=⟨h.mono (Nat.zero_le _),λg a _=>h.block g a⟩
theorem An.below{n:Nat}(h:An R w w')(c:n<=R)(d:n<=w.heap.size):Below n w w':=⟨h.1.os,h.1.tape,h.1.output,h.1.size,λk a=>h.2 k Ϥ Ϥ⟩
theorem RR.below(h:RR w R s)(c:ϣ w w'):RR w' R s:=
 ⟨cLz c h.cell,(World.frozen?_of_block (w:=w) (a:=⟨R,0,none⟩) (c.block R (AH h.tb))).trans h.frz,Ak h.tb c⟩
theorem RR.lt(h:RR w R s):R<w.heap.size:=AH h.tb
theorem RR.put{t:List UInt8}(h:RR w R s):RR (ό w R 0 (.string ⟨t.toArray⟩)) R t/\An R w (ό w R 0 (.string ⟨t.toArray⟩)):=
 ⟨⟨World.cell?_setCell_same' _ _ _ (by rw[h.cell];rfl),by rw[World.frozen?_setCell];exact h.frz,Ao h.tb _ _⟩,(Below.refl 0 w).setCell (Nat.zero_le _) _,λg c a=>heap_setCell_other _ _ _ _ a⟩
theorem Ge(R:Nat)(a:Bool)(w:Ϡ)(h:a=true):χ 139 #[ω R,.bool a] w λe w'=>e= .returned (.tuple #[])/\w'=w:=by
 subst h;go_enter func139,ntmps139;go_wp2
 go_end0
 exact⟨rfl,rfl⟩
theorem AcL(a b:List UInt8):(⟨(a++b).toArray⟩:ByteArray).extract 0 a.length=⟨a.toArray⟩:=by
 apply ByteArray.ext;rw[ByteArray.data_extract];simp
theorem Aah(a b:List UInt8):(⟨(a++b).toArray⟩:ByteArray).extract a.length (a.length+b.length)=⟨b.toArray⟩:=by
 apply ByteArray.ext;rw[ByteArray.data_extract];simp
theorem size_mk(l:List UInt8):(⟨l.toArray⟩:ByteArray).size=l.length:=size_toArray
theorem Su(R n:Nat)(a b:List UInt8)(w:Ϡ)(h:RR w R (a++b))(d:a.length=n)(r:a.length+b.length<=100000000):
 χ 147 #[ω R,vI n] w λe w'=>e= .returned (.string ⟨a.toArray⟩)/\RR w' R b/\An R w w':=by
 have j:=hIz (λg (w1:Ϡ) (h:g=true)=>Ge R g w1 h);have i:=hV0 h;have p:=h.cell;have q:=h.frz;obtain⟨s,c⟩:=nM (⟨(a++b).toArray⟩:ByteArray);have t:s.size=n+b.length:=by rw[<-c,size_mk,lAp,d]
 have f:=hV0 c;rw[c]at p;clear h c;go_enter func147,ntmps147;go_wp2_with (go_at_call 139;refine(j.o _ _ ϫ).mono ?_;rintro e w1 ⟨rfl,rfl⟩);have k:s.extract 0 n=⟨a.toArray⟩:=by rw[<-f.o,<-d];exact AcL a b
 have m:s.extract n (n+b.length)=⟨b.toArray⟩:=by rw[<-f.o,<-d];exact Aah a b
 rw[k,m];go_ret;exact⟨rfl,i.o.put⟩
def AcM(u:Nat):Int:=if u<9223372036854775808 then u else(u:Int) - 18446744073709551616
theorem Aai(n:Int)(h1: -9223372036854775808<=n)(a:n<=9223372036854775807):AcM (u64 n)=n:=by
 unfold AcM u64;split<;>omega
theorem XK(u:Nat)(h:u<18446744073709551616):wrap64 (u:Int)=AcM u:=by
 unfold AcM wrap64;split<;>omega
theorem Aaj(n:Int):Bd (As n)=u64 n:=Hf _ (by have:=Rl n;omega)
theorem Cv(R:Nat)(n:Int)(b:List UInt8)(w:Ϡ)(h:RR w R (As n++b))(g: -9223372036854775808<=n/\n<=9223372036854775807)(D:b.length<=90000000):
 χ 82 #[ω R] w λe w'=>e= .returned (vI n)/\RR w' R b/\An R w w':=by
 have f:Ϣ (CT 147 #[ω R,vI 8] w λe w'=>e= .returned (.string ⟨(As n).toArray⟩)/\RR w' R b/\An R w w'):=Su R 8 (As n) b w h (Am n) (by rw[Am];omega);obtain⟨l,a⟩:=nM (As n);have B:l.length=8:=by rw[<-a];exact Am n
 have p:Ϣ (wrap64 ((Bd (l.take 8):Nat):Int)=n):=by
  show _=_;rw[take_of_length_le Ϥ,<-a,Aaj,XK _ (by have:=Rl n;omega),Aai n g.1 g.2]
 rw[a]at f;obtain⟨s,c⟩:=nM (⟨l.toArray⟩:ByteArray);have I:s.size=8:=by rw[<-c,size_mk,B]
 have m:Ϣ (s.data.toList=l):=by show _=_;rw[<-c]
 rw[c]at f;clear h a c g D;go_enter func82,ntmps82;go_wp2_with fail;refine f.o.mono ?_;rintro e w1 ⟨rfl,E,A⟩;go_wp2_with fail
 go_loopw [3,5,10] (λu t i wr=> ∃k:Nat,k<=8/\i=vI k/\u= .int .u64 (Bd (l.take k):Nat)/\wr=w1) (λ_ _ i _=>8 - (intOf i).toNat)
 case atStart=>exact⟨0,Ϥ,rfl,by simp[Bd],rfl⟩
 case round=>
  obtain⟨k,G,rfl,rfl,rfl⟩:=hrel;obtain⟨u,j⟩:∃u,Bd (l.take k)=u:=⟨_,rfl⟩;have d:=hV0 j;rw[j];clear j;by_cases H:k<8
  ·have C:k<s.size:=Ϥ;have q:Ϣ (u<72057594037927936):=by
    show u<72057594037927936;have y:=FD (l.take k);rw[d.o,length_take]at y;have F:256 ^ (min k l.length)<=256 ^ 7:=Nat.pow_le_pow_right Ϥ Ϥ;omega
   have r:Ϣ (Bd (l.take (k+1))=u * 256+s[k].toNat):=by
    show Bd (l.take (k+1))=_;rw[<-m.o,D9 s k C,JK,m.o,d.o]
   go_wp2;go_roundw;exact⟨k+1,Ϥ,by go_num,by rw[r.o,Xa u s[k].toNat q.o s[k].toNat_lt],trivial⟩;simp[intOf];omega
  ·have z:k=8:=Ϥ;subst z;rw[d.o]at p;go_wp2;go_ret;exact⟨Ad p.o,E,A⟩
theorem AcN(s b:List UInt8):txt s++b=As s.length++(s++b):=by unfold txt;rw[append_assoc]
theorem PE(R:Nat)(s b:List UInt8)(w:Ϡ)(h:RR w R (txt s++b))(m:s.length+b.length<=80000000):
 χ 146 #[ω R] w λe w'=>e= .returned (.string ⟨s.toArray⟩)/\RR w' R b/\An R w w':=by
 rw[AcN]at h;have a:Ϣ (CT 82 #[ω R] w λe w'=>e= .returned (vI s.length)/\RR w' R (s++b)/\An R w w'):=Cv R s.length (s++b) w h Ϥ (by rw[lAp];omega);have c:=hIz (λ(w1:Ϡ) (f:RR w1 R (s++b))=>Su R s.length s b w1 f rfl Ϥ);obtain⟨n,d⟩:=nM s.length;rw[d]at a c;clear h d;go_enter func146,ntmps146;go_wp2_with fail;refine a.o.mono ?_;rintro e w1 ⟨rfl,j,g⟩;go_wp2_with fail;refine(c.o w1 j).mono ?_;rintro e w2 ⟨rfl,k,i⟩;go_wp2;go_ret;exact⟨rfl,k,g.trans i⟩
structure SB(w:World)(N:Nat)(vs:List Value):Prop where
 cell:∀j v,vs[j]? =some v->Δ w N j v
 frz:∀j,Ξ w N j
 lt:N<w.heap.size
theorem SB.new(w:Ϡ)(vs:List Value)(t:TypeId):SB (w.alloc (.cells vs.toArray t)) w.heap.size vs:=
 ⟨λj v h=>by rw[World.cell?_alloc_new];simpa using h,λj=>by go_simp,Ϧ⟩
theorem SB.same(h:SB w N vs)(c:w'.heap[N]? =w.heap[N]?)(d:w.heap.size<=w'.heap.size):SB w' N vs:=
 ⟨λj v e=>(cOb (w:=w) (a:=⟨N,j,none⟩) c).trans (h.cell j v e),λj=>(World.frozen?_of_block (w:=w) (a:=⟨N,j,none⟩) c).trans (h.frz j),Nat.lt_of_lt_of_le h.lt d⟩
theorem SB.below(h:SB w N vs)(a:ϣ w w'):SB w' N vs:=h.same (a.block N h.lt) a.size
theorem SB.keep(h:SB w N vs)(a:An R w w')(c:N≠R):SB w' N vs:=h.same (a.2 N h.lt c) a.1.size
theorem SB.set(h:SB w N vs)(j:Nat)(v:Value)(c:j<vs.length):SB (ό w N j v) N (vs.set j v):=by
 refine⟨λi u a=>?_,λi=>by rw[World.frozen?_setCell];exact h.frz i,by simpa using h.lt⟩;by_cases e:j=i
 ·subst e;have d:=h.cell j _ (gEe c);rw[World.cell?_setCell_same' _ _ _ (by rw[d];rfl)];rw[List.getElem?_set_self c]at a;exact a
 ·rw[List.getElem?_set_ne e]at a;rw[World.cell?_setCell_other (h:=λk=>e (by injection k))];exact h.cell i u a
theorem RR.set{j:Nat}{v:Value}(h:RR w R s)(d:N≠R):RR (ό w N j v) R s:=by
 have c:(w.setCell ⟨N,j,none⟩ v).heap[R]? =w.heap[R]? :=heap_setCell_other _ _ _ _ (λe=>d e.symm);exact⟨(cOb (w:=w) (a:=⟨R,0,none⟩) c).trans h.cell,(World.frozen?_of_block (w:=w) (a:=⟨R,0,none⟩) c).trans h.frz,Aq h.tb c⟩
theorem Sv(R:Nat)(r:List Cel)(b:List UInt8)(w:Ϡ)(h:RR w R (Bz r++b))(f:rowOk r)(B:b.length<=70000000):
 χ 81 #[ω R] w λe w'=>(∃a d,e= .returned (vS a r.length d)/\AM w' w (vS a r.length d) r)/\RR w' R b/\An R w w':=by
 have y:(encR r).length<=1048:=by
  have:=D6 r (λc u=>(f.2 c u).1);have:=f.1;omega
 have i:Ϣ (CT 146 #[ω R] w λe w'=>e= .returned (.string ⟨(encR r).toArray⟩)/\RR w' R b/\An R w w'):=PE R (encR r) b w h Ϥ;have g:Ϣ (∀w1,CT 145 #[.string ⟨(encR r).toArray⟩] w1 λe w'=>(∃a d,e= .returned (.tuple #[vS a r.length d,Ϗ])/\AM w' w1 (vS a r.length d) r)/\ϣ w1 w'):=λw1=>Ng ⟨(encR r).toArray⟩ r w1 (by rw[size_mk];unfold maxLen;omega) f rfl;have t:=hIz (λq (w1:Ϡ) (h:q=true)=>Ge R q w1 h);obtain⟨n,m⟩:=nM r.length;rw[m]at g⊢;obtain⟨s,p⟩:=nM (⟨(encR r).toArray⟩:ByteArray);rw[p]at i g;clear h f y m p;go_enter func81,ntmps81;go_wp2_with fail;refine i.o.mono ?_;rintro e w1 ⟨rfl,A,k⟩;go_wp2_with fail;refine(g.o w1).mono ?_;rintro e w2 ⟨⟨a,d,rfl,z⟩,j⟩;go_wp2_with (go_at_call 139;refine(t.o _ _ Ϧ).mono ?_;rintro e C ⟨rfl,rfl⟩);go_ret;exact⟨⟨a,d,rfl,World.ownsRow.mono z k.1.size⟩,A.below j,k.trans (An.of j)⟩
theorem XL(R:Nat)(m:Bool)(b:List UInt8)(w:Ϡ)(h:RR w R (CC m++b))(j:b.length<=70000000):
 χ 247 #[ω R] w λe w'=>e= .returned (.bool m)/\RR w' R b/\An R w w':=by
 have f:=hIz (λg (w1:Ϡ) (h:g=true)=>Ge R g w1 h)
 cases m
 ·have a:Ϣ (CT 82 #[ω R] w λe w'=>e= .returned (vI 0)/\RR w' R b/\An R w w'):=Cv R 0 b w h ϥ Ϥ;clear h;go_enter func247,ntmps247;go_wp2_with fail;refine a.o.mono ?_;rintro e w1 ⟨rfl,d,c⟩;go_wp2_with (go_at_call 139;refine(f.o _ _ Ϧ).mono ?_;rintro e i ⟨rfl,rfl⟩);go_ret;exact⟨rfl,d,c⟩
 ·have a:Ϣ (CT 82 #[ω R] w λe w'=>e= .returned (vI 1)/\RR w' R b/\An R w w'):=Cv R 1 b w h ϥ Ϥ;clear h;go_enter func247,ntmps247;go_wp2_with fail;refine a.o.mono ?_;rintro e w1 ⟨rfl,d,c⟩;go_wp2_with (go_at_call 139;refine(f.o _ _ Ϧ).mono ?_;rintro e i ⟨rfl,rfl⟩);go_ret;exact⟨rfl,d,c⟩
end cd
theorem sc5{w:Ϡ}{N:Nat}{a c d e c4:Value}(h:cd.SB w N [a,c,d,e,c4]):ϖ w N a c d e c4:=⟨h.cell 0 _ rfl,h.cell 1 _ rfl,h.cell 2 _ rfl,h.cell 3 _ rfl,h.cell 4 _ rfl⟩
theorem sc9{w:Ϡ}{N:Nat}{a c d e c4 f g i j:Value}(h:cd.SB w N [a,c,d,e,c4,f,g,i,j]):ϗ w N a c d e c4 f g i j:=⟨h.cell 0 _ rfl,h.cell 1 _ rfl,h.cell 2 _ rfl,h.cell 3 _ rfl,h.cell 4 _ rfl,h.cell 5 _ rfl,h.cell 6 _ rfl,h.cell 7 _ rfl,h.cell 8 _ rfl⟩
theorem Iq{w:Ϡ}{N:Nat}{a c e f c4 g i j k m d:Value}(h:cd.SB w N [a,c,e,f,c4,g,i,j,k,m,d]):Δ w N 0 a/\Δ w N 1 c/\Δ w N 2 e/\Δ w N 3 f/\Δ w N 4 c4/\Δ w N 5 g/\Δ w N 6 i/\Δ w N 7 j/\Δ w N 8 k/\Δ w N 9 m/\Δ w N 10 d:=⟨h.cell 0 _ rfl,h.cell 1 _ rfl,h.cell 2 _ rfl,h.cell 3 _ rfl,h.cell 4 _ rfl,h.cell 5 _ rfl,h.cell 6 _ rfl,h.cell 7 _ rfl,h.cell 8 _ rfl,h.cell 9 _ rfl,h.cell 10 _ rfl⟩
namespace cd
open vl bf
variable {W w w' w1 w2 : Ϡ} {N R : Nat} {s : List UInt8} {x : Ent} {v : Value} {l : List Ent} {o : Obj} {row : Option Nat}
def lst{α:Type}(f:α->List UInt8):List α->List UInt8:=λl=>As l.length++l.flatMap f
def okL{α:Type}(ok:α->Prop):List α->Prop:=λl=>l.length<=ύ/\∀x∈l,ok x
def okN(n:Int):Prop:= -9223372036854775808<=n/\n<=9223372036854775807
def okT(s:List UInt8):Prop:=s.length<=ύ
theorem hy{p:Prop}(h:p):Ϣ p:=h
theorem SB.there{vs:List Value}(h:SB w N vs):w.there N 0 vs.length:=λj a=>by
 rw[Nat.zero_add];exact⟨by rw[h.cell j _ (gEe a)];rfl,h.frz j⟩
theorem C0{g b:Nat}(h:g≠b):∀(l:List Value) (o:Nat) (w:Ϡ),(w.setCells b o l).heap[g]? =w.heap[g]?
 |[],_,_=>rfl
 |v::l,o,w=>(C0 h l (o+1) _).trans (heap_setCell_other _ _ _ _ h)
theorem RR.sets(h:RR w R s)(d:N≠R)(l:List Value)(o:Nat):RR (w.setCells N o l) R s:=by
 have c:(w.setCells N o l).heap[R]? =w.heap[R]? :=C0 (λe=>d e.symm) l o w;exact⟨(cOb (w:=w) (a:=⟨R,0,none⟩) c).trans h.cell,(World.frozen?_of_block (w:=w) (a:=⟨R,0,none⟩) c).trans h.frz,Aq h.tb c⟩
theorem Fo(h:An R w W)(d:w.heap.size<=N)(l:List Value)(o:Nat):An R w (W.setCells N o l):=
 ⟨jn.below_setCells (Nat.zero_le _) l o _ h.1,λg c a=>(C0 Ϥ l o W).trans (h.2 g c a)⟩
theorem Aak:(Tryz.prog.info? 166).map (·.size)=some 5:=ϧ
structure okR(x:Ent):Prop where
 key:x.key.size<=2000
 row:rowOk x.row
 time: -9223372036854775808<=x.time/\x.time<=9223372036854775807
 seq: -9223372036854775808<=x.seq/\x.seq<=9223372036854775807
theorem okR.few(h:okR x):(Bz x.row).length<=1056/\(encR x.row).length<=1048:=by
 have:=D6 x.row (λc a=>(h.row.2 c a).1);have d:=h.row.1;unfold Bz;rw[GH];omega
theorem U7(R:Nat)(x:Ent)(b:List UInt8)(w:Ϡ)(h:RR w R (Bp x++b))(F:okR x)(hm:b.length<=60000000):
 χ 205 #[ω R] w λe w'=>(∃m:EM,e= .returned m.val/\OR w' w.heap.size m x)/\RR w' R b/\An R w w':=by
 have e0:Bp x++b=txt x.key.data.toList++(As x.time++(As x.seq++(Bz x.row++(CC x.met++b)))):=by
  unfold Bp;simp only[append_assoc]
 rw[e0]at h;have hf:=F.few;have d:=F.key;have hs:x.key.data.toList.length=x.key.size:=A2 x.key;have S:Ϣ ((Bz x.row).length<=1056/\x.key.size<=2000):=⟨hf.1,d⟩;have K0:Ϣ (∀w1,RR w1 R (txt x.key.data.toList++(As x.time++(As x.seq++(Bz x.row++(CC x.met++b)))))->CT 146 #[ω R] w1 λe w'=>e= .returned (.string x.key)/\RR w' R (As x.time++(As x.seq++(Bz x.row++(CC x.met++b))))/\An R w1 w'):=λw1 u=>PE R x.key.data.toList _ w1 u (by simp only[lAp,Am,Fs];omega);have Y:=hIz (λ(w1:Ϡ) n r (u:RR w1 R (As n++r)) (h2:(-9223372036854775808<=n/\n<=9223372036854775807)) (h3:r.length<=90000000)=>Cv R n r w1 u h2 h3);have Z:Ϣ (∀w1,RR w1 R (Bz x.row++(CC x.met++b))->CT 81 #[ω R] w1 λe w'=>(∃i j,e= .returned (vS i x.row.length j)/\AM w' w1 (vS i x.row.length j) x.row)/\RR w' R (CC x.met++b)/\An R w1 w'):=λw1 u=>Sv R x.row _ w1 u F.row (by simp only[lAp,Fs];omega);have K4:=hIz (λ(w1:Ϡ) (u:RR w1 R (CC x.met++b))=>XL R x.met b w1 u Ϥ);have U:Ϣ ((-9223372036854775808<=x.time/\x.time<=9223372036854775807)/\(-9223372036854775808<=x.seq/\x.seq<=9223372036854775807)):=⟨F.time,F.seq⟩;have y:=h.lt;obtain⟨n,P⟩:=nM x.row.length;have HN:=hV0 P;rw[P]at Z;have A:=hV0 h;clear h F hf d hs P e0;go_enter func205,ntmps205;go_wp2_with fail;generalize L:(World.alloc (World.alloc w _) _)=V;have O:ϣ w V:=by rw[<-L];exact ϯ.alloc Ϧ _
 have k:Ϣ (SB V w.heap.size [ϐ,Ϗ,Ϗ,ώ,ϑ]):=by
  subst L;exact(SB.new w [ϐ,Ϗ,Ϗ,ώ,ϑ] 166).below ϯ
 have c:Ϣ (SB V (w.heap.size+1) [ϐ,Ϗ,Ϗ,ώ,ϑ]):=by
  subst L;have:=SB.new (ϊ w #[ϐ,Ϗ,Ϗ,ώ,ϑ] 166) [ϐ,Ϗ,Ϗ,ώ,ϑ] 166;rw[World.size_alloc]at this;exact this
 have a:Ϣ (An R w V/\RR V R (txt x.key.data.toList++(As x.time++(As x.seq++(Bz x.row++(CC x.met++b)))))):=⟨An.of O,A.o.below O⟩;clear L O A;refine(K0.o V a.o.2).mono ?_;rintro o w1 ⟨rfl,q,d⟩;replace k:Ϣ (SB w1 w.heap.size [ϐ,Ϗ,Ϗ,ώ,ϑ]):=k.o.keep d Ϥ;replace c:Ϣ (SB w1 (w.heap.size+1) [ϐ,Ϗ,Ϗ,ώ,ϑ]):=c.o.keep d Ϥ;replace a:Ϣ (An R w w1/\RR w1 R (As x.time++(As x.seq++(Bz x.row++(CC x.met++b))))):=⟨a.o.1.trans d,q⟩;have B:=c.o.cell 0 _ rfl;have C:=c.o.frz 0;clear q d;go_wp2_with fail;generalize f:World.setCell w1 _ _=H;replace k:Ϣ (SB H w.heap.size [ϐ,Ϗ,Ϗ,ώ,ϑ]):=by
  subst f;exact k.o.same (heap_setCell_other _ _ _ _ Ϫ) Ϧ
 replace c:Ϣ (SB H (w.heap.size+1) [.string x.key,Ϗ,Ϗ,ώ,ϑ]):=by
  subst f;exact c.o.set 0 _ Ϧ
 replace a:Ϣ (An R w H/\RR H R (As x.time++(As x.seq++(Bz x.row++(CC x.met++b))))):=by
  subst f;exact⟨⟨a.o.1.1.setCell (Nat.zero_le _) _,λg p y=>(heap_setCell_other _ _ _ _ Ϫ).trans (a.o.1.2 g p y)⟩,a.o.2.set Ϥ⟩
 clear B C f;refine(Y.o H x.time _ a.o.2 U.o.1 (by have:=S.o;simp only[lAp,Am,Fs];omega)).mono ?_;rintro o w2 ⟨rfl,q,d⟩;replace k:Ϣ (SB w2 w.heap.size [ϐ,Ϗ,Ϗ,ώ,ϑ]):=k.o.keep d Ϥ;replace c:Ϣ (SB w2 (w.heap.size+1) [.string x.key,Ϗ,Ϗ,ώ,ϑ]):=c.o.keep d Ϥ;replace a:Ϣ (An R w w2/\RR w2 R (As x.seq++(Bz x.row++(CC x.met++b)))):=⟨a.o.1.trans d,q⟩;have B:=c.o.cell 1 _ rfl;have C:=c.o.frz 1;clear q d;go_wp2_with fail;generalize f:World.setCell w2 _ _=I;replace k:Ϣ (SB I w.heap.size [ϐ,Ϗ,Ϗ,ώ,ϑ]):=by
  subst f;exact k.o.same (heap_setCell_other _ _ _ _ Ϫ) Ϧ
 replace c:Ϣ (SB I (w.heap.size+1) [.string x.key,vI x.time,Ϗ,ώ,ϑ]):=by
  subst f;exact c.o.set 1 _ Ϧ
 replace a:Ϣ (An R w I/\RR I R (As x.seq++(Bz x.row++(CC x.met++b)))):=by
  subst f;exact⟨⟨a.o.1.1.setCell (Nat.zero_le _) _,λg p y=>(heap_setCell_other _ _ _ _ Ϫ).trans (a.o.1.2 g p y)⟩,a.o.2.set Ϥ⟩
 clear B C f;refine(Y.o I x.seq _ a.o.2 U.o.2 (by have:=S.o;simp only[lAp,Am,Fs];omega)).mono ?_;rintro o J ⟨rfl,q,d⟩;replace k:Ϣ (SB J w.heap.size [ϐ,Ϗ,Ϗ,ώ,ϑ]):=k.o.keep d Ϥ;replace c:Ϣ (SB J (w.heap.size+1) [.string x.key,vI x.time,Ϗ,ώ,ϑ]):=c.o.keep d Ϥ;replace a:Ϣ (An R w J/\RR J R (Bz x.row++(CC x.met++b))):=⟨a.o.1.trans d,q⟩;have B:=c.o.cell 2 _ rfl;have C:=c.o.frz 2;clear q d;go_wp2_with fail;generalize f:World.setCell J _ _=D;replace k:Ϣ (SB D w.heap.size [ϐ,Ϗ,Ϗ,ώ,ϑ]):=by
  subst f;exact k.o.same (heap_setCell_other _ _ _ _ Ϫ) Ϧ
 replace c:Ϣ (SB D (w.heap.size+1) [.string x.key,vI x.time,vI x.seq,ώ,ϑ]):=by
  subst f;exact c.o.set 2 _ Ϧ
 replace a:Ϣ (An R w D/\RR D R (Bz x.row++(CC x.met++b))):=by
  subst f;exact⟨⟨a.o.1.1.setCell (Nat.zero_le _) _,λg p y=>(heap_setCell_other _ _ _ _ Ϫ).trans (a.o.1.2 g p y)⟩,a.o.2.set Ϥ⟩
 have aa:w.heap.size+1<D.heap.size:=c.o.lt;clear B C f;refine(Z.o D a.o.2).mono ?_;rintro o w4 ⟨⟨i,j,rfl,Q⟩,q,d⟩;replace k:Ϣ (SB w4 w.heap.size [ϐ,Ϗ,Ϗ,ώ,ϑ]):=k.o.keep d Ϥ;replace c:Ϣ (SB w4 (w.heap.size+1) [.string x.key,vI x.time,vI x.seq,ώ,ϑ]):=c.o.keep d Ϥ;replace a:Ϣ (An R w w4/\RR w4 R (CC x.met++b)):=⟨a.o.1.trans d,q⟩;have z:Ϣ (AM w4 w (vS i n j) x.row):=by
  exact World.ownsRow.mono Q (by have:=a.o.1.1.size;have:=d.1.size;have:=aa;omega)
 have M:Ϣ ((Value.slice i n j).ownBlock≠some (w.heap.size+1)/\(Value.slice i n j).ownBlock≠some w.heap.size):=by
  have u:=Q;exact⟨λe=>by have:=(AL u e).1;omega,λe=>by have:=(AL u e).1;omega⟩
 clear Q;have B:=c.o.cell 3 _ rfl;have C:=c.o.frz 3;clear q d;go_wp2_with fail;generalize f:World.setCell w4 _ _=E;replace k:Ϣ (SB E w.heap.size [ϐ,Ϗ,Ϗ,ώ,ϑ]):=by
  subst f;exact k.o.same (heap_setCell_other _ _ _ _ Ϫ) Ϧ
 replace c:Ϣ (SB E (w.heap.size+1) [.string x.key,vI x.time,vI x.seq,vS i n j,ϑ]):=by
  subst f;exact c.o.set 3 _ Ϧ
 replace a:Ϣ (An R w E/\RR E R (CC x.met++b)):=by
  subst f;exact⟨⟨a.o.1.1.setCell (Nat.zero_le _) _,λg p y=>(heap_setCell_other _ _ _ _ Ϫ).trans (a.o.1.2 g p y)⟩,a.o.2.set Ϥ⟩
 replace z:Ϣ (AM E w (vS i n j) x.row):=by
  subst f;exact A1 z.o (λg p=>heap_setCell_other _ _ _ _ (λe=>M.o.1 (p.trans (congrArg some e))))
 clear B C f;refine(K4.o E a.o.2).mono ?_;rintro o G ⟨rfl,q,d⟩;replace k:Ϣ (SB G w.heap.size [ϐ,Ϗ,Ϗ,ώ,ϑ]):=k.o.keep d Ϥ;replace c:Ϣ (SB G (w.heap.size+1) [.string x.key,vI x.time,vI x.seq,vS i n j,ϑ]):=c.o.keep d Ϥ;replace a:Ϣ (An R w G/\RR G R (b)):=⟨a.o.1.trans d,q⟩;replace z:Ϣ (AM G w (vS i n j) x.row):=A1 z.o (λg p=>d.2 g (AL z.o p).2 (by have:=(AL z.o p).1;omega));have B:=c.o.cell 4 _ rfl;have C:=c.o.frz 4;clear q d;go_upto_region 7 with fail;generalize f:World.setCell G _ _=t;replace k:Ϣ (SB t w.heap.size [ϐ,Ϗ,Ϗ,ώ,ϑ]):=by
  subst f;exact k.o.same (heap_setCell_other _ _ _ _ Ϫ) Ϧ
 replace c:Ϣ (SB t (w.heap.size+1) [.string x.key,vI x.time,vI x.seq,vS i n j,.bool x.met]):=by
  subst f;exact c.o.set 4 _ Ϧ
 replace a:Ϣ (An R w t/\RR t R b):=by
  subst f;exact⟨⟨a.o.1.1.setCell (Nat.zero_le _) _,λg p y=>(heap_setCell_other _ _ _ _ Ϫ).trans (a.o.1.2 g p y)⟩,a.o.2.set Ϥ⟩
 replace z:Ϣ (AM t w (vS i n j) x.row):=by
  subst f;exact A1 z.o (λg p=>heap_setCell_other _ _ _ _ (λe=>M.o.1 (p.trans (congrArg some e))))
 clear B C f;obtain⟨d0,d1,d2,d3,d4⟩:=sc5 c.o;have X:Ϣ (t.there w.heap.size 0 5):=k.o.there;have K:Ϣ (RR (World.setCells t w.heap.size 0 [.string x.key,vI x.time,vI x.seq,vS i n j,.bool x.met]) R b/\An R w (World.setCells t w.heap.size 0 [.string x.key,vI x.time,vI x.seq,vS i n j,.bool x.met])/\AM (World.setCells t w.heap.size 0 [.string x.key,vI x.time,vI x.seq,vS i n j,.bool x.met]) w.heap.size (vS i n j) x.row):=
  ⟨a.o.2.sets Ϥ _ _,Fo a.o.1 nR _ _,A1 z.o (λg p=>C0 (λe=>M.o.2 (p.trans (congrArg some e))) _ _ _)⟩
 have A:Ϣ ((World.setCells t w.heap.size 0 [.string x.key,vI x.time,vI x.seq,vS i n j,.bool x.met]).rangeAt w.heap.size 0 [.string x.key,vI x.time,vI x.seq,vS i n j,.bool x.met]):=World.rangeAt_setCells_same _ _ _ _ X.o;go_wp2_with ((with_reducible refine wpList_store_mid ?_ 166 (.tmp 2) (.tmp 19) ?_ w.heap.size 0 #[.string x.key,vI x.time,vI x.seq,vS i n j,.bool x.met] ?_ ?_ ?_ ?_ ?_ ?_);exact rfl;exact rfl;exact rfl;exact rfl;exact X.o;exact Aak;exact ϭ);generalize (World.setCells t w.heap.size 0 [.string x.key,vI x.time,vI x.seq,vS i n j,.bool x.met])=W' at A K⊢;have z0:=A.o 0 _ rfl;have z1:=A.o 1 _ rfl;have z2:=A.o 2 _ rfl;have z3:=A.o 3 _ rfl;have z4:=A.o 4 _ rfl;simp only[Nat.zero_add]at z0 z1 z2 z3 z4;exact bodyPost_ret (v:=.agg #[.string x.key,vI x.time,vI x.seq,vS i n j,.bool x.met]) (by simp[results,results205,go_sem,z0,z1,z2,z3,z4]) rfl ⟨⟨⟨x.key,x.time,x.seq,(i,n,j),x.met⟩,rfl,⟨rfl,rfl,rfl,rfl,HN.o.symm,K.o.2.2⟩⟩,K.o.1,K.o.2.1⟩
structure RP(w:World)(C R:Nat):Prop where
 cell:Δ w C 0 (.pointer (ϋ R))
 ne:C≠R
 lt:C<w.heap.size
theorem RP.keep{C:Nat}(h:RP w C R)(c:An R w w'):RP w' C R:=⟨(cOb (w:=w) (a:=⟨C,0,none⟩) (c.2 C h.lt h.ne)).trans h.cell,h.ne,Nat.lt_of_lt_of_le h.lt c.1.size⟩
theorem OE.keptR{base:Nat}{a:List EM}(h:OE w base v a l)(d:An R w w')(f:Ah w R 124):OE w' base v a l:=
 h.same d.1.size (λg j t c i=>d.2 g (AH ⟨_,_,c⟩) (λe=>by
  subst e;have:t≠124:=by
   rcases i with⟨_,rfl⟩|rfl
   ·decide
   ·decide
  exact tyAt_apart ⟨_,_,c⟩ f this rfl))
theorem RR.grown(h:RR w1 R s)(d:(w1.alloc o).grownBy w2 row)(e:row≠some R):RR w2 R s:=by
 have c:w2.heap[R]? =w1.heap[R]? :=CL (bR.alloc nR o) d h.lt e;exact⟨(cOb (w:=w1) (a:=⟨R,0,none⟩) c).trans h.cell,(World.frozen?_of_block (w:=w1) (a:=⟨R,0,none⟩) c).trans h.frz,Aq h.tb c⟩
theorem I0(h:An R w w1)(a:(w1.alloc o).grownBy w2 row)(f:∀g,row=some g->w.heap.size<=g):An R w w2:=
 ⟨(((h.1.alloc (Nat.zero_le _) o).grown a (Nat.zero_le _) (λk i=>Nat.zero_le _))),λg c d=>(CL (bR.alloc nR o) a (Nat.lt_of_lt_of_le c h.1.size) (λe=>by have:=f g e;omega)).trans (h.2 g c d)⟩
theorem Aal(R C:Nat)(x:Ent)(b:List UInt8)(w:Ϡ)(h:RR w R (Bp x++b))(q:RP w C R)(p:okR x)(F:b.length<=60000000):
 χ 204 #[ω C] w λe w'=>(∃m:EM,e= .returned m.val/\OR w' w.heap.size m x)/\RR w' R b/\An R w w':=by
 have B:=hIz (λ(w1:Ϡ) (D:RR w1 R (Bp x++b))=>U7 R x b w1 D p F);have J:=q.cell;have K:=q.lt;have H:=h.lt;have a:=hV0 h;clear h p;go_enter func204,ntmps204;go_wp2_with fail;generalize i:(World.alloc w _)=V;have j:ϣ w V:=by rw[<-i];exact ϯ
 have d:Ϣ (SB V w.heap.size [ϐ,Ϗ,Ϗ,ώ,ϑ]):=by
  subst i;exact SB.new w [ϐ,Ϗ,Ϗ,ώ,ϑ] 166
 have I:w.heap.size<V.heap.size:=d.o.lt;clear i;refine(B.o V (a.o.below j)).mono ?_;rintro o w1 ⟨⟨m,rfl,c⟩,r,k⟩;replace d:Ϣ (SB w1 w.heap.size [ϐ,Ϗ,Ϗ,ώ,ϑ]):=d.o.keep k Ϥ;have n:Ϣ (w1.there w.heap.size 0 5):=d.o.there;have f:Ϣ (RR (World.setCells w1 w.heap.size 0 [.string m.key,vI m.time,vI m.seq,vS m.row.1 m.row.2.1 m.row.2.2,.bool m.met]) R b/\An R w (World.setCells w1 w.heap.size 0 [.string m.key,vI m.time,vI m.seq,vS m.row.1 m.row.2.1 m.row.2.2,.bool m.met])/\OR (World.setCells w1 w.heap.size 0 [.string m.key,vI m.time,vI m.seq,vS m.row.1 m.row.2.1 m.row.2.2,.bool m.met]) w.heap.size m x):=
  ⟨r.sets Ϥ _ _,Fo ((An.of j).trans k) nR _ _,⟨c.key,c.time,c.seq,c.met,c.len,World.ownsRow.mono (A1 c.row (λg E=>C0 (λe=>by have:=(AL c.row E).1;omega) _ _ _)) j.size⟩⟩
 unfold EM.val hdV;clear r k c d;have a:Ϣ ((World.setCells w1 w.heap.size 0 [.string m.key,vI m.time,vI m.seq,vS m.row.1 m.row.2.1 m.row.2.2,.bool m.met]).rangeAt w.heap.size 0 [.string m.key,vI m.time,vI m.seq,vS m.row.1 m.row.2.1 m.row.2.2,.bool m.met]):=World.rangeAt_setCells_same _ _ _ _ n.o;go_wp2_with ((with_reducible refine wpList_store_mid ?_ 166 (.tmp 1) (.tmp 3) ?_ w.heap.size 0 #[.string m.key,vI m.time,vI m.seq,vS m.row.1 m.row.2.1 m.row.2.2,.bool m.met] ?_ ?_ ?_ ?_ ?_ ?_);exact rfl;exact rfl;exact rfl;exact rfl;exact n.o;exact Aak;exact ϭ);generalize (World.setCells w1 w.heap.size 0 [.string m.key,vI m.time,vI m.seq,vS m.row.1 m.row.2.1 m.row.2.2,.bool m.met])=G at a f⊢;have t:=a.o 0 _ rfl;have u:=a.o 1 _ rfl;have y:=a.o 2 _ rfl;have z:=a.o 3 _ rfl;have A:=a.o 4 _ rfl;simp only[Nat.zero_add]at t u y z A;exact bodyPost_ret (v:=.agg #[.string m.key,vI m.time,vI m.seq,vS m.row.1 m.row.2.1 m.row.2.2,.bool m.met]) (by simp[results,results204,go_sem,t,u,y,z,A]) rfl ⟨⟨m,rfl,f.o.2.2⟩,f.o.1,f.o.2.1⟩
structure ES(w:World)(R:Nat)(s:List UInt8)(W:World)(bs:List (TypeId×List Value)):Prop where
 keep:An R w W
 rr:RR W R s
 blk:∀k b,bs[k]? =some b->SB W (w.heap.size+k) b.2/\Ah W (w.heap.size+k) b.1
theorem ES.call{a:Ϡ}{t:List UInt8}{d:List (TypeId×List Value)}(h:ES w R s W d)(g:R<w.heap.size)(c:An R W a)(f:RR a R t):ES w R t a d:=
 ⟨h.keep.trans c,f,λk b e=>⟨(h.blk k b e).1.keep c Ϥ,Aq (h.blk k b e).2 (c.2 _ (h.blk k b e).1.lt Ϥ)⟩⟩
theorem ES.put{S:Ϡ}{j:Nat}{a:List (TypeId×List Value)}(h:ES w R s W a)(n:W.setCell ⟨N,j,none⟩ v=S)(t:R<w.heap.size)(k:Nat){b:TypeId×List Value}(m:w.heap.size+k=N)(d:a[k]? =some b)(r:j<b.2.length):ES w R s S (a.set k (b.1,b.2.set j v)):=by
 subst n m;refine⟨⟨h.keep.1.setCell (Nat.zero_le _) _,λg p q=>(heap_setCell_other _ _ _ _ Ϫ).trans (h.keep.2 g p q)⟩,h.rr.set Ϥ,λi c e=>?_⟩;by_cases f:i=k
 ·subst f;rw[List.getElem?_set_self (List.getElem?_eq_some_iff.1 d).1]at e;obtain rfl:=(Option.some.inj e);exact⟨(h.blk i b d).1.set j v r,Ao (h.blk i b d).2 _ _⟩
 ·rw[List.getElem?_set_ne (λe=>f e.symm)]at e;exact⟨(h.blk i c e).1.same (heap_setCell_other _ _ _ _ Ϫ) Ϧ,Ao (h.blk i c e).2 _ _⟩
theorem ES.len{a:List (TypeId×List Value)}(h:ES w R s W a)(k:Nat){b:TypeId×List Value}(c:a[k]? =some b):w.heap.size+k<W.heap.size:=(h.blk k b c).1.lt
theorem ES.new{a:List (TypeId×List Value)}(h:ES w R s W a)(g:W.heap.size=w.heap.size+a.length)(vs:List Value)(t:TypeId):ES w R s (W.alloc (.cells vs.toArray t)) (a++[(t,vs)]):=by
 have c:=(Below.refl W.heap.size W).alloc nR (.cells vs.toArray t);refine⟨h.keep.trans (An.of c),h.rr.below c,λk b e=>?_⟩;by_cases d:k<a.length
 ·rw[getElem?_append_left d]at e;exact⟨(h.blk k b e).1.below c,Ak (h.blk k b e).2 c⟩
 ·have f:k=a.length:=by
   have:=(List.getElem?_eq_some_iff.1 e).1;rw[lAp,length_singleton]at this;omega
  subst f;rw[List.getElem?_concat_length]at e;obtain rfl:=Option.some.inj e;rw[<-g];exact⟨SB.new W vs t,⟨_,_,World.alloc_heap_new W _⟩⟩
def AcO(x:Ent):Prop:=okT x.key.data.toList/\okN x.time/\okN x.seq/\rowOk x.row
theorem L8{α:Type} [Inhabited α](f:α->List UInt8)(l:List α)(k:Nat)(h:k<l.length)(b:List UInt8):(l.drop k).flatMap f++b=f (l.getD k ϰ)++((l.drop (k+1)).flatMap f++b):=by
 rw[drop_eq_getElem_cons h,flatMap_cons,append_assoc];simp[gDe,h]
theorem okR.wlen(h:okR x):(Bp x).length<=4000:=by
 have a:=h.few;have c:=h.key;unfold Bp;simp only[lAp,GH,Am,Fs,A2];omega
theorem L9(h:∀x∈l,okR x):(l.flatMap Bp).length<=4000 * l.length:=by
 induction l with
 |nil=>simp
 |cons x l ih=>
  have a:=(h x (mem_cons_self ..)).wlen;have c:=ih (λy hy=>h y (mem_cons_of_mem _ hy));rw[flatMap_cons,lAp,length_cons];omega
theorem AN{α:Type} [Inhabited α]{l:List α}{i:Nat}(h:i<l.length):l.getD i ϰ∈l:=by
 rw[gDe,gEe h];exact getElem_mem h
theorem PF(R C:Nat)(l:List Ent)(b:List UInt8)(w:Ϡ)(h:RR w R (A5 l++b))(X:RP w C R)(D:∀x∈l,okR x)(hn:l.length<=10000)(hm:b.length<=10000000):
 χ 206 #[ω R,.func (.func 204) #[] #[ω C]] w λe w'=>(∃z A a,e= .returned (vS z l.length A)/\OE w' w (vS z l.length A) a l)/\RR w' R b/\An R w w':=by
 have ac:=L9 D;have L:Ϣ (CT 82 #[ω R] w λe w'=>e= .returned (vI l.length)/\RR w' R (l.flatMap Bp++b)/\An R w w'):=Cv R l.length _ w (by unfold A5 at h;rw[append_assoc]at h;exact h) Ϥ (by rw[lAp];omega);have KM:=hIz (λso (w1:Ϡ) (h:so=true)=>Ge R so w1 h);have M:Ϣ (∀k,k<l.length->∀w1,RR w1 R ((l.drop k).flatMap Bp++b)->RP w1 C R->CT 204 #[ω C] w1 λe w'=>(∃m:EM,e= .returned m.val/\OR w' w1.heap.size m (l.getD k ϰ))/\RR w' R ((l.drop (k+1)).flatMap Bp++b)/\An R w1 w'):=λk c w1 S E=>by
  rw[L8 Bp l k c]at S;have h2:=L9 (l:=l.drop (k+1)) (λx F=>D x (List.mem_of_mem_drop F));rw[length_drop]at h2;exact Aal R C _ _ w1 S E (D _ (AN c)) (by rw[lAp];omega)
 have I:Ϣ (∀k,k<l.length->l.take (k+1)=l.take k++[l.getD k ϰ]):=λk c=>by
  rw[take_succ_eq_append_getElem c];simp[gDe,c]
 have ab:Ϣ (RP w C R/\R<w.heap.size):=⟨X,h.lt⟩;obtain⟨n,P⟩:=nM l.length;have H:=hV0 P;rw[P]at L M I hn⊢;clear h X D ac P;go_enter func206,ntmps206;go_wp2_with fail;refine L.o.mono ?_;rintro e w1 ⟨rfl,Y,U⟩;have J:Ϣ (RR w1 R (l.flatMap Bp++b)/\An R w w1):=⟨Y,U⟩;have ak:=nn0 n;clear Y U L;go_wp2_with (go_at_call 139;refine(KM.o _ _ Ϧ).mono ?_;rintro e w2 ⟨rfl,rfl⟩)
 go_loopw [6,14] (λv i wr=> ∃(k:Nat) (a:List EM),k<=n/\i=vI k/\OE wr w v a (l.take k)/\RR wr R ((l.drop k).flatMap Bp++b)/\An R w wr) (λ_ i _=>n - (intOf i).toNat)
 case atStart=>exact⟨0,[],Nat.zero_le _,rfl,E9 J.o.2.1.size,by rw[List.drop_zero];exact J.o.1,J.o.2⟩
 case round=>
  obtain⟨k,a,al,rfl,d,p,r⟩:=hrel;have t:a.length=k:=by rw[d.len,length_take,H.o];omega
  by_cases V:k<n
  ·have E:=ab.o.1.keep r;have K:=M.o k V wr p E;have Q:Ϣ (l.take (k+1)=l.take k++[l.getD k ϰ]):=I.o k V;obtain⟨x,F⟩:=nM (l.getD k ϰ);rw[F]at K Q;have q:Ϣ (OE wr w u6 a (l.take k)/\Ah wr R 124):=⟨d,p.tb⟩;have G:=hV0 r;have i1:=nn0 k;have i2:(k:Int)<(n:Int):=Ϥ;have KH:Ϣ (CT 204 #[ω C] wr λe w'=>(∃m:EM,e= .returned m.val/\OR w' wr.heap.size m x)/\RR w' R ((l.drop (k+1)).flatMap Bp++b)/\An R wr w'):=K;clear F d p r E K M I;go_wp2_with fail;refine KH.o.mono ?_;rintro e j ⟨⟨m,rfl,f⟩,Z,B⟩;have u:Ϣ (OE j w u6 a (l.take k)):=OE.keptR q.o.1 B q.o.2;have y:Ϣ (OR j w.heap.size m x/\RR j R ((l.drop (k+1)).flatMap Bp++b)/\An R w j):=⟨⟨f.key,f.time,f.seq,f.met,f.len,World.ownsRow.mono f.row G.o.1.size⟩,Z,G.o.trans B⟩;have ae:w.heap.size<=j.heap.size:=Nat.le_trans G.o.1.size B.1.size;have aa:Ϣ (j.ownsRow w 166 5 u6 k (Aw a)):=by
    have:=u.o.own;rw[t]at this;exact this
   unfold EM.val hdV;clear f Z B;go_wp2_with (at_builtin;refine jn.TO rfl (.tmp 16) (.tmp 19) rfl w.heap.size u6 a m.key m.time m.seq m.row.1 m.row.2.1 m.row.2.2 m.met j k t aa.o Ϥ ae rfl rfl ?_;intro g aj w4 ah O);have hs:=Lu (e:=m) (x:=x) u.o bR y.o.1 (by rw[t];exact ah) O;have ag:u6.ownBlock≠some R:=λe=>tyAt_apart y.o.2.1.tb (A9 u.o.own e) ϥ rfl;have ai:=y.o.2.1.grown O ag;have af:=I0 y.o.2.2 O (λg e=>(AL u.o.own e).1);rw[t]at hs;go_wp2;go_roundw;exact⟨k+1,a++[m],Ϥ,by go_num,by rw[Q.o];exact hs.1,ai,af⟩;simp[intOf];omega
  ·have c:k=n:=Ϥ;subst c;have i2:¬((k:Int)<(k:Int)):=Ϥ;rw[take_of_length_le (by rw[H.o];exact Nat.le_refl _)]at d;rw[drop_of_length_le (by rw[H.o];exact Nat.le_refl _)]at p;obtain⟨z,A,hv⟩:=d.form;rw[t]at hv;have q:Ϣ (OE wr w u6 a l/\RR wr R b/\An R w wr):=⟨d,p,r⟩;clear d p r;subst hv;go_wp2;go_ret;exact⟨⟨z,A,rfl,a,q.o.1⟩,q.o.2⟩
end cd
namespace cd
open vl bf bt
def BK(t:Tal):List UInt8:=Bz [t.1]++As t.2
def AfG(t:Tal):Prop:=rowOk [t.1]/\okN t.2
def B7:List Tal->List UInt8:=lst BK
def AfH:List Tal->Prop:=okL AfG
def AV(g:gr.Grp):List UInt8:=Bz g.row++As g.n++lst B7 g.bags
def AfI(g:gr.Grp):Prop:=rowOk g.row/\okN g.n/\okL AfH g.bags
end cd
namespace cd
open vl bf
variable {w w' : Ϡ} {R base : Nat} {v : Value} {ps : List Part} {l : List (List Ent)}
def G1(C:Nat):Value:=.func (.func 204) #[] #[ω C]
structure GP(w:World)(D C R:Nat):Prop where
 cell:Δ w D 0 (G1 C)
 ne:D≠R
 lt:D<w.heap.size
theorem GP.keep{D C:Nat}(h:GP w D C R)(c:An R w w'):GP w' D C R:=⟨(cOb (w:=w) (a:=⟨D,0,none⟩) (c.2 D h.lt h.ne)).trans h.cell,h.ne,Nat.lt_of_lt_of_le h.lt c.1.size⟩
theorem Aam(R C D:Nat)(l:List Ent)(b:List UInt8)(w:Ϡ)(h:RR w R (A5 l++b))(f:RP w C R)(i:GP w D C R)(m:∀x∈l,okR x)(j:l.length<=10000)(r:b.length<=10000000):
 χ 208 #[ω C,ω D] w λe w'=>(∃a c d,e= .returned (vS a l.length c)/\OE w' w (vS a l.length c) d l)/\RR w' R b/\An R w w':=by
 have g:Ϣ (CT 206 #[ω R,G1 C] w λe w'=>(∃a c d,e= .returned (vS a l.length c)/\OE w' w (vS a l.length c) d l)/\RR w' R b/\An R w w'):=PF R C l b w h f m j r;have A:=f.cell;have p:=i.cell;unfold G1 at g p;have y:=f.lt;have z:=i.lt;obtain⟨n,k⟩:=nM l.length;rw[k]at g⊢;clear h f i m j k;go_enter func208,ntmps208;go_wp2_with fail;refine g.o.mono ?_;rintro e w1 ⟨⟨a,c,d,rfl,t⟩,u,q⟩;go_wp2;go_ret;exact⟨⟨a,c,d,rfl,t⟩,u,q⟩
structure RS(w:World)(base:Nat)(v:Value)(ps:List Part)(l:List (List Ent)):Prop where
 own:w.ownsRow base 33 1 v ps.length (ps.map λp=>hdV p.1)
 len:ps.length=l.length
 runs:∀i,i<l.length->(ps.getD i ϰ).1.2.1=(l.getD i ϰ).length/\OE w base (hdV (ps.getD i ϰ).1) (ps.getD i ϰ).2 (l.getD i ϰ)
theorem RS.keptR(h:RS w base v ps l)(e:An R w w')(a:Ah w R 124):RS w' base v ps l:=
 ⟨A1 h.own (λg c=>e.2 g (AL h.own c).2 (tyAt_apart (A9 h.own c) a ϥ)),h.len,λi d=>⟨(h.runs i d).1,OE.keptR (h.runs i d).2 e a⟩⟩
theorem AeS(w:Ϡ)(base:Nat):RS w base (vS none 0 0) [] []:=⟨World.ownsRow_nil _ _ _ _,rfl,λi a=>absurd a (Nat.not_lt_zero i)⟩
theorem AcP{w2:Ϡ}{v':Value}{p:Part}{r:List Ent}{o:Obj}(h:RS w base v ps l)(C:OE w base (hdV p.1) p.2 r)(z:p.1.2.1=r.length)(d:(w.alloc o).grownBy w2 v.ownBlock)(y:w2.ownsRow base 33 1 v' (ps.length+1) ((ps.map λp=>hdV p.1)++[hdV p.1])):RS w2 base v' (ps++[p]) (l++[r]):=by
 have A:w.heap.size<=w2.heap.size:=by have:=d.size;simp at this;omega
 have m:∀{u:Value} {c:List EM} {q:List Ent},OE w base u c q->OE w2 base u c q:=λ{u c q} k=>k.same A (λg D t f B=>CL (bR.alloc nR o) d (AH ⟨_,_,f⟩) (λe=>by
  have n:=A9 h.own e;refine tyAt_apart ⟨_,_,f⟩ n ?_ rfl;rcases B with⟨_,rfl⟩|rfl
  ·decide
  ·decide))
 refine⟨by rw[lAp,map_append];exact y,by rw[lAp,lAp,h.len];rfl,λi j=>?_⟩;rw[lAp]at j;by_cases a:i<l.length
 ·rw[AQ (by rw[h.len];exact a),AQ a];exact⟨(h.runs i a).1,m (h.runs i a).2⟩
 ·have:i=l.length:=by simp at j;omega
  subst this;rw[AW (by rw[h.len];exact Nat.le_refl _),AW nR,h.len,Nat.sub_self];exact⟨z,m C⟩
theorem PG(h:∀r∈l,∀x∈r,okR x):(l.flatMap A5).length<=8 * l.length+4000 * l.flatten.length:=by
 induction l with
 |nil=>simp
 |cons x l ih=>
  have c:=L9 (h x (mem_cons_self ..));have a:=ih (λy hy=>h y (mem_cons_of_mem _ hy));rw[flatMap_cons,lAp,length_cons,flatten_cons,lAp];unfold A5 at a⊢;rw[lAp,Am];omega
theorem AcQ:(Tryz.prog.info? 33).map (λi=>(i.zero,i.size,i.bytes))=some (some (vS none 0 0),1,24):=ϧ
theorem LA{α:Type}(l:List (List α))(k:Nat):(l.drop k).flatten.length<=l.flatten.length:=by
 have:=congrArg (λz=>z.flatten.length) (take_append_drop k l)
 try dsimp only at this
 rw[flatten_append,lAp]at this;omega
theorem XM(R C D:Nat)(l:List (List Ent))(b:List UInt8)(w:Ϡ)(h:RR w R (Db l++b))(hp:RP w C R)(hd:GP w D C R)(H:∀r∈l,∀x∈r,okR x)(hn:l.length<=1000)(hf:l.flatten.length<=1000)(hm:b.length<=5000000):
 χ 207 #[ω R,.func (.func 208) #[] #[ω C,ω D]] w λe w'=>(∃a c ps,e= .returned (vS a l.length c)/\RS w' w.heap.size (vS a l.length c) ps l)/\RR w' R b/\An R w w':=by
 have ak:=PG H;have O:Ϣ (CT 82 #[ω R] w λe w'=>e= .returned (vI l.length)/\RR w' R (l.flatMap A5++b)/\An R w w'):=Cv R l.length _ w (by unfold Db at h;rw[append_assoc]at h;exact h) Ϥ (by rw[lAp];omega);have KM:=hIz (λso (w1:Ϡ) (h:so=true)=>Ge R so w1 h);have P:Ϣ (∀k,k<l.length->∀w1,RR w1 R ((l.drop k).flatMap A5++b)->RP w1 C R->GP w1 D C R->CT 208 #[ω C,ω D] w1 λe w'=>(∃a c f,e= .returned (vS a (l.getD k ϰ).length c)/\OE w' w1 (vS a (l.getD k ϰ).length c) f (l.getD k ϰ))/\RR w' R ((l.drop (k+1)).flatMap A5++b)/\An R w1 w'):=λk d w1 h1 ap al=>by
  rw[L8 A5 l k d]at h1;have h2:=PG (l:=l.drop (k+1)) (λx I=>H x (List.mem_of_mem_drop I));have h3:=LA l (k+1);have h4:=Es (AN d);rw[length_drop]at h2;exact Aam R C D _ _ w1 h1 ap al (H _ (AN d)) Ϥ (by rw[lAp];omega)
 have M:Ϣ (∀k,k<l.length->l.take (k+1)=l.take k++[l.getD k ϰ]):=λk d=>by
  rw[take_succ_eq_append_getElem d];simp[gDe,d]
 have X:Ϣ (RP w C R/\GP w D C R):=⟨hp,hd⟩;obtain⟨A,hi,ag,ah,ai⟩:=info_parts AcQ;have B:Ϣ (Tryz.prog.info? 33=some A/\A.zero=some (vS none 0 0)/\A.size=1/\A.bytes=24):=⟨hi,ag,ah,ai⟩;obtain⟨n,V⟩:=nM l.length;have L:=hV0 V;rw[V]at O P M hn⊢;clear h hp hd H ak V hi ag ah ai hf;go_enter func207,ntmps207;go_wp2_with fail;refine O.o.mono ?_;rintro e w1 ⟨rfl,ae,aa⟩;have Z:Ϣ (RR w1 R (l.flatMap A5++b)/\An R w w1):=⟨ae,aa⟩;have au:=nn0 n;clear ae aa O;go_wp2_with (go_at_call 139;refine(KM.o _ _ Ϧ).mono ?_;rintro e w2 ⟨rfl,rfl⟩)
 go_loopw [6,14] (λv i wr=> ∃(k:Nat) (ps:List Part),k<=n/\i=vI k/\RS wr w.heap.size v ps (l.take k)/\RR wr R ((l.drop k).flatMap A5++b)/\An R w wr) (λ_ i _=>n - (intOf i).toNat)
 case atStart=>exact⟨0,[],Nat.zero_le _,rfl,AeS _ _,by rw[List.drop_zero];exact Z.o.1,Z.o.2⟩
 case round=>
  obtain⟨k,ps,av,rfl,j,y,t⟩:=hrel;have S:ps.length=k:=by rw[j.len,length_take,L.o];omega
  by_cases ab:k<n
  ·have K:=P.o k ab wr y (X.o.1.keep t) (X.o.2.keep t);have Y:Ϣ (l.take (k+1)=l.take k++[l.getD k ϰ]):=M.o k ab;obtain⟨x,I⟩:=nM (l.getD k ϰ);rw[I]at K Y;obtain⟨m,U⟩:=nM x.length;have HM:=hV0 U;rw[U]at K;have z:Ϣ (RS wr w.heap.size u6 ps (l.take k)/\Ah wr R 124):=⟨j,y.tb⟩;have J:=hV0 t;have i1:=nn0 k;have i2:(k:Int)<(n:Int):=Ϥ;have KH:Ϣ (CT 208 #[ω C,ω D] wr λe w'=>(∃a c f,e= .returned (vS a m c)/\OE w' wr (vS a m c) f x)/\RR w' R ((l.drop (k+1)).flatMap A5++b)/\An R wr w'):=K;clear I U j y t K P M;go_wp2_with fail;refine KH.o.mono ?_;rintro e q ⟨⟨a,c,f,rfl,ac⟩,af,G⟩;have E:Ϣ (RS q w.heap.size u6 ps (l.take k)):=RS.keptR z.o.1 G z.o.2;have F:Ϣ (OE q w (vS a m c) f x/\RR q R ((l.drop (k+1)).flatMap A5++b)/\An R w q):=⟨ac.mono J.o.1.size,af,J.o.trans G⟩;have ar:w.heap.size<=q.heap.size:=Nat.le_trans J.o.1.size G.1.size;have aj:Ϣ (q.ownsRow w 33 1 u6 k (ps.map λp=>hdV p.1)):=by
    have:=E.o.own;rw[S]at this;exact this
   clear ac af G;go_wp2_with (at_builtin;refine wpList_append_own _ rfl (.tmp 16) (.tmp 19) 34 rfl w.heap.size 33 A (vS none 0 0) 1 24 underlying34 B.o.1 B.o.2.1 B.o.2.2.1 B.o.2.2.2 rfl ϥ _ _ _ rfl (World.ownsRow.alloc aj.o _) ⟨q,0,none⟩ 1 1 [vS a m c] rfl rfl (bf.cell_one_new _ _ rfl _) (by intro u hu;simp at hu;rcases hu with rfl;rfl) Ϯ Ϥ ϩ ?_;intro v4 w4 ao Q _);have hs:=AcP (v':=v4) (p:=((a,m,c),f)) (r:=x) E.o F.o.1 HM.o.symm Q (by rw[S];exact ao);have an:u6.ownBlock≠some R:=λe=>tyAt_apart F.o.2.1.tb (A9 E.o.own e) ϥ rfl;have aq:=F.o.2.1.grown Q an;have am:=I0 F.o.2.2 Q (λg e=>(AL E.o.own e).1);go_wp2;go_roundw;exact⟨k+1,ps++[((a,m,c),f)],Ϥ,by go_num,by rw[Y.o];exact hs,aq,am⟩;simp[intOf];omega
  ·have d:k=n:=Ϥ;subst d;have i2:¬((k:Int)<(k:Int)):=Ϥ;rw[take_of_length_le (by rw[L.o];exact Nat.le_refl _)]at j;rw[drop_of_length_le (by rw[L.o];exact Nat.le_refl _)]at y;obtain⟨a,c,hv⟩:=Lg j.own;rw[S]at hv;have z:Ϣ (RS wr w.heap.size u6 ps l/\RR wr R b/\An R w wr):=⟨j,y,t⟩;clear j y t;subst hv;go_wp2;go_ret;exact⟨⟨a,c,rfl,ps,z.o.1⟩,z.o.2⟩
end cd
namespace cd
open vl bf
attribute [local go_sem] run_store_func
variable {w : Ϡ} {N R base base' : Nat} {x : BX} {b : Buf} {T : TypeId} {v : Value} {ps : List Part} {l : List (List Ent)}
structure BO(w:World)(base:Nat)(x:BX)(b:Buf):Prop where
 mem:OE w base (hdV x.m.1) x.m.2 b.mem
 runs:RS w base (vS x.ra x.rs.length x.rc) x.rs b.runs
theorem BO.at(h:BO w base x b):bufAt w b x:=by
 have c:∀p∈x.m::x.rs,∃l,OE w base (hdV p.1) p.2 l:=λp c=>by
  rcases mem_cons.1 c with rfl|c
  ·exact⟨_,h.mem⟩
  ·obtain⟨i,a,rfl⟩:=getElem_of_mem c;have:=(h.runs.runs i (by rw[<-h.runs.len];exact a)).2;rw[gDe,gEe a]at this;exact⟨_,this⟩
 refine⟨λi a=>?_,λp e=>?_,λp e=>?_,?_,h.mem.ers,h.runs.len,λi a=>((h.runs.runs i a).2).ers⟩
 ·rw[lMp]at a;rcases h.runs.own.2 with⟨_,q⟩|⟨g,m,n,k,_⟩
  ·omega
  ·injection k with f _ _
   refine⟨g,0,f,?_⟩;have j:=World.ownsRow.cells h.runs.own (g:=g) (by rw[f];rfl) i (hdV (x.rs[i]).1) (by rw[getElem?_map,gEe a];rfl);rw[Dk]at j;rw[gDe,getElem?_map,gEe a];exact j
 ·obtain⟨l,d⟩:=c p e;exact(GA d).1
 ·obtain⟨l,d⟩:=c p e;exact(GA d).2
 ·have:=LM h.runs.own;unfold maxLen at this;omega
theorem AcR(h:RS w base v ps l)(a:Ah w N T)(c:jn.calmT T)(k:Nat)(u:Value):RS (ό w N k u) base v ps l:=
 ⟨A1 h.own (λg e=>heap_setCell_other _ _ _ _ (tyAt_apart (A9 h.own e) a c.h.symm)),h.len,λi d=>⟨(h.runs i d).1,jn.Ly (h.runs i d).2 a c k u⟩⟩
theorem RS.mono(h:RS w base v ps l)(a:base'<=base):RS w base' v ps l:=⟨World.ownsRow.mono h.own a,h.len,λi c=>⟨(h.runs i c).1,(h.runs i c).2.mono a⟩⟩
theorem BO.mono(h:BO w base x b)(a:base'<=base):BO w base' x b:=⟨h.mem.mono a,h.runs.mono a⟩
theorem BO.keptR{w':Ϡ}(h:BO w base x b)(c:An R w w')(a:Ah w R 124):BO w' base x b:=⟨OE.keptR h.mem c a,h.runs.keptR c a⟩
theorem BL(h:BO w base x b)(a:Ah w N T)(c:jn.calmT T)(k:Nat)(u:Value):BO (ό w N k u) base x b:=⟨jn.Ly h.mem a c k u,AcR h.runs a c k u⟩
theorem F8{base N:Nat}{T:TypeId}{x:BX}{b:Buf}(a:jn.calmT T):∀(l:List Value) (o:Nat) (w:Ϡ),BO w base x b->Ah w N T->BO (w.setCells N o l) base x b
 |[],_,_,h,_=>h
 |u::l,o,w,h,hN=>F8 a l (o+1) _ (BL h hN a o u) (Ao hN _ _)
theorem Q9:jn.calmT 36:=⟨ϥ,ϥ,ϥ⟩
theorem AeT:(Tryz.prog.info? 36).map (·.size)=some 3:=ϧ
theorem Cb{W:Ϡ}{j:Nat}(h:An R w W)(d:w.heap.size<=N):An R w (ό W N j v):=
 ⟨h.1.setCell (Nat.zero_le _) _,λg c a=>(heap_setCell_other _ _ _ _ Ϫ).trans (h.2 g c a)⟩
structure okRB(b:Buf):Prop where
 ents:∀x∈Ab b,okR x
 few:(Ab b).length<=1000
 runs:b.runs.length<=1000
theorem okRB.mem(h:okRB b):(∀x∈b.mem,okR x)/\b.mem.length<=1000:=by
 have e:Ab b=b.mem++b.runs.flatten:=rfl;have:=h.few;rw[e,lAp]at this;exact⟨λx a=>h.ents x (by rw[e];exact mem_append.2 (.inl a)),Ϥ⟩
theorem okRB.run(h:okRB b):(∀r∈b.runs,∀x∈r,okR x)/\b.runs.flatten.length<=1000:=by
 have e:Ab b=b.mem++b.runs.flatten:=rfl;have:=h.few;rw[e,lAp]at this;exact⟨λr a x c=>h.ents x (by rw[e];exact mem_append.2 (.inr (mem_flatten.2 ⟨r,a,c⟩))),Ϥ⟩
theorem Sw(R:Nat)(b:Buf)(t:List UInt8)(w:Ϡ)(h:RR w R (Bo b++t))(A:okRB b)(hm:t.length<=4900000 - 8)(hl:(Db b.runs).length+t.length<=9000000):
 χ 138 #[ω R,vI b.lim] w λe w'=>(∃x:BX,e= .returned (.agg (Ω b x))/\BO w' w.heap.size x b)/\RR w' R t/\An R w w':=by
 have J:Ϣ (∀C w1,RR w1 R (A5 b.mem++(Db b.runs++t))->RP w1 C R->CT 206 #[ω R,G1 C] w1 λe w'=>(∃d f y,e= .returned (vS d b.mem.length f)/\OE w' w1 (vS d b.mem.length f) y b.mem)/\RR w' R (Db b.runs++t)/\An R w1 w'):=λC w1 M S=>PF R C b.mem _ w1 M S A.mem.1 (by have:=A.mem.2;omega) (by rw[lAp];omega);have Z:=hIz (λC D (w1:Ϡ) (M:RR w1 R (Db b.runs++t)) (S:RP w1 C R) (hd:GP w1 D C R)=>XM R C D b.runs t w1 M S hd A.run.1 A.runs A.run.2 Ϥ);have z:Ϣ (RR w R (A5 b.mem++(Db b.runs++t))):=by
  unfold Bo at h;rw[append_assoc]at h;exact h
 have hR:=h.lt;obtain⟨n,hn⟩:=nM b.mem.length;obtain⟨u,U⟩:=nM b.runs.length;have af:=hV0 U;rw[hn]at J;rw[U]at Z;clear h A hm hl hn U;go_enter func138,ntmps138;unfold G1 at J;go_wp2_with fail;generalize O:(World.alloc (World.alloc (World.alloc (World.alloc w _) _) _) _)=V;have P:ϣ w V:=by rw[<-O];exact((ϯ.alloc Ϧ _).alloc ϫ _).alloc ϫ _
 have c:Ϣ ((RP V w.heap.size R/\GP V (w.heap.size+1+1) w.heap.size R)/\(SB V (w.heap.size+1) [Ϗ,ώ,ώ]/\SB V (w.heap.size+1+1+1) [vI b.lim,ώ,ώ])/\Ah V (w+1+1+1) 36/\Ah V (w+1) 36):=by
  subst O;have e1:=World.size_alloc w (.cells #[ω R] 71);have e2:=World.size_alloc (ϊ w #[ω R] 71) (.cells #[Ϗ,ώ,ώ] 36);have e3:=World.size_alloc (ϊ (ϊ w #[ω R] 71) #[Ϗ,ώ,ώ] 36) (.cells #[G1 w.heap.size] 257);rw[e1]at e2;rw[e2]at e3;have s1:=SB.new (ϊ w #[ω R] 71) [Ϗ,ώ,ώ] 36;have s2:=SB.new (ϊ (ϊ (ϊ w #[ω R] 71) #[Ϗ,ώ,ώ] 36) #[G1 w.heap.size] 257) [vI b.lim,ώ,ώ] 36;have t1:=World.alloc_heap_new (ϊ w #[ω R] 71) (.cells #[Ϗ,ώ,ώ] 36);have t2:=World.alloc_heap_new (ϊ (ϊ (ϊ w #[ω R] 71) #[Ϗ,ώ,ώ] 36) #[G1 w.heap.size] 257) (.cells #[vI b.lim,ώ,ώ] 36);rw[e1]at s1 t1;rw[e3]at s2 t2;have ab:Below ((w.alloc (.cells #[ω R] 71)).alloc (.cells #[Ϗ,ώ,ώ] 36)).heap.size (ϊ (ϊ w #[ω R] 71) #[Ϗ,ώ,ώ] 36) (ϊ (ϊ (ϊ (ϊ w #[ω R] 71) #[Ϗ,ώ,ώ] 36) #[G1 w.heap.size] 257) #[vI b.lim,ώ,ώ] 36):=ϯ.alloc Ϧ _;exact⟨⟨⟨Ϩ,Ϥ,ϫ⟩,⟨by unfold G1;go_simp,Ϥ,ϫ⟩⟩,⟨s1.below ab,s2⟩,⟨_,_,t2⟩,Ak ⟨_,_,t1⟩ ab⟩
 have j:Ϣ (An R w V/\RR V R (A5 b.mem++(Db b.runs++t))):=⟨An.of P,z.o.below P⟩;clear O P z;have E:=c.o.1.1.cell;have c2:=c.o.1.2.cell;unfold G1 at c2;have ah:(w.heap.size+1+1+1)<V.heap.size:=c.o.2.1.2.lt;refine(J.o w.heap.size V j.o.2 c.o.1.1).mono ?_;rintro o w1 ⟨⟨d,f,y,rfl,ac⟩,F,i⟩;replace c:Ϣ ((RP w1 w.heap.size R/\GP w1 (w.heap.size+1+1) w.heap.size R)/\(SB w1 (w.heap.size+1) [Ϗ,ώ,ώ]/\SB w1 (w.heap.size+1+1+1) [vI b.lim,ώ,ώ])/\Ah w1 (w+1+1+1) 36/\Ah w1 (w+1) 36):=⟨⟨c.o.1.1.keep i,c.o.1.2.keep i⟩,⟨c.o.2.1.1.keep i Ϥ,c.o.2.1.2.keep i Ϥ⟩,Aq c.o.2.2.1 (i.2 _ c.o.2.1.2.lt Ϥ),Aq c.o.2.2.2 (i.2 _ c.o.2.1.1.lt Ϥ)⟩;replace j:Ϣ (An R w w1/\RR w1 R (Db b.runs++t)):=⟨j.o.1.trans i,F⟩;have H:Ϣ (OE w1 w (vS d n f) y b.mem):=ac.mono Ϥ;clear ac F E c2;have E:=c.o.1.1.cell;have K:=c.o.2.1.2.cell 1 _ rfl;have L:=c.o.2.1.2.frz 1;have ai:=i.1.size;have ag:=hV0 c.o.2.2.1;clear i;go_wp2_with fail;generalize r:World.setCell w1 _ _=q;have aa:q.heap.size=w1.heap.size:=by rw[<-r];simp[World.setCell]
 replace c:Ϣ ((RP q w.heap.size R/\GP q (w.heap.size+1+1) w.heap.size R)/\(SB q (w.heap.size+1) [Ϗ,ώ,ώ]/\SB q (w.heap.size+1+1+1) [vI b.lim,vS d n f,ώ])/\Ah q (w+1+1+1) 36/\Ah q (w+1) 36):=by
  subst r;have Q:∀g,g≠(w.heap.size+1+1+1)->(w1.setCell ⟨(w.heap.size+1+1+1),1,none⟩ (vS d n f)).heap[g]? =w1.heap[g]? :=λg hg=>heap_setCell_other _ _ _ _ hg;exact⟨⟨⟨(cOb (w:=w1) (a:=⟨w,0,none⟩) (Q _ Ϫ)).trans c.o.1.1.cell,c.o.1.1.ne,by rw[aa];exact c.o.1.1.lt⟩,⟨(cOb (w:=w1) (a:=⟨(w.heap.size+1+1),0,none⟩) (Q _ Ϫ)).trans c.o.1.2.cell,c.o.1.2.ne,by rw[aa];exact c.o.1.2.lt⟩⟩,⟨c.o.2.1.1.same (Q _ Ϥ) Ϥ,c.o.2.1.2.set 1 _ Ϧ⟩,Ao c.o.2.2.1 _ _,Ao c.o.2.2.2 _ _⟩
 replace j:Ϣ (An R w q/\RR q R (Db b.runs++t)):=by
  subst r;exact⟨Cb j.o.1 Ϥ,j.o.2.set Ϥ⟩
 replace H:Ϣ (OE q w (vS d n f) y b.mem):=by
  subst r;exact jn.Ly H.o ag.o Q9 _ _
 clear r K L E;have E:=c.o.1.1.cell;refine(Z.o w.heap.size (w.heap.size+1+1) q j.o.2 c.o.1.1 c.o.1.2).mono ?_;rintro o w2 ⟨⟨k,m,ps,rfl,X⟩,F,i⟩;replace c:Ϣ ((RP w2 w.heap.size R/\GP w2 (w.heap.size+1+1) w.heap.size R)/\(SB w2 (w.heap.size+1) [Ϗ,ώ,ώ]/\SB w2 (w.heap.size+1+1+1) [vI b.lim,vS d n f,ώ])/\Ah w2 (w+1+1+1) 36/\Ah w2 (w+1) 36):=⟨⟨c.o.1.1.keep i,c.o.1.2.keep i⟩,⟨c.o.2.1.1.keep i Ϥ,c.o.2.1.2.keep i Ϥ⟩,Aq c.o.2.2.1 (i.2 _ c.o.2.1.2.lt Ϥ),Aq c.o.2.2.2 (i.2 _ c.o.2.1.1.lt Ϥ)⟩;have ae:ps.length=u:=X.len.trans af.o;have I:Ϣ (BO w2 w.heap.size ⟨k,m,((d,n,f),y),ps⟩ b):=⟨OE.keptR H.o i j.o.2.tb,by
  show RS w2 w.heap.size (vS k ps.length m) ps b.runs;rw[ae];exact X.mono Ϥ⟩
 replace j:Ϣ (An R w w2/\RR w2 R t):=⟨j.o.1.trans i,F⟩;clear X F i H E;have K:=c.o.2.1.2.cell 2 _ rfl;have L:=c.o.2.1.2.frz 2;go_upto_region 5 with fail;generalize r:World.setCell w2 _ _=p;replace I:Ϣ (BO p w.heap.size ⟨k,m,((d,n,f),y),ps⟩ b):=by
  subst r;exact BL I.o c.o.2.2.1 Q9 _ _
 replace j:Ϣ (An R w p/\RR p R t):=by
  subst r;exact⟨Cb j.o.1 Ϥ,j.o.2.set Ϥ⟩
 have B:Ϣ ((SB p (w.heap.size+1) [Ϗ,ώ,ώ]/\SB p (w.heap.size+1+1+1) [vI b.lim,vS d n f,vS k u m])/\Ah p (w+1) 36):=by
  subst r;exact⟨⟨c.o.2.1.1.same (heap_setCell_other _ _ _ _ Ϫ) (by simp[World.setCell]),c.o.2.1.2.set 2 _ Ϧ⟩,Ao c.o.2.2.2 _ _⟩
 clear r K L c;have d0:=B.o.1.2.cell 0 _ rfl;have d1:=B.o.1.2.cell 1 _ rfl;have d2:=B.o.1.2.cell 2 _ rfl;have Y:Ϣ (p.there (w.heap.size+1) 0 3):=B.o.1.1.there;have G:Ϣ (RR (World.setCells p (w.heap.size+1) 0 [vI b.lim,vS d n f,vS k u m]) R t/\An R w (World.setCells p (w.heap.size+1) 0 [vI b.lim,vS d n f,vS k u m])/\BO (World.setCells p (w.heap.size+1) 0 [vI b.lim,vS d n f,vS k u m]) w.heap.size ⟨k,m,((d,n,f),y),ps⟩ b):=
  ⟨j.o.2.sets Ϥ _ _,Fo j.o.1 Ϥ _ _,F8 Q9 _ _ _ I.o B.o.2⟩
 have z:Ϣ ((World.setCells p (w.heap.size+1) 0 [vI b.lim,vS d n f,vS k u m]).rangeAt (w.heap.size+1) 0 [vI b.lim,vS d n f,vS k u m]):=World.rangeAt_setCells_same _ _ _ _ Y.o;go_wp2_with ((with_reducible refine wpList_store_mid ?_ 36 (.tmp 4) (.tmp 18) ?_ (w.heap.size+1) 0 #[vI b.lim,vS d n f,vS k u m] ?_ ?_ ?_ ?_ ?_ ?_);exact rfl;exact rfl;exact rfl;exact rfl;exact Y.o;exact AeT;exact ϭ);generalize (World.setCells p (w.heap.size+1) 0 [vI b.lim,vS d n f,vS k u m])=W' at z G⊢;have z0:=z.o 0 _ rfl;have z1:=z.o 1 _ rfl;have z2:=z.o 2 _ rfl;simp only[Nat.zero_add]at z0 z1 z2;exact bodyPost_ret (v:=.agg #[vI b.lim,vS d n f,vS k u m]) (by simp[results,results138,go_sem,z0,z1,z2]) rfl ⟨⟨⟨k,m,((d,n,f),y),ps⟩,by rw[ae],G.o.2.2⟩,G.o.1,G.o.2.1⟩
end cd
namespace cd
open vl bf bt
end cd
namespace cd
open vl bf
def ahd(l:List UInt8):List UInt8:=w4 l.length++l
def XN(l:List UInt8):List UInt8×Int:=if 1048576<l.length then([],2)else(ahd l++w4 (crc (ahd l)),0)
theorem Aan(a:List UInt8)(s:ByteArray):(⟨a.toArray⟩:ByteArray)++s=⟨(a++s.data.toList).toArray⟩:=by
 apply ByteArray.ext;rw[ByteArray.data_append];simp
theorem AcS(a b:List UInt8):(⟨a.toArray⟩:ByteArray)++⟨b.toArray⟩=⟨(a++b).toArray⟩:=Aan a ⟨b.toArray⟩
theorem XO(s:ByteArray)(w:Ϡ)(h:J6 w):
 χ 10 #[.string s] w (ψ w (.tuple #[.string ⟨(XN s.data.toList).1.toArray⟩,vI (XN s.data.toList).2])):=by
 have f:=hIz (λn (w1:Ϡ) (t:n<4294967296)=>TH n w1 t);have m:=hIz (λ(l:List UInt8) (w1:Ϡ) (p:ϣ w w1) (r:l.length<=100000000)=>Rr ⟨l.toArray⟩ w1 (FG h p) (by rw[size_mk];exact r));have c:s.data.toList.length=s.size:=A2 s;have d:Ϣ ((⟨(w4 s.size).toArray⟩:ByteArray)++s=⟨(ahd s.data.toList).toArray⟩):=by
  show _=_;unfold ahd;rw[c];exact Aan _ s
 by_cases k:1048576<s.size
 ·have a:Ϣ (XN s.data.toList=([],2)):=if_pos (by rw[c];exact k);rw[a.o];have u:(1048576:Int)<(s.size:Int):=Ϥ;go_enter func10,ntmps10;go_wp2
  go_ret2
  exact⟨rfl,bR⟩
 ·have a:Ϣ (XN s.data.toList=(ahd s.data.toList++w4 (crc (ahd s.data.toList)),0)):=if_neg (by rw[c];exact k);rw[a.o];have u:¬(1048576:Int)<(s.size:Int):=Ϥ;have C:IntKind.u32.wrap (s.size:Int)=(s.size:Int):=MP s.size Ϥ;have i:(ahd s.data.toList).length<=100000000:=by unfold ahd;rw[lAp,Vs,c];omega
  have z:¬9223372036854775807<(w4 s.size).length+s.size:=by rw[Vs];omega
  obtain⟨A,g⟩:=nM (ahd s.data.toList);rw[g]at d i⊢;clear g a;go_enter func10,ntmps10;go_wp2_with fail;refine(f.o s.size _ Ϥ).mono ?_;rintro e w1 ⟨rfl,j⟩;go_upto_region 4 with fail;rw[d.o];go_wp2_with fail;refine(m.o A w1 j i).mono ?_;rintro e w2 ⟨rfl,rfl⟩;have y:=AbD A;have B:¬9223372036854775807<A.length+(w4 (crc A)).length:=by rw[Vs];omega
  go_wp2_with fail;refine(f.o (crc A) _ Ϥ).mono ?_;rintro e D ⟨rfl,q⟩;go_wp2;rw[AcS]
  go_ret2
  exact⟨rfl,bT j q⟩
def bodyL(l:List UInt8):List UInt8:=(l.take (l.length - 4)).drop 4
def U8(l:List UInt8):List UInt8×Int:=
 if l.length<8 then([],1)else if 1048576<(bodyL l).length then([],1)else if l.take 4≠w4 (bodyL l).length then([],1)else
 if l.drop (l.length - 4)≠w4 (crc (l.take (l.length - 4)))then([],11)else(bodyL l,0)
theorem QA(s:ByteArray)(i j:Nat):s.extract i j=⟨((s.data.toList.take j).drop i).toArray⟩:=by
 apply ByteArray.ext;rw[ByteArray.data_extract];apply Array.ext';rw[Array.toList_extract];exact(List.drop_take ..).symm
theorem Aao(s:ByteArray)(w:Ϡ)(h:J6 w)(hm:s.size<=9223372036854775807):
 χ 14 #[.string s] w (ψ w (.tuple #[.string ⟨(U8 s.data.toList).1.toArray⟩,vI (U8 s.data.toList).2])):=by
 have f:s.data.toList.length=s.size:=A2 s;by_cases I:s.size<8
 ·have c:Ϣ (U8 s.data.toList=([],1)):=if_pos (by rw[f];exact I);rw[c.o];have i1:(s.size:Int)<8:=Ϥ;go_enter func14,ntmps14;go_wp2
  go_ret2
  exact⟨rfl,bR⟩
 ·have i1:¬(s.size:Int)<8:=Ϥ;obtain⟨RS,z⟩:=nM (U8 s.data.toList);have G:=hV0 z;rw[z];clear z;go_enter func14,ntmps14;go_upto_region 3 with fail
  go_region
  have i:s.extract 0 (s.size - 4)=⟨(s.data.toList.take (s.size - 4)).toArray⟩:=by rw[QA,List.drop_zero]
  have j:s.extract (s.size - 4) s.size=⟨(s.data.toList.drop (s.size - 4)).toArray⟩:=by rw[QA,take_of_length_le (by rw[f];exact Nat.le_refl _)]
  rw[i,j];obtain⟨a,ha⟩:=nM (⟨(s.data.toList.take (s.size - 4)).toArray⟩:ByteArray);have C:a.data.toList=s.data.toList.take (s.size - 4):=by rw[<-ha]
  have aa:a.size=s.size - 4:=by rw[<-A2,C,length_take,f];omega
  have p:=hV0 C;rw[ha];have i3:(4:Int)<=(a.size:Int):=Ϥ;clear i j ha C;go_upto_region 4 with fail
  go_region
  have i:a.extract 0 4=⟨(s.data.toList.take 4).toArray⟩:=by rw[QA,List.drop_zero,p.o,List.take_take,Nat.min_eq_left Ϥ]
  have j:a.extract 4 (s.size - 4)=⟨(bodyL s.data.toList).toArray⟩:=by
   rw[QA,p.o];unfold bodyL;rw[f,List.take_take,Nat.min_self]
  rw[i,j];have E:(bodyL s.data.toList).length=s.size - 8:=by
   unfold bodyL;rw[length_drop,length_take,f];omega
  have t:Ϣ (a=⟨(s.data.toList.take (s.size - 4)).toArray⟩):=by
   show _=_;rw[<-p.o]
  obtain⟨B,r⟩:=nM (bodyL s.data.toList);obtain⟨P,y⟩:=nM (s.data.toList.take 4);obtain⟨D,u⟩:=nM (s.data.toList.drop (s.size - 4));obtain⟨A,q⟩:=nM (s.data.toList.take (s.size - 4));have J:A.length=s.size - 4:=by rw[<-q,length_take,f];omega
  have d:Ϣ (RS=if 1048576<B.length then([],1)else if P≠w4 B.length then([],1)else if D≠w4 (crc A)then([],11)else(B,0)):=by
   show _=_;rw[<-G.o];unfold U8;rw[if_neg (by rw[f];exact I),f,r,y,u,q]
  rw[r,y,u];rw[q]at t;rw[r]at E;have O:Ϣ (B.length=s.size - 8/\A.length=s.size - 4):=⟨E,J⟩;clear E J;rw[t.o];clear i j p t G r y u q;have H:=hIz (λn (w1:Ϡ) (hn:n<4294967296)=>TH n w1 hn);have Q:=hIz (λ(l:List UInt8) (w1:Ϡ) (U:ϣ w w1) (Z:l.length<=100000000)=>Rr ⟨l.toArray⟩ w1 (FG h U) (by rw[size_mk];exact Z));have K:ϣ w w.drew.drew:=bR.drew.drew;by_cases M:1048576<B.length
  ·have c:Ϣ (RS=([],1)):=by rw[if_pos M]at d;exact d
   have i5:(1048576:Int)<(B.length:Int):=Ϥ;go_wp2
   go_ret2
   exact⟨Vf (by rw[c.o]) (by rw[c.o]),K⟩
  ·rw[if_neg M]at d;have i5:¬(1048576:Int)<(B.length:Int):=Ϥ;have hw:IntKind.u32.wrap (B.length:Int)=(B.length:Int):=MP _ Ϥ;go_wp2_with fail;refine(H.o B.length _ Ϥ).mono ?_;rintro e w1 ⟨rfl,V⟩;have F:ϣ w w1:=K.trans V;by_cases m:P=w4 B.length
   rotate_left
   ·have c:Ϣ (RS=([],1)):=by rw[if_pos m]at d;exact d
    have q2:(P==w4 B.length)=false:=by simpa using m
    go_wp2
    go_ret2
    exact⟨Vf (by rw[c.o]) (by rw[c.o]),F⟩
   ·rw[if_neg (λk=>k m)]at d;have q2:(P==w4 B.length)=true:=by simpa using m
    have Y:=AbD A;have S:A.length<=100000000:=by have:=O.o;omega
    clear m;go_wp2_with fail;refine(Q.o A w1 F S).mono ?_;rintro e w2 ⟨rfl,rfl⟩;go_wp2_with fail;refine(H.o (crc A) _ Y).mono ?_;rintro e w3 ⟨rfl,X⟩;have L:ϣ w w3:=bT F X;by_cases g:D=w4 (crc A)
    ·have c:Ϣ (RS=(B,0)):=by rw[if_neg (λk=>k g)]at d;exact d
     have q3:(D==w4 (crc A))=true:=by simpa using g
     clear g;go_wp2
     go_ret2
     exact⟨Vf (by rw[c.o]) (by rw[c.o]),L⟩
    ·have c:Ϣ (RS=([],11)):=by rw[if_pos g]at d;exact d
     have q3:(D==w4 (crc A))=false:=by simpa using g
     clear g;go_wp2
     go_ret2
     exact⟨Vf (by rw[c.o]) (by rw[c.o]),L⟩
end cd
end Go.Proofs.YtfkihidbnfkbaaaGreatDoor
