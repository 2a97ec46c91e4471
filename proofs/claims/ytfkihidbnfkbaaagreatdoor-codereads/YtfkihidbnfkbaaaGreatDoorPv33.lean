import Derived.Test.YtfkihidbnfkbaaaGreatDoorPv32
set_option linter.all false
set_option maxHeartbeats 4000000
set_option maxRecDepth 100000
open List renaming length->ϲ
namespace Go.Proofs.YtfkihidbnfkbaaaGreatDoor
open ChangeShapes WideShapes ChangeAt RowKit List Proofs.Tryz
namespace cd
open vl bf
variable {N R : Nat} {w w' w1 w2 : ϟ} {s : List UInt8} {vs : List Value} {v : Value} {o : Obj} {row : Option Nat}
structure RR(w:World)(R:Nat)(s:List UInt8):Prop where
 cell:Δ w R 0 (.string ⟨s.toArray⟩)
 frz:Ξ w R 0
 tb:Am w R 124
def Ah(R:Nat)(w w':World):Prop:=Below 0 w w'/\∀g,g<w.heap.size->g≠R->w'.heap[g]? =w.heap[g]?
def Ah.refl(R:Nat)(w:ϟ):Ah R w w:=⟨bR,λ_ _ _=>rfl⟩
def Ah.trans{a b c:ϟ}(h:Ah R a b)(k:Ah R b c):Ah R a c:=⟨h.1.trans k.1,λg e d=>(k.2 g (NE e h.1.size) d).trans (h.2 g e d)⟩
def Ah.of(h:Ϣ w w'):Ah R w w':=⟨h.mono (At _),λg a _=>h.block g a⟩
def Ah.below{n:Nat}(h:Ah R w w')(b:n<=R)(c:n<=w.heap.size):Below n w w':=⟨h.1.os,h.1.tape,h.1.output,h.1.size,λk a=>h.2 k ϣ ϣ⟩
def RR.below(h:RR w R s)(b:Ϣ w w'):RR w' R s:=
 ⟨cLz b h.cell,(aG (w:=w) (a:=⟨R,0,none⟩) (b.block R (A7 h.tb))).trans h.frz,Ak h.tb b⟩
def RR.lt(h:RR w R s):R<w.heap.size:=A7 h.tb
def RR.put{t:List UInt8}(h:RR w R s):RR (ό w R 0 (.string ⟨t.toArray⟩)) R t/\Ah R w (ό w R 0 (.string ⟨t.toArray⟩)):=
 ⟨⟨cI _ _ _ (by rw[h.cell];rfl),by rw[aD];exact h.frz,tyAt_set h.tb _ _⟩,(RK 0 w).setCell (At _) _,λg b a=>CB _ _ _ _ a⟩
def AcZ(R:Nat)(a:Bool)(w:ϟ)(h:a=true):χ 139 #[ω R,.bool a] w λe w'=>e= .returned (.tuple #[])/\w'=w:=by
 subst h;go_enter func139,ntmps139;go_wp2
 go_end0
 exact⟨rfl,rfl⟩
def Yv(a b:List UInt8):(⟨(a++b).toArray⟩:ByteArray).extract 0 (ϲ a)=⟨a.toArray⟩:=by
 apply bN;rw[dU];simp
def Pp(a b:List UInt8):(⟨(a++b).toArray⟩:ByteArray).extract (ϲ a) (ϲ a+ϲ b)=⟨b.toArray⟩:=by
 apply bN;rw[dU];simp
def size_mk(l:List UInt8):(⟨l.toArray⟩:ByteArray).size=ϲ l:=St
theorem U3(R n:Nat)(a b:List UInt8)(w:ϟ)(h:RR w R (a++b))(d:ϲ a=n)(q:ϲ a+ϲ b<=100000000):
 χ 147 #[ω R,vI n] w λe w'=>e= .returned (.string ⟨a.toArray⟩)/\RR w' R b/\Ah R w w':=by
 have j:=hIz (λg (w1:ϟ) (h:g=true)=>AcZ R g w1 h);have i:=hV0 h;have m:=h.cell;have p:=h.frz;obtain⟨s,c⟩:=nM (⟨(a++b).toArray⟩:ByteArray);have r:s.size=n+ϲ b:=by rw[<-c,size_mk,lAp,d]
 have f:=hV0 c;rw[c]at m;clear h c;go_enter func147,ntmps147;go_wp2_with (go_at_call 139;refine(j.o _ _ Ϫ).mono ?_;rintro e w1 ⟨rfl,rfl⟩);have k:s.extract 0 n=⟨a.toArray⟩:=by rw[<-f.o,<-d];exact Yv a b
 have l:s.extract n (n+ϲ b)=⟨b.toArray⟩:=by rw[<-f.o,<-d];exact Pp a b
 rw[k,l];go_ret;exact⟨rfl,i.o.put⟩
def MC(u:Nat):Int:=if u<9223372036854775808 then u else(u:Int) - 18446744073709551616
def Pq(n:Int)(h1: -9223372036854775808<=n)(a:n<=9223372036854775807):MC (u64 n)=n:=by
 unfold MC u64;split<;>omega
def QM(u:Nat)(h:u<18446744073709551616):wrap64 (u:Int)=MC u:=by
 unfold MC wrap64;split<;>omega
def Ps(n:Int):AK (AM n)=u64 n:=Hr _ (by have:=WC n;omega)
theorem U4(R:Nat)(n:Int)(b:List UInt8)(w:ϟ)(h:RR w R (AM n++b))(g: -9223372036854775808<=n/\n<=9223372036854775807)(C:ϲ b<=90000000):
 χ 82 #[ω R] w λe w'=>e= .returned (vI n)/\RR w' R b/\Ah R w w':=by
 have f:ϡ (CT 147 #[ω R,vI 8] w λe w'=>e= .returned (.string ⟨(AM n).toArray⟩)/\RR w' R b/\Ah R w w'):=U3 R 8 (AM n) b w h (As n) (by rw[As];omega);obtain⟨l,a⟩:=nM (AM n);have A:ϲ l=8:=by rw[<-a];exact As n
 have p:ϡ (wrap64 ((AK (l.take 8):Nat):Int)=n):=by
  show _=_;rw[KI ϣ,<-a,Ps,QM _ (by have:=WC n;omega),Pq n g.1 g.2]
 rw[a]at f;obtain⟨s,c⟩:=nM (⟨l.toArray⟩:ByteArray);have H:s.size=8:=by rw[<-c,size_mk,A]
 have m:ϡ (s.data.toList=l):=by show _=_;rw[<-c]
 rw[c]at f;clear h a c g C;go_enter func82,ntmps82;go_wp2_with fail;refine f.o.mono ?_;rintro e w1 ⟨rfl,D,z⟩;go_wp2_with fail
 go_loopw [3,5,10] (λu t i wr=> ∃k:Nat,k<=8/\i=vI k/\u= .int .u64 (AK (l.take k):Nat)/\wr=w1) (λ_ _ i _=>8 - (intOf i).toNat)
 case atStart=>exact⟨0,ϣ,rfl,by simp[AK],rfl⟩
 case round=>
  obtain⟨k,F,rfl,rfl,rfl⟩:=hrel;obtain⟨u,j⟩:∃u,AK (l.take k)=u:=⟨_,rfl⟩;have d:=hV0 j;rw[j];clear j;by_cases G:k<8
  ·have B:k<s.size:=ϣ;have q:ϡ (u<72057594037927936):=by
    show u<72057594037927936;have x:=EN (l.take k);rw[d.o,DA]at x;have E:256 ^ (min k (ϲ l))<=256 ^ 7:=dV ϣ ϣ;omega
   have r:ϡ (AK (l.take (k+1))=u * 256+s[k].toNat):=by
    show AK (l.take (k+1))=_;rw[<-m.o,Dk s k B,Ij,m.o,d.o]
   go_wp2;go_roundw;exact⟨k+1,ϣ,by go_num,by rw[r.o,XE u s[k].toNat q.o s[k].toNat_lt],trivial⟩;simp[intOf];omega
  ·have y:k=8:=ϣ;subst y;rw[d.o]at p;go_wp2;go_ret;exact⟨Ad p.o,D,z⟩
def JG(s b:List UInt8):txt s++b=AM (ϲ s)++(s++b):=by unfold txt;rw[Bx]
structure SB(w:World)(N:Nat)(vs:List Value):Prop where
 cell:∀j v,vs[j]? =some v->Δ w N j v
 frz:∀j,Ξ w N j
 lt:N<w.heap.size
def SB.new(w:ϟ)(vs:List Value)(t:TypeId):SB (w.alloc (.cells vs.toArray t)) w.heap.size vs:=
 ⟨λj v h=>by rw[World.cell?_alloc_new];simpa using h,λj=>by go_simp,ϥ⟩
def SB.same(h:SB w N vs)(b:w'.heap[N]? =w.heap[N]?)(c:w.heap.size<=w'.heap.size):SB w' N vs:=
 ⟨λj v d=>(cOb (w:=w) (a:=⟨N,j,none⟩) b).trans (h.cell j v d),λj=>(aG (w:=w) (a:=⟨N,j,none⟩) b).trans (h.frz j),NE h.lt c⟩
def SB.below(h:SB w N vs)(a:Ϣ w w'):SB w' N vs:=h.same (a.block N h.lt) a.size
def SB.keep(h:SB w N vs)(a:Ah R w w')(b:N≠R):SB w' N vs:=h.same (a.2 N h.lt b) a.1.size
def SB.set(h:SB w N vs)(j:Nat)(v:Value)(b:j<ϲ vs):SB (ό w N j v) N (vs.set j v):=by
 refine⟨λi u a=>?_,λi=>by rw[aD];exact h.frz i,by simpa using h.lt⟩;by_cases e:j=i
 ·subst e;have c:=h.cell j _ (gEe b);rw[cI _ _ _ (by rw[c];rfl)];rw[dW b]at a;exact a
 ·rw[dC e]at a;rw[bJ (h:=λk=>e (by injection k))];exact h.cell i u a
def RR.set{j:Nat}(h:RR w R s)(c:N≠R):RR (ό w N j v) R s:=by
 have b:(w.setCell ⟨N,j,none⟩ v).heap[R]? =w.heap[R]? :=CB _ _ _ _ (λe=>c e.symm);exact⟨(cOb (w:=w) (a:=⟨R,0,none⟩) b).trans h.cell,(aG (w:=w) (a:=⟨R,0,none⟩) b).trans h.frz,A1 h.tb b⟩
def SB.there(h:SB w N vs):w.there N 0 (ϲ vs):=λj a=>by
 rw[Fr];exact⟨by rw[h.cell j _ (gEe a)];rfl,h.frz j⟩
theorem BA{g b:Nat}(h:g≠b):∀(l:List Value) (o:Nat) (w:ϟ),(w.setCells b o l).heap[g]? =w.heap[g]?
 |[],_,_=>rfl
 |v::l,o,w=>(BA h l (o+1) _).trans (CB _ _ _ _ h)
def RR.sets(h:RR w R s)(c:N≠R)(l:List Value)(o:Nat):RR (w.setCells N o l) R s:=by
 have b:(w.setCells N o l).heap[R]? =w.heap[R]? :=BA (λe=>c e.symm) l o w;exact⟨(cOb (w:=w) (a:=⟨R,0,none⟩) b).trans h.cell,(aG (w:=w) (a:=⟨R,0,none⟩) b).trans h.frz,A1 h.tb b⟩
def Dd{W:ϟ}(h:Ah R w W)(c:w.heap.size<=N)(l:List Value)(o:Nat):Ah R w (W.setCells N o l):=
 ⟨jn.below_setCells (At _) l o _ h.1,λg b a=>(BA ϣ l o W).trans (h.2 g b a)⟩
def Ada:(prog.info? 166).map (·.size)=some 5:=Ϧ
structure RP(w:World)(C R:Nat):Prop where
 cell:Δ w C 0 (.pointer (ϋ R))
 ne:C≠R
 lt:C<w.heap.size
def RP.keep{C:Nat}(h:RP w C R)(b:Ah R w w'):RP w' C R:=⟨(cOb (w:=w) (a:=⟨C,0,none⟩) (b.2 C h.lt h.ne)).trans h.cell,h.ne,NE h.lt b.1.size⟩
def OE.keptR{base:Nat}{a:List EM}{l:List Ent}(h:OE w base v a l)(c:Ah R w w')(d:Am w R 124):OE w' base v a l:=
 h.same c.1.size (λg i t b f=>c.2 g (A7 ⟨_,_,b⟩) (λe=>by
  subst e;have:t≠124:=by
   rcases f with⟨_,rfl⟩|rfl
   ·decide
   ·decide
  exact tyAt_apart ⟨_,_,b⟩ d this rfl))
def RR.grown(h:RR w1 R s)(c:(w1.alloc o).grownBy w2 row)(d:row≠some R):RR w2 R s:=by
 have b:w2.heap[R]? =w1.heap[R]? :=Ed (bR.alloc nR o) c h.lt d;exact⟨(cOb (w:=w1) (a:=⟨R,0,none⟩) b).trans h.cell,(aG (w:=w1) (a:=⟨R,0,none⟩) b).trans h.frz,A1 h.tb b⟩
def Cy(h:Ah R w w1)(a:(w1.alloc o).grownBy w2 row)(d:∀g,row=some g->w.heap.size<=g):Ah R w w2:=
 ⟨(((h.1.alloc (At _) o).grown a (At _) (λk f=>At _))),λg b c=>(Ed (bR.alloc nR o) a (NE b h.1.size) (λe=>by have:=d g e;omega)).trans (h.2 g b c)⟩
def ahd(l:List UInt8):List UInt8:=w4 (ϲ l)++l
def Aas(l:List UInt8):List UInt8×Int:=if 1048576<ϲ l then([],2)else(ahd l++w4 (crc (ahd l)),0)
def Adb(a:List UInt8)(s:ByteArray):(⟨a.toArray⟩:ByteArray)++s=⟨(a++s.data.toList).toArray⟩:=by
 apply bN;rw[ByteArray.data_append];simp
def Afl(a b:List UInt8):(⟨a.toArray⟩:ByteArray)++⟨b.toArray⟩=⟨(a++b).toArray⟩:=Adb a ⟨b.toArray⟩
theorem Aat(s:ByteArray)(w:ϟ)(h:LC w):
 χ 10 #[.string s] w (ψ w (.tuple #[.string ⟨(Aas s.data.toList).1.toArray⟩,vI (Aas s.data.toList).2])):=by
 have d:=hIz (λn (w1:ϟ) (r:n<4294967296)=>Uj n w1 r);have k:=hIz (λ(l:List UInt8) (w1:ϟ) (m:Ϣ w w1) (q:ϲ l<=100000000)=>Sm ⟨l.toArray⟩ w1 (FL h m) (by rw[size_mk];exact q));have b:ϲ s.data.toList=s.size:=A2 s;have c:ϡ ((⟨(w4 s.size).toArray⟩:ByteArray)++s=⟨(ahd s.data.toList).toArray⟩):=by
  show _=_;unfold ahd;rw[b];exact Adb _ s
 by_cases j:1048576<s.size
 ·have a:ϡ (Aas s.data.toList=([],2)):=AE (by rw[b];exact j);rw[a.o];have t:(1048576:Int)<(s.size:Int):=ϣ;go_enter func10,ntmps10;go_wp2
  go_ret2
  exact⟨rfl,bR⟩
 ·have a:ϡ (Aas s.data.toList=(ahd s.data.toList++w4 (crc (ahd s.data.toList)),0)):=AC (by rw[b];exact j);rw[a.o];have t:¬(1048576:Int)<(s.size:Int):=ϣ;have z:IntKind.u32.wrap (s.size:Int)=(s.size:Int):=N0 s.size ϣ;have g:ϲ (ahd s.data.toList)<=100000000:=by unfold ahd;rw[lAp,WE,b];omega
  have x:¬9223372036854775807<ϲ (w4 s.size)+s.size:=by rw[WE];omega
  obtain⟨A,f⟩:=nM (ahd s.data.toList);rw[f]at c g⊢;clear f a;go_enter func10,ntmps10;go_wp2_with fail;refine(d.o s.size _ ϣ).mono ?_;rintro e w1 ⟨rfl,i⟩;go_upto_region 4 with fail;rw[c.o];go_wp2_with fail;refine(k.o A w1 i g).mono ?_;rintro e w2 ⟨rfl,rfl⟩;have u:=Ac7 A;have y:¬9223372036854775807<ϲ A+ϲ (w4 (crc A)):=by rw[WE];omega
  go_wp2_with fail;refine(d.o (crc A) _ ϣ).mono ?_;rintro e B ⟨rfl,p⟩;go_wp2;rw[Afl]
  go_ret2
  exact⟨rfl,bT i p⟩
def bodyL(l:List UInt8):List UInt8:=(l.take (ϲ l - 4)).drop 4
def Xf(l:List UInt8):List UInt8×Int:=
 if (ϲ l)<8 then([],1)else if 1048576<ϲ (bodyL l) then([],1)else if l.take 4≠w4 (ϲ (bodyL l)) then([],1)else
 if l.drop (ϲ l - 4)≠w4 (crc (l.take (ϲ l - 4)))then([],11)else(bodyL l,0)
def S6(s:ByteArray)(i j:Nat):s.extract i j=⟨((s.data.toList.take j).drop i).toArray⟩:=by
 apply bN;rw[dU];apply dX;rw[gD];exact(List.drop_take ..).symm
theorem Adc(s:ByteArray)(w:ϟ)(h:LC w)(hm:s.size<=9223372036854775807):
 χ 14 #[.string s] w (ψ w (.tuple #[.string ⟨(Xf s.data.toList).1.toArray⟩,vI (Xf s.data.toList).2])):=by
 have d:ϲ s.data.toList=s.size:=A2 s;by_cases G:s.size<8
 ·have b:ϡ (Xf s.data.toList=([],1)):=AE (by rw[d];exact G);rw[b.o];have X:(s.size:Int)<8:=ϣ;go_enter func14,ntmps14;go_wp2
  go_ret2
  exact⟨rfl,bR⟩
 ·have X:¬(s.size:Int)<8:=ϣ;obtain⟨RS,x⟩:=nM (Xf s.data.toList);have E:=hV0 x;rw[x];clear x;go_enter func14,ntmps14;go_upto_region 3 with fail
  go_region
  have g:s.extract 0 (s.size - 4)=⟨(s.data.toList.take (s.size - 4)).toArray⟩:=by rw[S6,List.drop_zero]
  have i:s.extract (s.size - 4) s.size=⟨(s.data.toList.drop (s.size - 4)).toArray⟩:=by rw[S6,KI (by rw[d];exact HU _)]
  rw[g,i];obtain⟨a,ha⟩:=nM (⟨(s.data.toList.take (s.size - 4)).toArray⟩:ByteArray);have y:a.data.toList=s.data.toList.take (s.size - 4):=by rw[<-ha]
  have aa:a.size=s.size - 4:=by rw[<-A2,y,DA,d];omega
  have m:=hV0 y;rw[ha];have i3:(4:Int)<=(a.size:Int):=ϣ;clear g i ha y;go_upto_region 4 with fail
  go_region
  have g:a.extract 0 4=⟨(s.data.toList.take 4).toArray⟩:=by rw[S6,List.drop_zero,m.o,List.take_take,fC ϣ]
  have i:a.extract 4 (s.size - 4)=⟨(bodyL s.data.toList).toArray⟩:=by
   rw[S6,m.o];unfold bodyL;rw[d,List.take_take,Nat.min_self]
  rw[g,i];have z:ϲ (bodyL s.data.toList)=s.size - 8:=by
   unfold bodyL;rw[RC,DA,d];omega
  have r:ϡ (a=⟨(s.data.toList.take (s.size - 4)).toArray⟩):=by
   show _=_;rw[<-m.o]
  obtain⟨B,q⟩:=nM (bodyL s.data.toList);obtain⟨P,u⟩:=nM (s.data.toList.take 4);obtain⟨D,t⟩:=nM (s.data.toList.drop (s.size - 4));obtain⟨A,p⟩:=nM (s.data.toList.take (s.size - 4));have H:ϲ A=s.size - 4:=by rw[<-p,DA,d];omega
  have c:ϡ (RS=if 1048576<ϲ B then([],1)else if P≠w4 (ϲ B) then([],1)else if D≠w4 (crc A)then([],11)else(B,0)):=by
   show _=_;rw[<-E.o];unfold Xf;rw[AC (by rw[d];exact G),d,q,u,t,p]
  rw[q,u,t];rw[p]at r;rw[q]at z;have L:ϡ (ϲ B=s.size - 8/\(ϲ A)=s.size - 4):=⟨z,H⟩;clear z H;rw[r.o];clear g i m r E q u t p;have F:=hIz (λn (w1:ϟ) (W:n<4294967296)=>Uj n w1 W);have M:=hIz (λ(l:List UInt8) (w1:ϟ) (Q:Ϣ w w1) (V:ϲ l<=100000000)=>Sm ⟨l.toArray⟩ w1 (FL h Q) (by rw[size_mk];exact V));have I:Ϣ w w.drew.drew:=bR.drew.drew;by_cases K:1048576<ϲ B
  ·have b:ϡ (RS=([],1)):=by rw[AE K]at c;exact c
   have Y:(1048576:Int)<(ϲ B:Int):=ϣ;go_wp2
   go_ret2
   exact⟨VD (by rw[b.o]) (by rw[b.o]),I⟩
  ·rw[AC K]at c;have Y:¬(1048576:Int)<(ϲ B:Int):=ϣ;have hw:IntKind.u32.wrap (ϲ B:Int)=(ϲ B:Int):=N0 _ ϣ;go_wp2_with fail;refine(F.o (ϲ B) _ ϣ).mono ?_;rintro e w1 ⟨rfl,S⟩;have C:Ϣ w w1:=I.trans S;by_cases j:P=w4 (ϲ B)
   rotate_left
   ·have b:ϡ (RS=([],1)):=by rw[AE j]at c;exact c
    have Z:(P==w4 (ϲ B))=false:=by simpa using j
    go_wp2
    go_ret2
    exact⟨VD (by rw[b.o]) (by rw[b.o]),C⟩
   ·rw[AC (λk=>k j)]at c;have Z:(P==w4 (ϲ B))=true:=by simpa using j
    have U:=Ac7 A;have O:ϲ A<=100000000:=by have:=L.o;omega
    clear j;go_wp2_with fail;refine(M.o A w1 C O).mono ?_;rintro e w2 ⟨rfl,rfl⟩;go_wp2_with fail;refine(F.o (crc A) _ U).mono ?_;rintro e w3 ⟨rfl,T⟩;have J:Ϣ w w3:=bT C T;by_cases f:D=w4 (crc A)
    ·have b:ϡ (RS=(B,0)):=by rw[AC (λk=>k f)]at c;exact c
     have q3:(D==w4 (crc A))=true:=by simpa using f
     clear f;go_wp2
     go_ret2
     exact⟨VD (by rw[b.o]) (by rw[b.o]),J⟩
    ·have b:ϡ (RS=([],11)):=by rw[AE f]at c;exact c
     have q3:(D==w4 (crc A))=false:=by simpa using f
     clear f;go_wp2
     go_ret2
     exact⟨VD (by rw[b.o]) (by rw[b.o]),J⟩
end cd
def Ib{w:ϟ}{N:Nat}{a b d e c4 f g i j k c:Value}(h:cd.SB w N [a,b,d,e,c4,f,g,i,j,k,c]):Δ w N 0 a/\Δ w N 1 b/\Δ w N 2 d/\Δ w N 3 e/\Δ w N 4 c4/\Δ w N 5 f/\Δ w N 6 g/\Δ w N 7 i/\Δ w N 8 j/\Δ w N 9 k/\Δ w N 10 c:=⟨h.cell 0 _ rfl,h.cell 1 _ rfl,h.cell 2 _ rfl,h.cell 3 _ rfl,h.cell 4 _ rfl,h.cell 5 _ rfl,h.cell 6 _ rfl,h.cell 7 _ rfl,h.cell 8 _ rfl,h.cell 9 _ rfl,h.cell 10 _ rfl⟩
namespace cd
open vl bf
variable {s : List UInt8} {n : Int} {w w' : ϟ} {R : Nat}
def Pre{α:Type}(f:α->List UInt8)(ok:α->Prop):Prop:=∀x y t u,ok x->ok y->f x++t=f y++u->x=y/\t=u
def Bad{α:Type}(f:α->List UInt8)(ok:α->Prop)(s:List UInt8):Prop:=∀x t,ok x->s≠f x++t
def cat{α β:Type}(f:α->List UInt8)(g:β->List UInt8):α×β->List UInt8:=λp=>f p.1++g p.2
def okP{α β:Type}(a:α->Prop)(b:β->Prop):α×β->Prop:=λp=>a p.1/\b p.2
theorem Pre.cat{α β:Type}{f:α->List UInt8}{g:β->List UInt8}{a:α->Prop}{b:β->Prop}(j:Pre f a)(l:Pre g b):Pre (cat f g) (okP a b):=by
 rintro ⟨x,y⟩ ⟨p,q⟩ t u ⟨c,d⟩ ⟨e,i⟩ h;simp only[cd.cat,Bx]at h;obtain⟨rfl,k⟩:=j _ _ _ _ c e h;obtain⟨rfl,m⟩:=l _ _ _ _ d i k;exact⟨rfl,m⟩
def Bad.fst{α β:Type}{f:α->List UInt8}{g:β->List UInt8}{a:α->Prop}{b:β->Prop}(h:Bad f a s):Bad (cat f g) (okP a b) s:=by
 rintro ⟨x,y⟩ t ⟨c,_⟩ e;exact h x (g y++t) c (e.trans (Bx ..))
def Bad.snd{α β:Type}{f:α->List UInt8}{g:β->List UInt8}{a:α->Prop}{b:β->Prop}{x:α}(i:Pre f a)(j:a x)(h:Bad g b s):Bad (cat f g) (okP a b) (f x++s):=by
 rintro ⟨k,y⟩ t ⟨c,d⟩ e;simp only[cd.cat,Bx]at e;exact h y t d (i _ _ _ _ j c e).2
def lst{α:Type}(f:α->List UInt8):List α->List UInt8:=λl=>AM (ϲ l)++l.flatMap f
def okL{α:Type}(ok:α->Prop):List α->Prop:=λl=>ϲ l<=ύ/\∀x∈l,ok x
def okN(n:Int):Prop:= -9223372036854775808<=n/\n<=9223372036854775807
def Bn:Pre AM okN:=by
 intro x y t u a hy h;obtain⟨b,c⟩:=append_inj h (by rw[As,As]);refine⟨?_,c⟩;have e:=Bk AK b;rw[Ps,Ps]at e;rw[<-Pq x a.1 a.2,<-Pq y hy.1 hy.2,e]
theorem Pre.all{α:Type}{f:α->List UInt8}{ok:α->Prop}(b:Pre f ok):∀(l m:List α) (t u:List UInt8),(∀x∈l,ok x)->(∀x∈m,ok x)->ϲ l=ϲ m->l.flatMap f++t=m.flatMap f++u->l=m/\t=u
 |[],[],t,u,_,_,_,h=>⟨rfl,by simpa using h⟩
 |x::l,y::m,t,u,hl,hm,hlen,h=>by
  simp only[aH,Bx]at h;obtain⟨rfl,k⟩:=b _ _ _ _ (hl x (E0 ..)) (hm y (E0 ..)) h;obtain⟨rfl,c⟩:=Pre.all b l m t u (λz a=>hl z (EQ _ a)) (λz a=>hm z (EQ _ a)) (by simpa using hlen) k;exact⟨rfl,c⟩
 |[],y::m,_,_,_,_,h,_=>by simp at h
 |x::l,[],_,_,_,_,h,_=>by simp at h
theorem Pre.lst{α:Type}{f:α->List UInt8}{ok:α->Prop}(c:Pre f ok):Pre (lst f) (okL ok):=by
 intro l m t u a b h;simp only[cd.lst,Bx]at h;obtain⟨e,k⟩:=Bn _ _ _ _ ⟨ϣ,by have:=a.1;omega⟩ ⟨ϣ,by have:=b.1;omega⟩ h;exact c.all l m t u a.2 b.2 ϣ k
def Bad.len{α:Type}{f:α->List UInt8}{ok:α->Prop}(h:Bad AM okN s):Bad (lst f) (okL ok) s:=by
 intro l t a e;exact h (ϲ l) (l.flatMap f++t) ⟨ϣ,by have:=a.1;omega⟩ (e.trans (Bx ..))
def Bad.neg{α:Type}{f:α->List UInt8}{ok:α->Prop}(b:okN n)(h:n<0):Bad (lst f) (okL ok) (AM n++s):=by
 intro l t a e;simp only[lst,Bx]at e;have:=(Bn _ _ _ _ b ⟨ϣ,by have:=a.1;omega⟩ e).1;omega
def Bad.elem{α:Type}{f:α->List UInt8}{ok:α->Prop}(i:Pre f ok){l:List α}(j:∀x∈l,ok x){n:Nat}(r:n<=9223372036854775807)(q:ϲ l<n)(h:Bad f ok s):Bad (lst f) (okL ok) (AM n++(l.flatMap f++s)):=by
 intro m t a e;simp only[lst,Bx]at e;obtain⟨p,b⟩:=Bn _ _ _ _ ⟨ϣ,ϣ⟩ ⟨ϣ,by have:=a.1;omega⟩ e;have d:m.take (ϲ l)++m.drop (ϲ l)=m:=PP ..;have c:ϲ l<ϲ m:=ϣ;rw[<-d,SN,Bx,cM c,aH,Bx]at b;obtain⟨_,g⟩:=i.all l (m.take (ϲ l)) _ _ j (λx k=>a.2 x (cJ k)) Ϩ b;exact h _ _ (a.2 _ (GE c)) g
def Bad.short(h:ϲ s<8):Bad AM okN s:=by
 intro n t _ e;have:=Bk List.length e;rw[lAp,As]at this;omega
def Ade(u:Nat)(h:u<18446744073709551616):u64 (MC u)=u:=by
 unfold u64 MC;split<;>omega
def Adf(h:8<=ϲ s):okN (MC (AK (s.take 8)))/\s=AM (MC (AK (s.take 8)))++s.drop 8:=by
 have a:ϲ (s.take 8)=8:=by rw[DA];omega
 have b:=Hs _ a;refine⟨?_,?_⟩
 ·unfold okN MC;split<;>omega
 ·unfold AM;rw[Ade _ b,Qn _ a,PP]
def okT(s:List UInt8):Prop:=ϲ s<=ύ
def Hc:Pre txt okT:=by
 intro x y t u a hy h;rw[JG,JG]at h;obtain⟨e,k⟩:=Bn _ _ _ _ ⟨ϣ,by unfold okT at a;omega⟩ ⟨ϣ,by unfold okT at hy;omega⟩ h;exact append_inj k ϣ
def Bad.txtN(h:Bad AM okN s):Bad txt okT s:=by
 intro x t a e;rw[JG]at e;exact h _ _ ⟨ϣ,by unfold okT at a;omega⟩ e
def Bad.txtL(b:okN n)(h:¬(0<=n/\n<=ϲ s)):Bad txt okT (AM n++s):=by
 intro x t c e;rw[JG]at e;obtain⟨d,a⟩:=Bn _ _ _ _ b ⟨ϣ,by unfold okT at c;omega⟩ e;have:=Bk List.length a;rw[lAp]at this;omega
def D4:Pre Ck rowOk:=by
 intro x y t u d hy h;have a:∀r,rowOk r->okT (encR r):=λr b=>by
  have:=DU r (λc f=>(b.2 c f).1);have:=b.1;unfold okT;omega
 obtain⟨e,k⟩:=Hc _ _ _ _ (a x d) (a y hy) h;exact⟨UH d.2 hy.2 e,k⟩
def Bad.rowT(h:Bad txt okT s):Bad Ck rowOk s:=by
 intro x t a e;refine h _ t ?_ e;have:=DU x (λc b=>(a.2 c b).1);have:=a.1;unfold okT;omega
def Bad.rowK{k:List UInt8}(f:okT k)(h:IW k):Bad Ck rowOk (txt k++s):=by
 intro x t a e;have b:okT (encR x):=by
  have:=DU x (λc d=>(a.2 c d).1);have:=a.1;unfold okT;omega
 exact h x a (Hc _ _ _ _ f b e).1.symm
def Adg:Pre Hm (λ_=>True):=by
 intro x y t u _ _ h;obtain⟨e,k⟩:=Bn _ _ _ _ (by unfold okN;split<;>omega) (by unfold okN;split<;>omega) h;refine⟨?_,k⟩
 cases x<;>cases y<;>simp at e⊢
def Bad.flagN(h:Bad AM okN s):Bad Hm (λ_=>True) s:=by
 intro x t _ e;exact h _ t (by unfold okN;split<;>omega) e
def Bad.flagO(a:okN n)(h:¬(n=0\/n=1)):Bad Hm (λ_=>True) (AM n++s):=by
 intro x t _ e;have:=(Bn _ _ _ _ a (by unfold okN;split<;>omega) e).1
 cases x<;>simp at this<;>omega
def Pre.via{α β:Type}{f:α->List UInt8}{ok:α->Prop}{g:β->List UInt8}{a:β->Prop}(h:Pre f ok)(m:β->α)(k:∀x y,a x->a y->m x=m y->x=y)(b:∀x,g x=f (m x))(c:∀x,a x->ok (m x)):Pre g a:=by
 intro x y t u d hy e;rw[b,b]at e;obtain⟨i,j⟩:=h _ _ _ _ (c x d) (c y hy) e;exact⟨k _ _ d hy i,j⟩
def Bad.via{α β:Type}{f:α->List UInt8}{ok:α->Prop}{g:β->List UInt8}{a:β->Prop}(h:Bad f ok s)(m:β->α)(b:∀x,g x=f (m x))(c:∀x,a x->ok (m x)):Bad g a s:=by
 intro x t d e;rw[b]at e;exact h _ t (c x d) e
def hy{p:Prop}(h:p):ϡ p:=h
structure RQ(w:World)(R:Nat)(s:List UInt8):Prop where
 rr:RR w R s
 err:∃T a,Δ w 1 0 (.iface T a)
 ne:R≠1
def RQ.go{t:List UInt8}(h:RQ w R s)(b:Ah R w w')(c:RR w' R t):RQ w' R t:=by
 obtain⟨T,a,ha⟩:=h.err;exact⟨c,⟨T,a,(cOb (w:=w) (a:=⟨1,0,none⟩) (b.2 1 (bLt _ _ ha) (λe=>h.ne e.symm))).trans ha⟩,h.ne⟩
def RQ.below(h:RQ w R s)(b:Ϣ w w'):RQ w' R s:=by
 obtain⟨T,a,ha⟩:=h.err;exact⟨h.rr.below b,⟨T,a,cLz b ha⟩,h.ne⟩
def PAN(e:Ending):Prop:=∃p:TypeId×Value,e= .panicked [{v:=.iface p.1 p.2,recovered:=false}]
def VN(n:Int)(v:Value)(_:World):Prop:=v=vI n
def VT(x:List UInt8)(v:Value)(_:World):Prop:=v= .string ⟨x.toArray⟩
def VB(b:Bool)(v:Value)(_:World):Prop:=v= .bool b
def VR(base:Nat)(r:List Cel)(v:Value)(w:World):Prop:=∃ad cap,v=vS ad (ϲ r) cap/\AF w base v r
def Rd{α:Type}(f:α->List UInt8)(ok:α->Prop)(V:α->Value->World->Prop)(R:Nat)(s:List UInt8)(w:World)(e:Ending)(w':World):Prop:=
 Ah R w w'/\((∃x t v,ok x/\s=f x++t/\e= .returned v/\V x v w'/\RR w' R t)\/(Bad f ok s/\PAN e))
def Ey(R:Nat)(b:Bool)(w:ϟ)(h:∃T a,Δ w 1 0 (.iface T a)):
 χ 139 #[ω R,.bool b] w λe w'=>w'=w/\(b=true->e= .returned (.tuple #[]))/\(b=false->PAN e):=by
 obtain⟨T,a,ha⟩:=h
 cases b
 ·go_enter func139,ntmps139;go_wp2;exact⟨rfl,rfl,(λh=>by cases h),λ_=>⟨(T,a),rfl⟩⟩
 ·go_enter func139,ntmps139;go_wp2
  go_end0
  exact⟨rfl,λ_=>rfl,λh=>by cases h⟩
theorem U5(R:Nat)(n:Int)(s:List UInt8)(w:ϟ)(h:RQ w R s)(t:ϲ s<=10000000):
 χ 147 #[ω R,vI n] w λe w'=>Ah R w w'/\((∃a b,s=a++b/\(ϲ a:Int)=n/\e= .returned (.string ⟨a.toArray⟩)/\RR w' R b)\/(¬(0<=n/\n<=ϲ s)/\PAN e)):=by
 have p:ϡ (∀i,i=false->CT 139 #[ω R,.bool i] w λe w'=>w'=w/\PAN e):=λi d=>(Ey R i w h.err).mono λ_ _ k=>⟨k.1,k.2.2 d⟩;by_cases f:0<=n/\n<=ϲ s
 ·obtain⟨m,rfl⟩:∃m:Nat,n=m:=⟨n.toNat,ϣ⟩;have c:ϲ (s.take m)=m:=by rw[DA];omega
  have e:s.take m++s.drop m=s:=PP ..;have d:=h.rr;rw[<-e]at d;exact(U3 R m _ _ w d c (by rw[c,RC];omega)).mono λ_ _ k=>⟨k.2.2,.inl ⟨_,_,e.symm,by rw[c],k.1,k.2.1⟩⟩
 have r:=h.rr.cell;have g:(⟨s.toArray⟩:ByteArray).size=ϲ s:=size_mk s;obtain⟨z,q⟩:=nM (⟨s.toArray⟩:ByteArray);obtain⟨l,c⟩:∃l,ϲ s=l:=⟨_,rfl⟩;rw[q]at r g;rw[c]at g f t⊢;have j:=hV0 f;clear h q c;by_cases u:0<=n
 ·have d:¬(n<=(l:Int)):=ϣ;clear f;go_enter func147,ntmps147;go_wp2_with (go_at_call 139;refine(p.o _ (by simp[g]<;>omega)).mono ?_;rintro e w1 ⟨rfl,v,rfl⟩);exact⟨rfl,Ah.refl _ _,.inr ⟨j.o,_,rfl⟩⟩
 ·clear f;go_enter func147,ntmps147;go_wp2_with (go_at_call 139;refine(p.o _ (by simp[g]<;>omega)).mono ?_;rintro e w1 ⟨rfl,v,rfl⟩);exact⟨rfl,Ah.refl _ _,.inr ⟨j.o,_,rfl⟩⟩
theorem Dq(R:Nat)(s:List UInt8)(w:ϟ)(h:RQ w R s)(i:ϲ s<=10000000):
 χ 82 #[ω R] w (Rd AM okN VN R s w):=by
 by_cases c:8<=ϲ s
 ·obtain⟨d,f⟩:=Adf c;have g:=h.rr;rw[f]at g;exact(U4 R _ _ w g d (by rw[RC];omega)).mono λ_ _ k=>⟨k.2.2,.inl ⟨_,_,_,d,f,k.1,rfl,k.2.1⟩⟩
 have j:ϡ (Bad AM okN s):=Bad.short ϣ;have l:ϡ (CT 147 #[ω R,vI 8] w λe w'=>Ah R w w'/\PAN e):=(U5 R 8 s w h i).mono λ_ _ k=>⟨k.1,by
  rcases k.2 with⟨a,b,rfl,e,_⟩|k
  ·rw[lAp]at c;omega
  ·exact k.2⟩
 clear h i c;go_enter func82,ntmps82;go_wp2_with fail;refine l.o.mono ?_;rintro e w1 ⟨m,v,rfl⟩;exact⟨rfl,m,.inr ⟨j.o,_,rfl⟩⟩
theorem QN(R:Nat)(s:List UInt8)(w:ϟ)(h:RQ w R s)(g:ϲ s<=10000000):
 χ 146 #[ω R] w (Rd txt okT VT R s w):=by
 have j:=hy (Dq R s w h g);have k:=hIz (λn t (w1:ϟ) (e:s=AM n++t) (m:Ah R w w1) (r:RR w1 R t)=>U5 R n t w1 (h.go m r) (by subst e;rw[lAp]at g;omega));clear h;go_enter func146,ntmps146;go_wp2_with fail;refine j.o.mono ?_;rintro e w1 ⟨c,⟨n,t,v,i,rfl,rfl,rfl,u⟩|⟨l,v,rfl⟩⟩
 rotate_left
 ·exact⟨rfl,c,.inr ⟨l.txtN,_,rfl⟩⟩
 have d:ϡ (okN n):=i;clear i;go_wp2_with fail;refine(k.o n t w1 rfl c u).mono ?_;rintro e w2 ⟨f,⟨a,b,rfl,p,rfl,x⟩|⟨q,v,rfl⟩⟩
 rotate_left
 ·exact⟨rfl,c.trans f,.inr ⟨Bad.txtL d.o q,_,rfl⟩⟩
 go_wp2;go_ret;exact⟨c.trans f,.inl ⟨a,b,_,by have:=d.o.2;unfold okT;omega,by rw[JG,p],rfl,rfl,x⟩⟩
theorem LN(R:Nat)(s:List UInt8)(w:ϟ)(h:RQ w R s)(i:ϲ s<=10000000):
 χ 81 #[ω R] w (Rd Ck rowOk (VR w.heap.size) R s w):=by
 have A:=hy (QN R s w h i);have z:ϡ (∀k:List UInt8,ϲ k<=10000000->∀w1,CT 145 #[.string ⟨k.toArray⟩] w1 λe w'=>Yw ⟨k.toArray⟩ w1.heap.size e w'/\Ϣ w1 w'):=λk m w1=>Pw ⟨k.toArray⟩ w1 (by rw[size_mk];unfold maxLen;omega);have l:=hIz (λH (w1:ϟ) t (m:Ah R w w1) (d:RR w1 R t)=>Ey R H w1 (h.go m d).err);clear h;go_enter func81,ntmps81;go_wp2_with fail;refine A.o.mono ?_;rintro e w1 ⟨c,⟨x,t,v,p,rfl,rfl,rfl,q⟩|⟨D,v,rfl⟩⟩
 rotate_left
 ·exact⟨rfl,c,.inr ⟨D.rowT,_,rfl⟩⟩
 have G:ϲ x<=10000000:=by rw[lAp,JA]at i;omega
 have y:ϡ (okT x):=p;clear p i;go_wp2_with fail;refine(z.o x G w1).mono ?_;rintro e w2 ⟨⟨r,B,C,rfl,d,u,F⟩|⟨rfl,E⟩,b⟩
 ·have a:=c.trans (Ah.of b);have f:=q.below b;have j:ϡ (rowOk r/\encR r=x):=⟨d,u⟩;clear u d;go_wp2_with (go_at_call 139;refine(l.o _ _ _ a f).mono ?_;rintro e I ⟨rfl,g,_⟩;obtain rfl:=g ϥ);go_ret;exact⟨a,.inl ⟨r,t,_,j.o.1,by unfold Ck;rw[j.o.2],rfl,⟨B,C,rfl,World.ownsRow.mono F c.1.size⟩,f⟩⟩
 ·have a:=c.trans (Ah.of b);have f:=q.below b;go_wp2_with (go_at_call 139;refine(l.o _ _ _ a f).mono ?_;rintro e I ⟨rfl,_,g⟩;obtain⟨v,rfl⟩:=g ϥ);exact⟨rfl,a,.inr ⟨Bad.rowK y.o E,_,rfl⟩⟩
theorem Aau(R:Nat)(s:List UInt8)(w:ϟ)(h:RQ w R s)(i:ϲ s<=10000000):
 χ 247 #[ω R] w (Rd Hm (λ_=>True) VB R s w):=by
 have m:=hy (Dq R s w h i);have d:=hIz (λx (w1:ϟ) t (r:Ah R w w1) (u:RR w1 R t)=>Ey R x w1 (h.go r u).err);clear h i;go_enter func247,ntmps247;go_wp2_with fail;refine m.o.mono ?_;rintro e w1 ⟨a,⟨n,t,v,j,rfl,rfl,rfl,c⟩|⟨q,v,rfl⟩⟩
 rotate_left
 ·exact⟨rfl,a,.inr ⟨q.flagN,_,rfl⟩⟩
 have l:ϡ (okN n):=j;clear j;by_cases f:n=0
 ·subst f;go_wp2_with (go_at_call 139;refine(d.o _ _ _ a c).mono ?_;rintro e k ⟨rfl,b,_⟩;obtain rfl:=b ϥ);go_ret;exact⟨a,.inl ⟨false,t,_,trivial,rfl,rfl,by simp[VB],c⟩⟩
 by_cases g:n=1
 ·subst g;clear f;go_wp2_with (go_at_call 139;refine(d.o _ _ _ a c).mono ?_;rintro e k ⟨rfl,b,_⟩;obtain rfl:=b ϥ);go_ret;exact⟨a,.inl ⟨true,t,_,trivial,rfl,rfl,by simp[VB],c⟩⟩
 have y:(n==0)=false:=by simpa using f
 have p:(n==1)=false:=by simpa using g
 go_wp2_with (go_at_call 139;refine(d.o _ _ _ a c).mono ?_;rintro e k ⟨rfl,_,b⟩;obtain⟨v,rfl⟩:=b (by simp[p]));exact⟨rfl,a,.inr ⟨Bad.flagO l.o ϣ,_,rfl⟩⟩
end cd
