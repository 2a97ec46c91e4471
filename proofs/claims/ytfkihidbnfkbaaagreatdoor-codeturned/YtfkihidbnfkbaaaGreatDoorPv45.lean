import Derived.Test.YtfkihidbnfkbaaaGreatDoorPv43
set_option linter.all false
set_option maxHeartbeats 8000000
set_option maxRecDepth 100000
open Go.ChangeShapes Go.WideShapes Go.ChangeAt Go.RowKit List
namespace Go.Proofs.YtfkihidbnfkbaaaGreatDoor
open Go.Proofs.Tryz
namespace cd
open vl bf jn
attribute [local go_sem] Oper.semAt_some
variable {n : Nat}
theorem L0{c:Int}(b:0<n)(a:0<=c):0<=c.tmod n/\c.tmod n<n:=
 ⟨Int.tmod_nonneg _ a,Int.tmod_lt_of_pos c Ϝ⟩
theorem Rc(c:Int)(n:Nat)(w:Ϙ)(l: -9223372036854775808<=c)(o:c<=9223372036854775807)(g:0<n)(p:n<=9223372036854775807):
 η 21 #[vI c,vI n] w λe j=>(∃k:Nat,k<n/\e= .returned (vI k))/\j=w:=by
 obtain⟨m,a⟩:∃m:Int,(n:Int)=m:=⟨_,rfl⟩;have s:(m==0)=false:=by rw[beq_eq_false_iff_ne];omega
 have t:m≠0:=Ϝ;rw[a];by_cases h:c<0
 ·have q:IntKind.i64.wrap (c+1)=c+1:=by rw[ch.Bt];omega
  have r:IntKind.i64.wrap (-(c+1))= -(c+1):=by rw[ch.Bt];omega
  have b:=L0 (c:= -(c+1)) g Ϝ;rw[a]at b;have i:IntKind.i64.wrap ((-(c+1)).tmod m)=(-(c+1)).tmod m:=by rw[ch.Bt];omega
  have d:=hqz b;have f:=hqz a;clear b a;go_enter func21,ntmps21;go_wp2;go_ret;exact⟨⟨((-(c+1)).tmod m).toNat,by have:=d.o;have:=f.o;omega,Am (by rw[Int.toNat_of_nonneg d.o.1,Int.neg_tmod])⟩,rfl⟩
 ·have b:=L0 (c:=c) g Ϝ;rw[a]at b;have i:IntKind.i64.wrap (c.tmod m)=c.tmod m:=by rw[ch.Bt];omega
  have d:=hqz b;have f:=hqz a;clear b a;go_enter func21,ntmps21;go_wp2;go_ret;exact⟨⟨(c.tmod m).toNat,by have:=d.o;have:=f.o;omega,Am (by rw[Int.toNat_of_nonneg d.o.1,Int.tmod_eq_emod_of_nonneg Ϝ])⟩,rfl⟩
theorem VX(x:Nat)(a:x<256):(BitVec.ofInt 8 (x:Int)).toNat=x:=by
 show((x:Int) % 256).toNat=x;rw[Int.emod_eq_of_lt Ϝ Ϝ];rfl
theorem Y1{a b:Nat}(ha:a<256)(c:b<256):bits BinOp.xor IntKind.u8 (a:Int) (b:Int)=((a ^^^ b:Nat):Int):=by
 have d:a ^^^ b<256:=Nat.xor_lt_two_pow (n:=8) ha c;unfold bits;simp only[];rw[BitVec.toNat_xor,show(BitVec.ofInt IntKind.u8.bits (a:Int)).toNat=a from VX a ha,show(BitVec.ofInt IntKind.u8.bits (b:Int)).toNat=b from VX b c];simp[IntKind.wrap,IntKind.signed,IntKind.bits];omega
theorem byte_of(k:Nat)(a:k<255):∃z:UInt8,IntKind.u8.wrap ((k:Int)+1)=(z.toNat:Int)/\z≠0:=by
 have e:(UInt8.ofNat (k+1)).toNat=k+1:=by rw[UInt8.toNat_ofNat'];omega
 refine⟨UInt8.ofNat (k+1),?_,λh=>?_⟩
 ·rw[e];simp[IntKind.wrap,IntKind.signed,IntKind.bits];omega
 ·rw[h]at e
  cases e
theorem Po(w:Ϙ)(e:TypeId)(s:ByteArray):ϛ w (Lib.bytesWorld w e s):=
 ⟨rfl,rfl,rfl,by rw[Lib.bytesWorld_size];omega,λk a=>Lib.bytesWorld_at_old w e s k a⟩
theorem TO(w:Ϙ)(e:TypeId)(s:ByteArray)(j:Nat)(a:j<s.size):Ξ (Lib.bytesWorld w e s) w j:=by
 have h:s.size<=(Lib.bytesCells w e s).size:=by
  unfold Lib.bytesCells;rw[Array.size_append,Array.size_map];exact Nat.le_add_right ..
 simp only[World.frozen?,Lib.bytesWorld_at_new];simp;omega
theorem Nm{W:Ϙ}{B i:Nat}{f:List UInt8}{y:UInt8}(c:f.length=n)(d:i<n)(b:∀j,j<n->Δ W B j (.int .u8 ((f.getD j 0).toNat:Int))):
 ∀j (a:j<(f.set i y).length),(W.setCell ⟨B,i,none⟩ (.int .u8 (y.toNat:Int))).cell? ((⟨B,0,none⟩:Addr).add j)=some (.int .u8 ((f.set i y)[j].toNat:Int)):=by
 intro j a;rw[length_set,c]at a;rw[show(⟨B,0,none⟩:Addr).add j=⟨B,j,none⟩from by
  unfold Addr.add;by_cases e:j=0
  ·subst e;rfl
  ·simp[e]]
 by_cases e:i=j
 ·subst e;rw[World.cell?_setCell_same _ _ _ (b i a),List.getElem_set_self]
 ·rw[World.cell?_setCell_other _ _ _ _ (by intro h;simp only[Addr.mk.injEq]at h;omega),b j a,List.getElem_set_ne e,gDe,gEe Ϝ];rfl
theorem VY(a b:UInt8):bits BinOp.xor IntKind.u8 (a.toNat:Int) (b.toNat:Int)=((a ^^^ b).toNat:Int):=by
 rw[UInt8.toNat_xor];have ha:=a.toNat_lt;have c:=b.toNat_lt;exact Y1 ha c
theorem Nn{a b:UInt8}(h:b≠0):a ^^^ b≠a:=by
 intro e;have c:=congrArg (λz=>a ^^^ z) e;simp only[<-UInt8.xor_assoc,UInt8.xor_self,UInt8.zero_xor]at c;exact h c
theorem ZA(s:ByteArray)(a b:Int)(w:Ϙ)(h:GC w)(a1: -9223372036854775808<=a)(a2:a<=9223372036854775807)(b1: -9223372036854775808<=b)(b2:b<=9223372036854775807):
 η 8 #[.string s,vI a,vI b] w (θ w (.bool true)):=by
 have T:=hIz (λ(l:Ϙ) (A:ϛ w l)=>Kd l (nibAt_below h A));have Q:s.data.toList.length=s.size:=AE s;by_cases hm:1048576<s.size
 ·have i1:(1048576:Int)<(s.size:Int):=Ϝ;have J:Ϛ (CT 10 #[.string s] w (θ w (.tuple #[.string ⟨([]:List UInt8).toArray⟩,vI 2]))):=by
   have:=Hv s w h;rw[show Hz s.data.toList=([],2)from if_pos (by rw[Q];exact hm)]at this;exact this
  clear h Q;go_enter func8,ntmps8;go_wp2_with fail;refine J.o.mono ?_;rintro e l ⟨rfl,C⟩;go_wp2_with fail;refine(T.o _ C).mono ?_;rintro e w2 ⟨rfl,aa⟩;go_wp2;go_ret;exact⟨rfl,bT C aa⟩
 ·obtain⟨f,q⟩:=nM (ahd s.data.toList++w4 (crc (ahd s.data.toList)));have O:s.data.toList.length<=1048576:=Ϝ;have am:f.length=s.size+8:=by rw[<-q,lAp,O4,Ep,Q]
  have J:Ϛ (CT 10 #[.string s] w (θ w (.tuple #[.string ⟨f.toArray⟩,ω]))):=by
   have:=Hv s w h;rw[Aa1 O,q]at this;exact this
  have ah:(⟨f.toArray⟩:ByteArray).size=f.length:=size_toArray;have KO:Ϛ (∀l,ϛ w l->CT 14 #[.string ⟨f.toArray⟩] l (θ l (.tuple #[.string s,ω]))):=λl A=>by
   have:=J7 ⟨f.toArray⟩ l (nibAt_below h A) (by rw[ah];omega);rw[show(⟨f.toArray⟩:ByteArray).data.toList=f from rfl,<-q,YZ O]at this;rw[<-q];exact this
  have KT:Ϛ (∀(i:Nat) (y:UInt8) l,ϛ w l->i<f.length->f[i]? ≠some y->CT 14 #[.string ⟨(f.set i y).toArray⟩] l λe w'=>(∃B E,e= .returned (.tuple #[.string B,vI E])/\E≠0)/\ϛ l w'):=λi y l A r H=>by
   have I:(⟨(f.set i y).toArray⟩:ByteArray).size=f.length:=size_toArray.trans (length_set ..);refine(J7 ⟨(f.set i y).toArray⟩ l (nibAt_below h A) (by rw[I];omega)).mono ?_;rintro e w' ⟨rfl,ap⟩;refine⟨⟨_,_,rfl,λG=>H ?_⟩,ap⟩;rw[<-q];refine Xb O Ϝ ?_;rw[q];exact G
  have U:=hIz (λ(c:Int) (n:Nat) (l:Ϙ) (h1: -9223372036854775808<=c) (h2:c<=9223372036854775807) (h3:0<n) (h4:n<=9223372036854775807)=>Rc c n l h1 h2 h3 h4);have HL:Ϛ (f.length=s.size+8/\s.size<=1048576):=⟨am,Ϝ⟩;obtain⟨n,hn⟩:=nM f.length;have u:=hqz hn;have ar:8<=n/\n<=1048584:=Ϝ;obtain⟨F,L⟩:=nM (⟨f.toArray⟩:ByteArray);have HF:Ϛ (F.data.toList=f):=by rw[<-L];rfl
  have ao:F.size=n:=by rw[<-L,ah,hn]
  rw[L]at J KO;clear L h Q q O am ah hn hm;have i0:¬((n:Int)=0):=Ϝ;go_enter func8,ntmps8;go_wp2_with fail;refine J.o.mono ?_;rintro e l ⟨rfl,C⟩;go_wp2_with fail;refine(KO.o _ C).mono ?_;rintro e w2 ⟨rfl,aa⟩;have M:ϛ w w2:=bT C aa;go_wp2_with fail;refine(U.o a n _ a1 a2 Ϝ Ϝ).mono ?_;rintro e d ⟨⟨i,r,rfl⟩,rfl⟩;have ae:=Lib.run_convert_string_bytes (P:=Tryz.prog) d 9 51 5 F underlying9 underlying51 underlying5;obtain⟨al,aq⟩:=nM (grownCap d F.size 0 5);rw[aq,ao]at ae;go_upto_region 11 with fail;have ad:ϛ d (Lib.bytesWorld d 5 F):=Po d 5 F;have N:∀j,j<n->Δ (Lib.bytesWorld d 5 F) d j (.int .u8 ((f.getD j 0).toNat:Int)):=λj hj=>by
   have:=Lib.bytesWorld_cell d 5 F j Ϝ;rw[HF.o]at this;exact this
  have ag:∀j,j<n->Ξ (Lib.bytesWorld d 5 F) d j:=λj hj=>TO d 5 F j Ϝ;generalize Lib.bytesWorld d 5 F=V at ad N ag⊢;have X:=N i r;have fx:=ag i r;obtain⟨x,hx⟩:=nM (f.getD i 0);rw[hx]at X;have ak:=hqz hx;clear hx;have aj:=hqz N;clear N ag;have i2:(i:Int)<(n:Int):=Ϝ;have i3:(0:Int)<=(i:Int):=Ϝ;refine gr.CP 13 rfl ϟ (S:=λ_=>True) trivial (λg=>?_);refine tkz 0 49 g ?_;refine tkz 1 50 g ?_;refine tkz 2 51 g ?_;refine tkz 3 52 g ?_;refine tkz 4 53 g ?_;refine tkz 6 55 g ?_;refine wpAnyH_ready (rs:=[5,7]) ϟ Ϟ ?_;refine AllReadyH.cons rfl (λK m=>?_) (AllReadyH.cons rfl (λK m=>?_) AllReadyH.nil)
  ·go_simp;refine m.out _ _ trivial (λg=>?_);clear m K
   try simp only[Act.put,sI,sZ,sS]
   refine rD 7 λK m=>?_;go_simp;go_at_call 21;refine(U.o b 255 _ b1 b2 ϝ ϝ).mono ?_;rintro e w4 ⟨⟨k,hk,rfl⟩,rfl⟩;obtain⟨z,I,ai⟩:=byte_of k hk;obtain⟨y,t⟩:∃y:UInt8,x ^^^ z=y:=⟨_,rfl⟩;have Z:bits BinOp.xor IntKind.u8 (x.toNat:Int) (z.toNat:Int)=(y.toNat:Int):=by rw[<-t];exact VY x z
   have R:=hqz t;clear t;have k1:IntKind.i64.wrap ((k:Int)+1)=(k:Int)+1:=by rw[ch.Bt];omega
   go_wp2_with fail;refine m.out _ _ trivial (λg=>?_);clear m K
   try simp only[Act.put,sI,sZ,sS]
   refine tkz 8 57 g ?_;refine tkz 9 58 g ?_;refine tkz 10 59 g ?_;refine tkz 11 60 g ?_;refine rD 12 λK m=>?_;go_simp;refine m.out _ _ trivial (λg=>?_);clear m K
   try simp only[Act.put,sI,sZ,sS]
   refine wpAnyH_done ϟ ?_ _;have v:∀j (hj:j<(f.set i y).length),((V.setCell ⟨d,i,none⟩ (.int .u8 (y.toNat:Int))).drew).cell? ((⟨d,0,none⟩:Addr).add j)=some (.int .u8 ((f.set i y)[j].toNat:Int)):=Nm (y:=y) u.o r aj.o;have p:ϛ w ((V.setCell ⟨d,i,none⟩ (.int .u8 (y.toNat:Int))).drew):=((bT M ad).setCell M.size _).drew;have H:f[i]? ≠some y:=λG=>Nn (a:=x) ai (by have e0:=ak.o;rw[gDe,G]at e0;exact R.o.trans e0);generalize ((V.setCell ⟨d,i,none⟩ (.int .u8 (y.toNat:Int))).drew)=W at v p⊢;have af:=run_convert_bytes_back (P:=Tryz.prog) W 51 9 5 ⟨d,0,none⟩ al (f.set i y) underlying51 underlying5 underlying9 v;rw[length_set,u.o]at af;clear ae Z k1 I X fx;go_wp2_with fail;refine(KT.o i y _ p (by rw[u.o];exact r) H).mono ?_;rintro o w5 ⟨⟨B',E,rfl,Y⟩,ab⟩;have an:(E !=0)=true:=by simpa using Y
   have D:ϛ w w5:=bT p ab;go_wp2_with fail;refine(T.o _ D).mono ?_;rintro o w6 ⟨rfl,ac⟩;go_wp2;go_ret;exact⟨rfl,bT D ac⟩
  ·go_simp;go_at_call 21;refine(U.o b 255 _ b1 b2 ϝ ϝ).mono ?_;rintro e w4 ⟨⟨k,hk,rfl⟩,rfl⟩;obtain⟨z,I,ai⟩:=byte_of k hk;obtain⟨y,t⟩:∃y:UInt8,x ^^^ z=y:=⟨_,rfl⟩;have Z:bits BinOp.xor IntKind.u8 (x.toNat:Int) (z.toNat:Int)=(y.toNat:Int):=by rw[<-t];exact VY x z
   have R:=hqz t;clear t;have k1:IntKind.i64.wrap ((k:Int)+1)=(k:Int)+1:=by rw[ch.Bt];omega
   go_wp2_with fail;refine m.out _ _ trivial (λg=>?_);clear m K
   try simp only[Act.put,sI,sZ,sS]
   refine tkz 8 57 g ?_;refine tkz 9 58 g ?_;refine rD 5 λK m=>?_;go_simp;refine m.out _ _ trivial (λg=>?_);clear m K
   try simp only[Act.put,sI,sZ,sS]
   refine tkz 10 59 g ?_;refine tkz 11 60 g ?_;refine rD 12 λK m=>?_;go_simp;refine m.out _ _ trivial (λg=>?_);clear m K
   try simp only[Act.put,sI,sZ,sS]
   refine wpAnyH_done ϟ ?_ _;have v:∀j (hj:j<(f.set i y).length),((V.setCell ⟨d,i,none⟩ (.int .u8 (y.toNat:Int))).drew).cell? ((⟨d,0,none⟩:Addr).add j)=some (.int .u8 ((f.set i y)[j].toNat:Int)):=Nm (y:=y) u.o r aj.o;have p:ϛ w ((V.setCell ⟨d,i,none⟩ (.int .u8 (y.toNat:Int))).drew):=((bT M ad).setCell M.size _).drew;have H:f[i]? ≠some y:=λG=>Nn (a:=x) ai (by have e0:=ak.o;rw[gDe,G]at e0;exact R.o.trans e0);generalize ((V.setCell ⟨d,i,none⟩ (.int .u8 (y.toNat:Int))).drew)=W at v p⊢;have af:=run_convert_bytes_back (P:=Tryz.prog) W 51 9 5 ⟨d,0,none⟩ al (f.set i y) underlying51 underlying5 underlying9 v;rw[length_set,u.o]at af;clear ae Z k1 I X fx;go_wp2_with fail;refine(KT.o i y _ p (by rw[u.o];exact r) H).mono ?_;rintro o w5 ⟨⟨B',E,rfl,Y⟩,ab⟩;have an:(E !=0)=true:=by simpa using Y
   have D:ϛ w w5:=bT p ab;go_wp2_with fail;refine(T.o _ D).mono ?_;rintro o w6 ⟨rfl,ac⟩;go_wp2;go_ret;exact⟨rfl,bT D ac⟩
end cd
end Go.Proofs.YtfkihidbnfkbaaaGreatDoor
