import Derived.Test.YtfkihidbnfkbaaaGreatDoorPv43
import Derived.Test.YtfkihidbnfkbaaaGreatDoorTie
import Derived.LaidMore
import Derived.Deep.DeepWitnessRowRef
set_option linter.all false
set_option maxHeartbeats 8000000
set_option maxRecDepth 100000
open Go.ChangeShapes Go.WideShapes Go.ChangeAt Go.RowKit List
namespace Go.Proofs.YtfkihidbnfkbaaaGreatDoor
open Go.Proofs.Tryz
namespace cd
open vl bf
theorem Vj(s:ByteArray)(w:Ϙ)(Z:s.size<=9223372036854775807):
 η 15 #[.string s] w (θ w (.tuple #[.string ⟨(EP s.data.toList).1.toArray⟩,vI (EP s.data.toList).2])):=by
 have h:s.data.toList.length=s.size:=AE s;have i:(bodyL s.data.toList).length=s.size - 8:=by
  unfold bodyL;rw[length_drop,length_take,h];omega
 by_cases p:s.size<8
 ·have d:Ϛ (EP s.data.toList=([],1)):=if_pos (by rw[h];exact p);rw[d.o];have O:(s.size:Int)<8:=Ϝ;clear i h;go_enter func15,ntmps15;go_upto_region 1 with fail
  go_region
  go_wp2
  go_ret2
  exact⟨rfl,bR.drew⟩
 ·have O:¬(s.size:Int)<8:=Ϝ;by_cases E:1048576<s.size - 8
  ·have d:Ϛ (EP s.data.toList=([],1)):=by
    show _=_;unfold EP;rw[if_neg (by rw[h];exact p),if_pos (by rw[i];exact E)]
   rw[d.o];have i2:(1048576:Int)<(s.size:Int) - 8:=Ϝ;have i3:IntKind.i64.wrap ((s.size:Int) - 8)=(s.size:Int) - 8:=by
    simp[IntKind.wrap,IntKind.signed,IntKind.bits];omega
   clear i h;go_enter func15,ntmps15;go_upto_region 1 with fail
   go_region
   go_wp2
   go_ret2
   exact⟨rfl,bR.drew⟩
  ·obtain⟨m,N⟩:=nM (s.size - 8);have aa:s.size=m+8:=Ϝ;have j:Ϛ (s.data.toList.length=m+8/\(bodyL s.data.toList).length=m):=⟨by rw[h];exact aa,by rw[i];exact N⟩;have ab:m<=1048576:=Ϝ;have hw:IntKind.u32.wrap (m:Int)=(m:Int):=FW _ Ϝ;have i2:¬(1048576:Int)<(m:Int):=Ϝ;have H:=hIz (λn (o:Ϙ) (hn:n<4294967296)=>P5 n o hn);have Q:=hIz (λ(l:List UInt8) (o:Ϙ) (Y:l.length<=100000000)=>JI ⟨l.toArray⟩ o (by rw[size_mk];exact Y));obtain⟨RS,z⟩:=nM (EP s.data.toList);have c:Ϛ (RS=if s.data.toList.take 4≠w4 m then([],1)else if s.data.toList.drop (m+4)≠w4 (crc (s.data.toList.take (m+4)))then([],11)else(bodyL s.data.toList,0)):=by
    show _=_;rw[<-z];unfold EP;rw[if_neg (by rw[h];exact p),if_neg (by rw[i];exact E),j.o.2,j.o.1];rfl
   rw[z];have q:s.extract 0 4=⟨(s.data.toList.take 4).toArray⟩:=by rw[GX,List.drop_zero]
   have r:s.extract (m+4) (m+8)=⟨(s.data.toList.drop (m+4)).toArray⟩:=by rw[GX,take_of_length_le (by rw[j.o.1];exact Nat.le_refl _)]
   have t:s.extract 0 (m+4)=⟨(s.data.toList.take (m+4)).toArray⟩:=by rw[GX,List.drop_zero]
   have u:s.extract 4 (m+4)=⟨(bodyL s.data.toList).toArray⟩:=by
    rw[GX];unfold bodyL;rw[j.o.1];rfl
   obtain⟨B,I⟩:=nM (bodyL s.data.toList);obtain⟨P,L⟩:=nM (s.data.toList.take 4);obtain⟨D,J⟩:=nM (s.data.toList.drop (m+4));obtain⟨A,v⟩:=nM (s.data.toList.take (m+4));have U:A.length<=100000000:=by rw[<-v,length_take];omega
   rw[L]at q c;rw[J]at r c;rw[v]at t c;rw[I]at u c;have d:Ϛ (s.extract 0 4=⟨P.toArray⟩/\s.extract (m+4) (m+8)=⟨D.toArray⟩/\s.extract 0 (m+4)=⟨A.toArray⟩/\s.extract 4 (m+4)=⟨B.toArray⟩):=⟨q,r,t,u⟩;clear i h z I L J v q r t u j E p N Z O;go_enter func15,ntmps15;go_upto_region 1 with fail;have ad:IntKind.i64.wrap (m:Int)=(m:Int):=by
    simp[IntKind.wrap,IntKind.signed,IntKind.bits];omega
   have R:=pl.Aak (x:=(m:Int)+8) (y:=8) false ϡ;have T:=pl.Fy (x:=(m:Int)) (y:=1048576) false ϡ;have i4:(4:Int)<=(m:Int)+8:=Ϝ;refine gr.CP 19 rfl ϟ (S:=λ_=>True) trivial (λa=>?_);refine tkz 0 4 a ?_;refine tkz 1 5 a ?_;refine tkz 2 6 a ?_;refine tkz 3 7 a ?_;refine tkz 4 8 a ?_;refine tkz 5 9 a ?_;refine tkz 6 10 a ?_;refine tkz 7 11 a ?_;refine tkz 8 12 a ?_;refine tkz 9 13 a ?_;refine tkz 10 14 a ?_;refine tkz 11 15 a ?_;refine tkz 12 16 a ?_;refine tkz 13 17 a ?_;refine tkz 14 18 a ?_;refine tkz 15 19 a ?_;refine rD 16 λK g=>?_;go_simp;go_at_call 26;refine(H.o m _ Ϝ).mono ?_;rintro e o ⟨rfl,V⟩;go_wp2_with fail;refine g.out _ _ trivial (λa=>?_);clear g K
   try simp only[Act.put,sI,sZ,sS]
   rw[d.o.1];refine tkz 17 21 a ?_;refine tkz 18 22 a ?_;refine wpAnyH_done ϟ ?_ _;have C:ϛ w o:=bR.drew.trans V;clear a R T;by_cases b:P=w4 m
   rotate_left
   ·have f:Ϛ (RS=([],1)):=by rw[if_pos b]at c;exact c
    have F:(P==w4 m)=false:=by simpa using b
    rw[F];simp only[Bool.not_false];go_wp2
    go_ret2
    exact⟨MV (by rw[f.o]) (by rw[f.o]),C⟩
   ·rw[if_neg (λk=>k b)]at c;have F:(P==w4 m)=true:=by simpa using b
    have X:=JH A;rw[F];simp only[Bool.not_true];clear b;go_upto_region 3 with fail;have ac:IntKind.i64.wrap ((m:Int)+8 - 4)=((m+4:Nat):Int):=by
     simp[IntKind.wrap,IntKind.signed,IntKind.bits];omega
    have i5:(m:Int)+4<=(m:Int)+8:=Ϝ;have i6:(0:Int)<=(m:Int)+4:=Ϝ;have i7:((m:Int)+4).toNat=m+4:=Ϝ;refine gr.CP 13 rfl ϟ (S:=λ_=>True) trivial (λa=>?_);refine tkz 0 23 a ?_;refine tkz 1 24 a ?_;refine tkz 2 25 a ?_;refine tkz 3 26 a ?_;refine tkz 4 27 a ?_;refine tkz 5 28 a ?_;refine tkz 6 29 a ?_;refine tkz 7 30 a ?_;refine tkz 8 31 a ?_;refine tkz 9 32 a ?_;rw[d.o.2.1,d.o.2.2.1];refine rD 10 λK g=>?_;go_simp;go_at_call 13;refine(Q.o A _ U).mono ?_;rintro e w2 ⟨rfl,rfl⟩;go_wp2_with fail;refine g.out _ _ trivial (λa=>?_);clear g K
    try simp only[Act.put,sI,sZ,sS]
    refine rD 11 λK g=>?_;go_simp;go_at_call 26;refine(H.o (crc A) _ X).mono ?_;rintro e w3 ⟨rfl,W⟩;go_wp2_with fail;refine g.out _ _ trivial (λa=>?_);clear g K
    try simp only[Act.put,sI,sZ,sS]
    refine tkz 12 35 a ?_;refine wpAnyH_done ϟ ?_ _;have M:ϛ w w3:=C.trans (bR.drew.trans (W.mono (by have:=C.size;simpa using this)));clear a;by_cases b:D=w4 (crc A)
    ·have f:Ϛ (RS=(B,0)):=by rw[if_neg (λk=>k b)]at c;exact c
     have G:(D==w4 (crc A))=true:=by simpa using b
     rw[G];simp only[Bool.not_true];clear b;go_wp2;rw[d.o.2.2.2]
     go_ret2
     exact⟨MV (by rw[f.o]) (by rw[f.o]),M⟩
    ·have f:Ϛ (RS=([],11)):=by rw[if_pos b]at c;exact c
     have G:(D==w4 (crc A))=false:=by simpa using b
     rw[G];simp only[Bool.not_false];clear b;go_wp2
     go_ret2
     exact⟨MV (by rw[f.o]) (by rw[f.o]),M⟩
end cd
namespace cd
open vl bf jn
theorem AaH(s:ByteArray)(w:Ϙ)(h:GC w):η 3 #[.string s] w (θ w (.bool true)):=by
 have d:=hIz (λ(a:Ϙ) (b:ϛ w a)=>Kd a (nibAt_below h b));by_cases v:2097152<s.size
 ·have r:(2097152:Int)<(s.size:Int):=Ϝ;clear h;go_enter func3,ntmps3;go_wp2_with fail;refine(d.o _ bR).mono ?_;rintro e a ⟨rfl,c⟩;go_wp2;go_ret;exact⟨rfl,c⟩
 ·have f:Ϛ (CT 10 #[.string s] w (θ w (.tuple #[.string ⟨(Hz s.data.toList).1.toArray⟩,vI (Hz s.data.toList).2]))):=Hv s w h;have i:=hIz (λ(a:Ϙ)=>QB s a);have j:=hIz (λ(a:Ϙ) (b:ϛ w a)=>Lc s a (nibAt_below h b) Ϝ);have g:=hIz (λ(a:Ϙ)=>JI s a Ϝ);have r:¬(2097152:Int)<(s.size:Int):=Ϝ;obtain⟨F,m⟩:=nM (⟨(Hz s.data.toList).1.toArray⟩:ByteArray);obtain⟨E,l⟩:=nM ((Hz s.data.toList).2);obtain⟨C,k⟩:=nM (crc s.data.toList);rw[m,l]at f i;rw[k]at j g;clear m l k h;go_enter func3,ntmps3;go_wp2_with fail;refine f.o.mono ?_;rintro e a ⟨rfl,c⟩;go_wp2_with fail;refine(i.o _).mono ?_;rintro e t ⟨rfl,p⟩;have n:ϛ w t:=bT c p;go_wp2_with fail;refine(d.o _ n).mono ?_;rintro e u ⟨rfl,q⟩;have o:ϛ w u:=bT n q;go_wp2_with fail;refine(j.o _ o).mono ?_;rintro e w4 ⟨rfl,rfl⟩;go_wp2_with fail;refine(g.o _).mono ?_;rintro e x ⟨rfl,rfl⟩;go_wp2;go_ret;exact⟨rfl,o⟩
theorem AaB(s:ByteArray)(w:Ϙ)(h:GC w)(b:s.size<=9223372036854775807):η 4 #[.string s] w (θ w (.bool true)):=by
 have j:=hIz (λ(a:Ϙ) (k:ϛ w a)=>Kd a (nibAt_below h k));have c:Ϛ (CT 14 #[.string s] w (θ w (.tuple #[.string ⟨(EP s.data.toList).1.toArray⟩,vI (EP s.data.toList).2]))):=J7 s w h b;have d:=hIz (λ(a:Ϙ)=>Vj s a b);obtain⟨F,g⟩:=nM (⟨(EP s.data.toList).1.toArray⟩:ByteArray);obtain⟨E,f⟩:=nM ((EP s.data.toList).2);rw[g,f]at c d;clear g f h b;go_enter func4,ntmps4;go_wp2_with fail;refine c.o.mono ?_;rintro e a ⟨rfl,l⟩;go_wp2_with fail;refine(d.o _).mono ?_;rintro e o ⟨rfl,m⟩;have i:ϛ w o:=bT l m;go_wp2_with fail;refine(j.o _ i).mono ?_;rintro e p ⟨rfl,n⟩;go_wp2;go_ret;exact⟨rfl,bT i n⟩
end cd
namespace cd
theorem Abb:Tryz.prog.globalNamed "meetwater/code.nibbles" =some 0:=ϟ
theorem tNib:(Tryz.prog.globals[0]?).map (·.type)=some 61:=ϟ
theorem uNib:Tryz.prog.underlying 61=some (.array 16 26):=ϟ
theorem uU32:Tryz.prog.underlying 26=some (.int .u32):=ϟ
theorem c26:Tryz.prog.cellsOf 26=1:=ϟ
theorem c61:Tryz.prog.cellsOf 61=16:=ϟ
def lst:List (String×DataW Unit):=[("meetwater/tape.errWrong",Rows.laid_meetwater_tape_errWrong),("meetwater/code.nibbles",Rows.laid_meetwater_code_nibbles)]
def zs:List Int:=MW.map Int.ofNat
theorem Abc{W:Ϙ}(h:laidMetH Tryz.prog lst W):GC W:=by
 rw[MakeChecks.laidMetH_plain _ _ _ ϟ]at h;obtain⟨v,⟨o,y,i,m,t,w,q,r,s,hd0,⟨p,z,l,n,u,x,c,f,g,b,_,_⟩,_⟩,_⟩:=h;obtain rfl:=Option.some.inj (Abb.symm.trans c);obtain rfl:=Option.some.inj (tNib.symm.trans f);have d:Lib.TabIs Tryz.prog W "meetwater/code.nibbles" .u32 zs:=by
  unfold Lib.TabIs;rw[g,<-Lib.cells_of_tab (k:=.u32) (zs:=zs) uNib uU32 c26 c61 b]
 intro j a;have:=d.cell Abb j (show j<zs.length from a);rw[this];have e:zs.getD j 0=Int.ofNat (MW.getD j 0):=by
  unfold zs;rw[gDe,gDe,getElem?_map,gEe (show j<MW.length from a)];rfl
 rw[e];rfl
end cd
end Go.Proofs.YtfkihidbnfkbaaaGreatDoor
