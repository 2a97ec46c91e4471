import Derived.Test.YtfkihidbnfkbaaaGreatDoorPv5
import Derived.Maps.Ext
import Derived.Deep.Onto
import Derived.Laws.AppendOwnNone
set_option linter.all false
set_option maxHeartbeats 8000000
set_option maxRecDepth 100000
open Go.ChangeShapes Go.WideShapes Go.ChangeAt Go.RowKit Go.Maps Go.WideAt Go.WideElems Go.WideMaps Go.Sort List
open Inhabited renaming default->ϰ
open List renaming length->ϲ
namespace Go.Proofs.YtfkihidbnfkbaaaGreatDoor
open Go.Proofs.Tryz
namespace ch
abbrev KV:=List (List UInt8×Int)
def insK(x:List UInt8×Int):KV->KV
 |[]=>[x]
 |y::r=>if bytesBefore x.1 y.1 then x::y::r else y::insK x r
def Kl(kv:KV)(k:List UInt8):KV:=kv.filter λp=> !(p.1==k)
def Lh(kv:KV)(k:List UInt8)(n:Int):KV:=insK (k,n) (Kl kv k)
def Ff(kv:KV)(k:List UInt8):Int:=match kv.find? (λp=>p.1==k)with|some p=>p.2|none=>0
def ent(p:List UInt8×Int):Lit×DataW Unit:=(.string p.1,.lit (.int .i64 p.2))
def toD(kv:KV):DataW Unit:=.map (kv.map ent)
theorem Aek(x:List UInt8×Int)(l:KV):(insK x l).map ent=DataW.insert (ent x) (l.map ent):=by
 induction l with
 |nil=>rfl
 |cons y r ih=>
  rw[insK,P3,DataW.insert];have e:(ent x).1.before (ent y).1=bytesBefore x.1 y.1:=rfl;rw[e];split
  ·rfl
  ·rw[P3,ih]
def XM(l:KV)(k:List UInt8):(Kl l k).map ent=(l.map ent).filter λp=> !p.1.sameKey (.string k):=by
 unfold Kl;rw[filter_map];rfl
def RG(c:KV)(k:List UInt8)(n:Int):(toD c).put (.string k) (.lit (.int .i64 n))=toD (Lh c k n):=by
 unfold toD Lh;rw[Aek,XM];rfl
def Ael(c:KV)(k:List UInt8):(toD c).del (.string k)=toD (Kl c k):=by
 unfold toD;rw[XM];rfl
def Agh(c:KV)(k:List UInt8):(toD c).atKey (.string k) (.lit (.int .i64 0))= .lit (.int .i64 (Ff c k)):=by
 unfold toD DataW.atKey Ff;simp only[find?_map];have e:((λp:Lit×DataW Unit=>p.1.sameKey (.string k))∘ent)=λp=>p.1==k:=rfl;rw[e]
 cases c.find? (λp=>p.1==k)<;>rfl
def Li(c:KV):Maps.size (toD c)=ϲ c:=by
 unfold toD;rw[Maps.size_eq,lMp]
def law:Keyed Tryz.prog 9:=string_keyed underlying9
def IA(w:ϟ):(zeroValue 3).run Tryz.prog w= .ok (.int .i64 0) w:=Ϧ
def Em(w:World)(B nn:Nat)(kv:KV):Prop:=w.ownsMap Tryz.prog 9 (plainElem (H:=Unit) Tryz.prog 3) B nn (toD kv)
def Iq{d:KV}{k:List UInt8}{c:Int}(h:(toD d).atKey (.string k) (.lit (.int .i64 0))= .lit (.int .i64 c)):c=Ff d k:=by
 rw[Agh]at h;injection h with h
 injection h with _ h
 exact h.symm
def Aem(kv:KV)(k:List UInt8)(n:Int):Int:=
 if Ff kv k+n<0 then 9 else if 1073741824<Ff kv k+n then 2 else if Ff kv k+n=0 then 0 else if Ff kv k=0/\(ϲ kv)=4096 then 2 else 0
def VQ(kv:KV)(k:List UInt8)(n:Int):KV:=
 if Ff kv k+n<0 then kv else if 1073741824<Ff kv k+n then kv else if Ff kv k+n=0 then Kl kv k else if Ff kv k=0/\(ϲ kv)=4096 then kv else Lh kv k (Ff kv k+n)
theorem Aen(B nn:Nat)(l:KV)(k:ByteArray)(n:Int)(w:ϟ)(F:Em w B nn l)(m:k.size<=maxLen)(G:nn<maxLen)
 (h1: -1152921504606846976<=Ff l k.data.toList) (K:Ff l k.data.toList<=1152921504606846976) (T: -1152921504606846976<=n) (U:n<=1152921504606846976) (R:ϲ l<=1152921504606846976):
 χ 163 #[.map (some B),.string k,.int .i64 n] w λe w'=>e= .returned (.int .i64 (Aem l k.data.toList n))/\Em w' B (nn+1) (VQ l k.data.toList n)/\w.grownBy w' (some B):=by
 have f:=hV0 F;obtain⟨h,A⟩:∃h,Ff l k.data.toList=h:=⟨_,rfl⟩;have s:=hV0 A;rw[A]at h1 K;unfold Aem VQ;rw[A];clear A F;by_cases y:h+n<0
 ·rw[AE y,AE y];go_enter func163,ntmps163;go_wp2_with (at_lookup;refine cK _ rfl (.tmp 9) (.tmp 10) 223 rfl 9 3 .i64 law underlying223 underlying3 (IA _) B nn _ rfl f.o _ (.string k.data.toList) rfl (keyOf_string_mk underlying9 m) ?_;intro c d x;have j:c=h:=(Iq d).trans s.o;clear d;subst j);go_ret;exact⟨rfl,f.o.mono ϣ,gJ _ _⟩
 ·rw[AC y,AC y];by_cases z:1073741824<h+n
  ·rw[AE z,AE z];go_enter func163,ntmps163;go_wp2_with (at_lookup;refine cK _ rfl (.tmp 9) (.tmp 10) 223 rfl 9 3 .i64 law underlying223 underlying3 (IA _) B nn _ rfl f.o _ (.string k.data.toList) rfl (keyOf_string_mk underlying9 m) ?_;intro c d x;have j:c=h:=(Iq d).trans s.o;clear d;subst j);go_ret;exact⟨rfl,f.o.mono ϣ,gJ _ _⟩
  ·rw[AC z,AC z];by_cases p:h+n=0
   ·rw[AE p,AE p];have H:(h+n==0)=true:=by rw[UV];exact p
    have O:ϡ (h+n=0):=p;clear p;go_enter func163,ntmps163;go_wp2_with (first
     |(at_lookup;refine cK _ rfl (.tmp 9) (.tmp 10) 223 rfl 9 3 .i64 law underlying223 underlying3 (IA _) B nn _ rfl f.o _ (.string k.data.toList) rfl (keyOf_string_mk underlying9 m) ?_;intro c d x;have j:c=h:=(Iq d).trans s.o;clear d;subst j)
     |(at_delete;refine wpList_delete_own _ rfl (.tmp 24) (.tmp 25) 223 9 rfl 3 law underlying223 _ B nn _ rfl f.o _ (.string k.data.toList) rfl (keyOf_string_mk underlying9 m) ?_;intro w1 q M))
    go_ret;exact⟨rfl,by rw[Ael]at q;exact q.mono ϣ,M.grown⟩
   ·rw[AC p,AC p];have H:(h+n==0)=false:=by rw[K5];exact p
    by_cases t:h=0
    ·have I:(h==0)=true:=by rw[UV];exact t
     have E:ϡ (h=0):=t;clear t;have L:=λN=>f.o.len underlying223 N;simp only[Li]at L;by_cases u:ϲ l=4096
     ·have J:((ϲ l:Int)==4096)=true:=by rw[UV];omega
      rw[AE ⟨E.o,u⟩,AE ⟨E.o,u⟩];clear u;go_enter func163,ntmps163;go_wp2_with (first
       |(at_lookup;refine cK _ rfl (.tmp 9) (.tmp 10) 223 rfl 9 3 .i64 law underlying223 underlying3 (IA _) B nn _ rfl f.o _ (.string k.data.toList) rfl (keyOf_string_mk underlying9 m) ?_;intro c d x;have j:c=h:=(Iq d).trans s.o;clear d;subst j))
      go_ret;exact⟨rfl,f.o.mono ϣ,gJ _ _⟩
     ·have J:((ϲ l:Int)==4096)=false:=by rw[K5];omega
      rw[AC (λh=>u h.2),AC (λh=>u h.2)];go_enter func163,ntmps163;go_wp2_with (first
       |(at_lookup;refine cK _ rfl (.tmp 9) (.tmp 10) 223 rfl 9 3 .i64 law underlying223 underlying3 (IA _) B nn _ rfl f.o _ (.string k.data.toList) rfl (keyOf_string_mk underlying9 m) ?_;intro c d x;have j:c=h:=(Iq d).trans s.o;clear d;subst j)
       |(at_mapUpdate;refine fP _ rfl (.tmp 34) (.tmp 35) (.tmp 36) 223 rfl 9 3 law underlying223 _ B nn _ rfl f.o G _ _ (.string k.data.toList) rfl rfl (keyOf_string_mk underlying9 m) _ [] (dQ underlying3 (fQ ϣ)) ?_;intro w1 q D))
      go_ret;exact⟨rfl,by rw[RG]at q;exact q,D⟩
    ·have I:(h==0)=false:=by rw[K5];exact t
     rw[AC (λh=>t h.1),AC (λh=>t h.1)];go_enter func163,ntmps163;go_wp2_with (first
      |(at_lookup;refine cK _ rfl (.tmp 9) (.tmp 10) 223 rfl 9 3 .i64 law underlying223 underlying3 (IA _) B nn _ rfl f.o _ (.string k.data.toList) rfl (keyOf_string_mk underlying9 m) ?_;intro c d x;have j:c=h:=(Iq d).trans s.o;clear d;subst j)
      |(at_mapUpdate;refine fP _ rfl (.tmp 34) (.tmp 35) (.tmp 36) 223 rfl 9 3 law underlying223 _ B nn _ rfl f.o G _ _ (.string k.data.toList) rfl rfl (keyOf_string_mk underlying9 m) _ [] (dQ underlying3 (fQ ϣ)) ?_;intro w1 q D))
     go_ret;exact⟨rfl,by rw[RG]at q;exact q,D⟩
def rising(kv:KV):Prop:=kv.Pairwise λp q=>bytesBefore p.1 q.1=true
theorem EU:∀(a b:List UInt8),bytesBefore a b=decide (a<b)
 |[],[]=>by simp[bytesBefore]
 |[],_::_=>by simp[bytesBefore]
 |_::_,[]=>by simp[bytesBefore]
 |a::x,b::y=>by
  rw[bytesBefore,EU x y];simp only[gH];by_cases c:a<b<;>by_cases d:a=b<;>by_cases f:x<y<;>simp[c,d,f]
def MO(c:KV):strKeys (toD c)=c.map (·.1):=by
 show(c.map ent).map (λp=>strOf p.1)=c.map (·.1);rw[aR];rfl
def Tt{c:KV}(j:rising c){f:List (List UInt8)}(h:f.Perm (strKeys (toD c))):f.mergeSort (λx y=>decide (x<=y))=c.map (·.1):=by
 have e:=mergeSort_of_perm h;rw[MO]at e;refine e.trans ?_;refine mergeSort_of_pairwise ?_;rw[eY];refine j.imp ?_;intro p q d;rw[EU]at d;exact DB (List.le_of_lt (Fd d))
def Ab9(B:Nat)(w:ϟ):χ 267 #[.map (some B)] w λe w'=>e= .returned (.func (.func 292) #[] #[ω w])/\w'=w.alloc (.cells #[.map (some B)] 223):=
 DM.1 (Tryz.maps_Keys_267 (some B) w)
theorem VU(B nn:Nat)(c:KV)(w:ϟ)(p:Em w B nn c)(q:rising c)(t:ϲ c<=1000000):
 χ 266 #[.func (.func 292) #[] #[ω w]] (w.alloc (.cells #[.map (some B)] 223))
  λe w'=>(∃v,e= .returned v/\w'.ownsRow (w.heap.size+1) 9 1 v (ϲ c) ((c.map (·.1)).map encStr))/\Below (w.heap.size+1) (ϊ w #[.map (some B)] 223) w':=by
 have h:=Tryz.slices_Sorted_keys_266_267 B nn (toD c) (plainElem (H:=Unit) Tryz.prog 3) w p (by rw[Li];unfold maxLen;omega) (by rw[Li];omega);refine(DM.1 h).mono ?_;rintro e w' ⟨v,s,l,j,d,u,f⟩;have m:ϲ s=ϲ c:=by rw[j.length_eq,MO,lMp]
 rw[Tt q j,m]at d;simp only[D0]at d f;exact⟨⟨v,l,d⟩,f⟩
variable {w:ϟ} {B nn:Nat}
def C7{w':ϟ}{f:KV}(h:Em w B nn f)(s:Ϣ w w'):Em w' B nn f:=by
 obtain⟨l,j,c,m,p,q⟩:=h;have d:B<w.heap.size:=by
  rcases RN B w.heap.size with d|t
  ·exact d
  ·rw[bZ t]at c;cases c
 exact⟨l,j,by rw[s.block B d];exact c,m,p,q⟩
def EF{c:KV}(h:Em w B nn c)(o:Obj):Em (w.alloc o) B nn c:=C7 h (bR.alloc nR o)
def Nv{j:KV}(h:Em w B nn j):B<w.heap.size:=by
 obtain⟨m,l,c,p,q,s⟩:=h;rcases RN B w.heap.size with f|d
 ·exact f
 ·rw[bZ d]at c;cases c
theorem GM:∀(a b:List UInt8),Op.bytesLess a b=decide (a<b)
 |[],[]=>by simp[Op.bytesLess]
 |_::_,[]=>by simp[Op.bytesLess]
 |[],_::_=>by simp[Op.bytesLess]
 |a::x,b::y=>by
  rw[Op.bytesLess,GM x y];simp only[gH];by_cases c:a<b<;>by_cases d:a=b<;>by_cases f:x<y<;>simp[c,d,f]
end ch
namespace ch
open vl
variable {w w' w1 w2 : ϟ} {k : List UInt8} {n : Int} {B C base g size : Nat} {r : List Cel} {e : TypeId} {v : Value} {xs : List Value} {o row : Option Nat}
structure Cnt where
 r:List Cel
 n:Int
instance:Inhabited Cnt:=⟨⟨[],0⟩⟩
def viewAt(w:World)(a:Option Addr)(v:List Cnt):Prop:=
 ∀i,i<ϲ v->∃b off ra rc,a=some ⟨b,off,none⟩/\Δ w b (off+i * 2) (.slice ra (ϲ (v.getD i ϰ).r) rc)/\vl.rowAt w ra (v.getD i ϰ).r/\Δ w b (off+i * 2+1) (.int .i64 (v.getD i ϰ).n)
def BK(v:List Cnt):Prop:=∀c∈v,B8 c.r/\(ϲ c.r)<=ύ/\(-9223372036854775808<=c.n/\c.n<=9223372036854775807)
def Ir{v:List Cnt}(h:BK v)(k:Nat)(c:k<ϲ v):B8 (v.getD k ϰ).r/\(ϲ (v.getD k ϰ).r)<=ύ/\(-9223372036854775808<=(v.getD k ϰ).n/\(v.getD k ϰ).n<=9223372036854775807):=
 h _ (by simp[gDe,c])
def Bp{a:Ϡ}{v:List Cnt}(h:viewAt w a v)(c:Ϣ w w'):viewAt w' a v:=by
 intro i d;obtain⟨b,o,f,j,e,l,m,p⟩:=h i d;exact⟨b,o,f,j,e,cLz c l,Ac m c,cLz c p⟩
def Fx(v:List Cnt)(i:Nat):Prop:=
 Aq (v.getD i ϰ).r=0/\1<=(v.getD i ϰ).n/\(v.getD i ϰ).n<=1073741824/\(0<i->AH (v.getD (i - 1) ϰ).r (v.getD i ϰ).r<0)
def EG(v:List Cnt):Prop:=ϲ v<=4096/\∀i,i<ϲ v->Fx v i
instance(v:List Cnt)(i:Nat):Decidable (Fx v i):=by unfold Fx;infer_instance
instance(v:List Cnt):Decidable (EG v):=by unfold EG;infer_instance
def Av(v:List Cnt):Int:=if 4096<ϲ v then 2 else if EG v then 0 else 1
def Lj{v:List Cnt}(h:4096<ϲ v):Av v=2:=by unfold Av;rw[AE h]
def Ou{v:List Cnt}(h:EG v):Av v=0:=by
 have c:=h.1;unfold Av;rw[AC ϣ,AE h]
def MP{v:List Cnt}(h1:¬4096<ϲ v)(i:Nat)(c:i<ϲ v)(h:¬Fx v i):Av v=1:=by
 unfold Av;rw[AC h1,AC (λd=>h (d.2 i c))]
def Bd(v:List Cnt):KV:=v.map λc=>(encR c.r,c.n)
theorem Zi{c:KV}(h:∀p∈c,bytesBefore p.1 k=true):Lh c k n=c++[(k,n)]:=by
 have j:Kl c k=c:=by
  unfold Kl;rw[dB];intro p f;have d:=h p f;by_cases e:p.1=k
  ·rw[e,EU]at d;exact absurd (Fd d) (gI k)
  ·simpa using e
 unfold Lh;rw[j];clear j
 induction c with
 |nil=>rfl
 |cons y r ih=>
  rw[insK];have d:=h y (E0 ..);have l:bytesBefore k y.1=false:=by
   rw[EU]at d⊢;exact BP (List.lt_asymm (Fd d))
  rw[l,AC Ϥ,ih (λp f=>h p (EQ _ f))];rfl
def Zj(v:List Cnt)(c:Cnt):Bd (v++[c])=Bd v++[(encR c.r,c.n)]:=by simp[Bd]
def XN(v:List Cnt)(k:Nat)(h:k<ϲ v):v.take (k+1)=v.take k++[v.getD k ϰ]:=by
 rw[M1 h];simp[gDe,h]
def PN{a b:List Cel}(ha:rowOk a)(j:rowOk b)(h:AH a b<0):bytesBefore (encR a) (encR b)=true:=by
 have f:=QQ a b ha.2 j.2;have c:=IP (encR a) (encR b);rw[EU];rw[f]at c;rw[c]at h;split at h
 ·rename_i d;rw[GM]at d;exact d
 ·split at h<;>omega
def RH{v:List Cnt}{i:Nat}(l:BK v)(j:i<ϲ v)(h:Fx v i):rowOk (v.getD i ϰ).r:=by
 have d:=h.1;unfold Aq at d;split at d
 ·cases d
 ·rename_i m;exact⟨ϣ,λc f=>⟨IU d c f,(Ir l i j).1 c f⟩⟩
def before_trans{a b c:List UInt8}(h1:bytesBefore a b=true)(d:bytesBefore b c=true):bytesBefore a c=true:=by
 rw[EU]at *;exact DB (List.lt_trans (Fd h1) (Fd d))
theorem Qv{v:List Cnt}(l:BK v)(k:Nat)(m:k<ϲ v)(h:∀i,i<=k->Fx v i):∀i,i<k->bytesBefore (encR (v.getD i ϰ).r) (encR (v.getD k ϰ).r)=true:=by
 induction k with
 |zero=>intro i d;exact absurd d (CA i)
 |succ k ih=>
  intro i d;have f:bytesBefore (encR (v.getD k ϰ).r) (encR (v.getD (k+1) ϰ).r)=true:=by
   have c:=h (k+1) nR;exact PN (RH l ϣ (h k ϣ)) (RH l m c) (by have:=c.2.2.2 ϣ;simpa using this)
  rcases Fm.1 d with c|c
  ·exact before_trans (ih ϣ (λj p=>h j ϣ) i c) f
  ·rw[c];exact f
def Agi{v:List Cnt}(m:BK v)(k:Nat)(l:k<ϲ v)(h:∀i,i<=k->Fx v i):∀p∈Bd (v.take k),bytesBefore p.1 (encR (v.getD k ϰ).r)=true:=by
 intro p d;unfold Bd at d;obtain⟨c,f,rfl⟩:=DS.1 d;obtain⟨i,j,rfl⟩:=LT f;rw[DA]at j;have e:(v.take k)[i]'(by rw[DA];omega)=v.getD i ϰ:=by
  rw[bY];simp[gDe,show i<ϲ v by omega]
 rw[e];exact Qv m k l h i ϣ
def Aeo{v:List Cnt}(d:BK v)(k:Nat)(c:k<ϲ v)(h:∀i,i<=k->Fx v i):Lh (Bd (v.take k)) (encR (v.getD k ϰ).r) (v.getD k ϰ).n=Bd (v.take (k+1)):=by
 rw[Zi (Agi d k c h),XN v k c,Zj]
def Zk{v:List Cnt}(q:BK v)(h:EG v):rising (Bd v):=by
 unfold rising Bd;rw[eY,aA];intro i j l c p;have d:v[i]=v.getD i ϰ:=by simp[gDe,l]
 have f:v[j]=v.getD j ϰ:=by simp[gDe,c]
 rw[d,f];exact Qv q j c (λm s=>h.2 m ϣ) i p
def AbA(n:Int)(w:ϟ):(Instr.makeMap 223 (some (.int .i64 n))).run Tryz.prog w= .ok (.map (some w.heap.size)) (w.alloc (.map #[] 0)):=by
 unfold Instr.makeMap;simp[aC underlying223,go_sem,asInt,Result.andThen]
def Zl(w:ϟ):Em (w.alloc (.map #[] 0)) w.heap.size 0 []:=World.ownsMap_made _ _ _ _
def Tu{nn:Nat}{c:KV}(h:w'.ownsMap Tryz.prog 9 (plainElem (H:=Unit) Tryz.prog 3) B (nn+1) ((toD c).put (.string k) (.lit (.int .i64 n)))):Em w' B (nn+1) (Lh c k n):=by
 rw[RG]at h;exact h
def Ov(h:Aq r=0)(f:B8 r):rowOk r:=by
 unfold Aq at h;split at h
 ·cases h
 ·rename_i j;exact⟨ϣ,λc d=>⟨IU h c d,f c d⟩⟩
def Zm{p:Nat->Prop}{j:Nat}(h:∀i,i<j->p i)(d:p j):∀i,i<=j->p i:=λi f=>by
 rcases RN i j with c|c
 ·exact h i c
 ·rw[show i=j by omega];exact d
def Cr(x:Int):IntKind.i64.wrap x=(x+9223372036854775808) % 18446744073709551616 - 9223372036854775808:=by
 simp only[IntKind.wrap,IntKind.signed,IntKind.bits];simp;split<;>omega
def Zn(v:List Cnt)(base:Nat)(e:Ending)(w':World):Prop:=
 (Av v=0/\EG v/\∃B,e= .returned (.tuple #[.map (some B),.int .i64 0])/\base<=B/\Em w' B (ϲ v) (Bd v))\/
 (Av v≠0/\e= .returned (.tuple #[.map none,.int .i64 (Av v)]))
def Lk{a b:Int}(h:a=b):Ending.returned (.tuple #[.map none,.int .i64 a])= .returned (.tuple #[.map none,.int .i64 b]):=by rw[h]
attribute [local go_sem ↓] Go.wp_at_zero Go.wp_at_succ
theorem Ow(a:Ϡ)(cap:Nat)(v:List Cnt)(w:ϟ)(hv:viewAt w a v)(Y:BK v)(hl:ϲ v<=ύ):
 χ 161 #[.slice a (ϲ v) cap] w λe w'=>Zn v w.heap.size e w'/\Ϣ w w':=by
 obtain⟨n,hn⟩:∃n,ϲ v=n:=⟨_,rfl⟩;have G:=hV0 hn;rw[hn]at hl⊢;clear hn;have bi:=AbA;by_cases h4:4096<n
 ·have f:ϡ (Av v=2):=Lj (by rw[G.o];exact h4);go_enter func161,ntmps161;go_wp2
  go_ret2
  exact⟨.inr ⟨by rw[f.o];decide,Lk f.o.symm⟩,bR⟩
 ·go_enter func161,ntmps161;go_wp2
  go_loopw [17] (λi wr=> ∃k:Nat,k<=n/\i= .int .i64 k/\Em wr w.heap.size k (Bd (v.take k))/\Ϣ w wr/\(∀i,i<k->Fx v i)) (λi _=>n - (intOf i).toNat)
  case atStart=>exact⟨0,ϣ,rfl,Zl w,Ϯ,λi N=>absurd N (CA i)⟩
  case round=>
   obtain⟨k,hk,rfl,ah,u,au⟩:=hrel;have I:=hV0 ah;have HA:=hV0 au;have O:=u.size;have bd:=Nv ah;clear ah au;by_cases a7:k<n
   ·have T:k<ϲ v:=by rw[G.o];exact a7
    obtain⟨b,o,q,y,e,x1,x2,x3⟩:=hv k T;subst e;obtain⟨aa,ab,a2,a3⟩:=Ir Y k T;have q1:=cLz u x1;have q3:=cLz u x3;have D:ϡ (vl.rowAt wr q (v.getD k ϰ).r):=Ac x2 u;have i1:=nn0 k;have i2:(k:Int)<(n:Int):=ϣ;have U:ϡ (¬Fx v k->Av v=1):=MP (by rw[G.o];exact h4) k T;have W:ϡ ((∀i,i<=k->Fx v i)->Lh (Bd (v.take k)) (encR (v.getD k ϰ).r) (v.getD k ϰ).n=Bd (v.take (k+1))):=Aeo Y k T;have ar:ϡ (Fx v k->rowOk (v.getD k ϰ).r):=λh=>RH Y T h;have F:ϡ (Fx v k↔Aq (v.getD k ϰ).r=0/\1<=(v.getD k ϰ).n/\(v.getD k ϰ).n<=1073741824/\(0<k->AH (v.getD (k - 1) ϰ).r (v.getD k ϰ).r<0)):=Iff.rfl;obtain⟨⟨r,m⟩,a5⟩:∃c,v.getD k ϰ=c:=⟨_,rfl⟩;rw[a5]at q1 q3 D W ar F aa ab a2 a3;dsimp only at q1 q3 D W ar F aa ab a2 a3;clear x1 x2 x3;obtain⟨E,X⟩:∃l,ϲ r=l:=⟨_,rfl⟩;rw[X]at q1;have K:ϡ (∀w,vl.rowAt w q r->CT 112 #[.slice q E y] w (ψ w (.tuple #[.string (FY r),.int .i64 (Aq r)]))):=by
     subst X;exact λw h=>J2 q y r w h aa ab
    by_cases R:Aq r=0
    ·by_cases e2:m<1
     ·have f:ϡ (Av v=1):=U.o (λh=>by have:=(F.o.1 h).2.1;omega);go_wp2_with (go_at_call 112;refine(K.o _ (Ac D.o Ϯ)).mono ?_;rintro e p ⟨rfl,d⟩;have L:=cLz d (a:=⟨wr,0,none⟩) (v:=.slice q E y) ϧ;have M:=cLz d (a:=⟨wr,1,none⟩) (v:=.int .i64 m) ϧ;have t:=(u.alloc O _).trans (d.mono Ϩ);have J:=C7 (EF I.o _) d;have A:Ϣ wr p:=Ϯ.trans (d.mono ϥ))
      go_ret2
      exact⟨.inr ⟨by rw[f.o];decide,Lk f.o.symm⟩,t⟩
     ·have a9:decide (m<1)=false:=BP e2;by_cases e3:1073741824<m
      ·have f:ϡ (Av v=1):=U.o (λh=>by have:=(F.o.1 h).2.2.1;omega);go_wp2_with (go_at_call 112;refine(K.o _ (Ac D.o Ϯ)).mono ?_;rintro e p ⟨rfl,d⟩;have L:=cLz d (a:=⟨wr,0,none⟩) (v:=.slice q E y) ϧ;have M:=cLz d (a:=⟨wr,1,none⟩) (v:=.int .i64 m) ϧ;have t:=(u.alloc O _).trans (d.mono Ϩ);have J:=C7 (EF I.o _) d;have A:Ϣ wr p:=Ϯ.trans (d.mono ϥ))
       go_ret2
       exact⟨.inr ⟨by rw[f.o];decide,Lk f.o.symm⟩,t⟩
      ·have ba:decide (1073741824<m)=false:=BP e3;have aj:rowOk r:=Ov R aa;have ap:ϡ ((FY r).data.toList=encR r):=LP aj;have ao:ϡ ((FY r).size<=maxLen):=B0 (UG aj) ϭ;obtain⟨ks,ax⟩:∃s,FY r=s:=⟨_,rfl⟩;rw[ax]at K ap ao;have aq:ϡ (keyOf Tryz.prog 9 (.string ks)=some (.string (encR r))):=by
        have h:=keyOf_string_mk underlying9 ao.o;rw[ap.o]at h;exact h
       clear ax aj;by_cases e4:k=0
       ·subst e4;simp only[bU,aE]at q1 q3;have f:ϡ (Fx v 0):=F.o.2 ⟨R,ϣ,ϣ,λh=>absurd h ϣ⟩;go_wp2_with (go_at_call 112;refine(K.o _ (Ac D.o Ϯ)).mono ?_;rintro e p ⟨rfl,d⟩;have L:=cLz d (a:=⟨wr,0,none⟩) (v:=.slice q E y) ϧ;have M:=cLz d (a:=⟨wr,1,none⟩) (v:=.int .i64 m) ϧ;have t:=(u.alloc O _).trans (d.mono Ϩ);have J:=C7 (EF I.o _) d;have A:Ϣ wr p:=Ϯ.trans (d.mono ϥ))
        go_quiet (fail)
        have ac:Em (p.drewN nq) w.heap.size 0 (Bd (v.take 0)):=J;have ay:=NK t nq;go_wp2_with (at_mapUpdate;refine fP _ rfl (.tmp 54) (.tmp 55) (.tmp 57) 223 rfl 9 3 law underlying223 _ w.heap.size 0 _ rfl ac ϭ _ _ (.string (encR r)) rfl rfl aq.o _ [] (dQ underlying3 (fQ ϣ)) ?_;intro w1 ak ai);go_roundw;exact⟨0+1,ϣ,by go_num,by rw[<-W.o (λi N=>by rw[show i=0 by omega];exact f.o)];exact Tu ak,ay.grown ai ay.size (λj hj=>by cases hj;exact HU _),λi N=>by rw[show i=0 by omega];exact f.o⟩;simp[intOf];omega
       ·obtain⟨j,rfl⟩:∃j,k=j+1:=⟨k - 1,ϣ⟩;have aw:j<ϲ v:=by rw[G.o];omega
        obtain⟨b',o',H,pc,e',y1,y2,y3⟩:=hv j aw
        cases e'
        have Z:=cLz u y1;have af:ϡ (vl.rowAt wr H (v.getD j ϰ).r):=Ac y2 u;obtain⟨a1,an,_,_⟩:=Ir Y j aw;have V:ϡ (Fx v (j+1)↔Aq r=0/\1<=m/\m<=1073741824/\(AH (v.getD j ϰ).r r<0)):=by
         show Fx v (j+1)↔_;rw[F.o];simp
        obtain⟨pr,a0⟩:∃c,(v.getD j ϰ).r=c:=⟨_,rfl⟩;rw[a0]at Z af V a1 an;clear y1 y2 y3 a0 F e4;obtain⟨pl,al⟩:∃l,ϲ pr=l:=⟨_,rfl⟩;rw[al]at Z;have KR:ϡ (∀w,vl.rowAt w H pr->vl.rowAt w q r->CT 220 #[.slice H pl pc,.slice q E y] w (ψ w (.int .i64 (AH pr r)))):=by
         subst al X;exact λw h h'=>Ta H q pc y pr r w h h' an ab
        have be:(0:Int)<((j:Int)+1):=ϣ;have bg:((j:Int))<(n:Int):=ϣ;have bh:=nn0 j;have bj:IntKind.i64.wrap ((j:Int)+1 - 1)=(j:Int):=by rw[Cr];omega
        have bk:IntKind.i64.wrap (j:Int)=(j:Int):=by rw[Cr];omega
        obtain⟨cc,av⟩:∃c,AH pr r=c:=⟨_,rfl⟩;rw[av]at KR V;clear av al X a1 an;by_cases e5:0<=cc
        ·have f:ϡ (Av v=1):=U.o (λh=>by have:=(V.o.1 h).2.2.2;omega);go_wp2_with (go_at_call 112;refine(K.o _ (Ac D.o Ϯ)).mono ?_;rintro e p ⟨rfl,d⟩;have L:=cLz d (a:=⟨wr,0,none⟩) (v:=.slice q E y) ϧ;have M:=cLz d (a:=⟨wr,1,none⟩) (v:=.int .i64 m) ϧ;have t:=(u.alloc O _).trans (d.mono Ϩ);have J:=C7 (EF I.o _) d;have A:Ϣ wr p:=Ϯ.trans (d.mono ϥ));have am:=cLz A Z;have ae:ϡ (vl.rowAt p.drew H pr):=Ac af.o A.drew;have ag:ϡ (vl.rowAt p.drew q r):=Ac D.o A.drew
         go_region_held3 (λw'=>Δ w' b (o+j * 2) (.slice H pl pc)/\Δ w' wr 0 (.slice q E y)) (first|go_keep|exact⟨cLz z am,cLz z L⟩)
          (first|(go_at_call 220;refine(KR.o p.drew ae.o ag.o).mono ?_;rintro e wq ⟨rfl,z⟩))
         all_goals
          go_wp2
          go_ret2
          exact⟨.inr ⟨by rw[f.o];decide,Lk f.o.symm⟩,by first|exact bT t z|exact t.drew.trans (z.mono t.size)⟩
        ·have f:ϡ (Fx v (j+1)):=V.o.2 ⟨R,ϣ,ϣ,ϣ⟩;have bb:¬0<=cc:=e5;go_wp2_with (go_at_call 112;refine(K.o _ (Ac D.o Ϯ)).mono ?_;rintro e p ⟨rfl,d⟩;have L:=cLz d (a:=⟨wr,0,none⟩) (v:=.slice q E y) ϧ;have M:=cLz d (a:=⟨wr,1,none⟩) (v:=.int .i64 m) ϧ;have t:=(u.alloc O _).trans (d.mono Ϩ);have J:=C7 (EF I.o _) d;have A:Ϣ wr p:=Ϯ.trans (d.mono ϥ));have am:=cLz A Z;have ae:ϡ (vl.rowAt p.drew H pr):=Ac af.o A.drew;have ag:ϡ (vl.rowAt p.drew q r):=Ac D.o A.drew
         go_region_held3 (λw'=>Δ w' b (o+j * 2) (.slice H pl pc)/\Δ w' wr 0 (.slice q E y)) (first|go_keep|exact⟨cLz z am,cLz z L⟩)
          (first|(go_at_call 220;refine(KR.o p.drew ae.o ag.o).mono ?_;rintro e wq ⟨rfl,z⟩))
         all_goals
          have az:Ϣ w wq:=by first|exact bT t z|exact t.drew.trans (z.mono t.size)
          have bc:=cLz z M;have ac:Em p.drew w.heap.size (j+1) (Bd (v.take (j+1))):=J;have a4:=C7 ac z;go_wp2_with (at_mapUpdate;refine fP _ rfl (.tmp 54) (.tmp 55) (.tmp 57) 223 rfl 9 3 law underlying223 _ w.heap.size (j+1) _ rfl a4 ϭ _ _ (.string (encR r)) rfl rfl aq.o _ [] (dQ underlying3 (fQ ϣ)) ?_;intro w1 ak ai);go_roundw;exact⟨j+1+1,ϣ,by go_num,by rw[<-W.o (Zm HA.o f.o)];exact Tu ak,az.grown ai az.size (λx hx=>by cases hx;exact HU _),λi N=>by
           rcases RN i (j+1)with h|h
           ·exact HA.o i h
           ·rw[show i=j+1 by omega];exact f.o⟩
          simp[intOf];omega
    ·have a8:(Aq r==0)=false:=by simpa using R
     have f:ϡ (Av v=1):=U.o (λh=>R (F.o.1 h).1);go_wp2_with (go_at_call 112;refine(K.o _ (Ac D.o Ϯ)).mono ?_;rintro e p ⟨rfl,d⟩;have L:=cLz d (a:=⟨wr,0,none⟩) (v:=.slice q E y) ϧ;have M:=cLz d (a:=⟨wr,1,none⟩) (v:=.int .i64 m) ϧ;have t:=(u.alloc O _).trans (d.mono Ϩ);have J:=C7 (EF I.o _) d;have A:Ϣ wr p:=Ϯ.trans (d.mono ϥ))
     go_ret2
     exact⟨.inr ⟨by rw[f.o];decide,Lk f.o.symm⟩,t⟩
   ·have a6:k=n:=ϣ;have HT:ϡ (v.take k=v):=KI (by rw[G.o];omega);have HO:ϡ (EG v):=⟨by rw[G.o];omega,λi N=>HA.o i (by rw[G.o]at N;omega)⟩;go_wp2
    go_ret2
    exact⟨.inl ⟨Ou HO.o,HO.o,w.heap.size,rfl,HU _,by have h:=I.o;rw[HT.o,a6]at h;rw[G.o];exact h⟩,u⟩
def Ll:(Tryz.prog.info? 83).map (λi=>(i.zero,i.size,i.bytes))=some (some (.agg #[.slice none 0 0,.int .i64 0]),2,32):=Ϧ
def Hu(r:List Cel)(k:ByteArray)(w:ϟ)(h:rowOk r)(j:encR r=k.data.toList)(l:k.size<=maxLen):
 χ 231 #[.string k] w λe w'=>(∃ad cap,e= .returned (.slice ad (ϲ r) cap)/\AF w' w (.slice ad (ϲ r) cap) r)/\Ϣ w w':=by
 obtain⟨n,d⟩:∃n,ϲ r=n:=⟨_,rfl⟩;have c:=UE k r w l h j;rw[d]at c⊢;clear d;go_enter func231,ntmps231;go_wp2_with fail;refine c.mono ?_;rintro e w1 ⟨⟨ad,cap,rfl,m⟩,f⟩;go_wp2;go_ret;exact⟨⟨ad,cap,rfl,m⟩,f⟩
def own_below{n:Nat}(h:w.ownsRow base e size v n xs)(p:Ϣ w w'):w'.ownsRow base e size v n xs:=by
 refine⟨h.1,?_⟩;rcases h.2 with j|⟨g,cap,f,s,l,c,m⟩
 ·exact .inl j
 ·have d:g<w.heap.size:=by
   rcases RN g w.heap.size with d|q
   ·exact d
   ·rw[bZ q]at c;cases c
  exact .inr ⟨g,cap,f,s,l,by rw[p.block g d];exact c,m⟩
def flat(l:List (Value×Int)):List Value:=l.flatMap λp=>[p.1,.int .i64 p.2]
def DC(l:List (Value×Int))(x:Value)(n:Int):flat (l++[(x,n)])=flat l++[x,.int .i64 n]:=by
 unfold flat;rw[SN];simp
theorem AbB{ops:Array Oper}{o:Oper}{a:Act}{K:Act->World->Prop}{Q:Exit->Act->World->Prop}{E:Prop}(y:o.guard=none)(s x:Operand)
 (D:o.op= .call {callee:=.builtin .append,args:=#[s,x],argTypes:=#[40,40]})
 (base:Nat) (v:Value) (l:List (Value×Int)) (n:Int) (ad:Ϡ) (f cap:Nat) (w1:ϟ) (c:Nat) (O:ϲ l=c) (A:w1.ownsRow base 83 2 v c (flat l)) (N:c<=1000000) (M:base<=w1.heap.size)
 (F:a.eval s=v) (G:a.eval x= .slice (ϋ w1) 1 1)
 (h:∀g d w2,w2.ownsRow base 83 2 (.slice (ϋ g) (c+1) d) (c+1) (flat (l++[(.slice ad f cap,n)]))->(w1.alloc (.cells #[.slice ad f cap,.int .i64 n] 83)).grownBy w2 v.ownBlock->(v.ownBlock=some g\/g=w1.heap.size+1)->g<w2.heap.size->K (a.put o.dst (.slice (ϋ g) (c+1) d)) w2):
 if Region.wanted o (yielded ops a.tmps)=true then Oper.wp Tryz.prog o a (ϊ w1 #[.slice ad f cap,.int .i64 n] 83) K Q else E:=by
 obtain⟨L,z,H,I,J⟩:=IR Ll;refine step_append_lies _ y s x 40 D base 83 L (.agg #[.slice none 0 0,.int .i64 0]) 2 32 underlying40 z H I J rfl Ϥ v c (flat l) F
  (A.alloc _) ⟨w1,0,none⟩ 1 1 [.slice ad f cap,.int .i64 n] G rfl (fx _ _ _ _) (by intro u j;simp at j;rcases j with rfl|rfl<;>rfl) Ϥ ϭ ϣ Ϩ (w1.heap.size+1) ϥ ?_
 intro g d w2 m p q t;exact h g d w2 (by rw[DC];exact m) p q t
def Tv{o:Obj}(d:(w1.alloc o).grownBy w2 row)(c:Δ w1 C 0 v)(j:row≠some C):Δ w2 C 0 v:=by
 have f:=bLt _ _ c;refine d.cell ?_ (λh=>j h.symm);rw[World.cell?_alloc_lt]
 ·exact c
 ·exact f
def Ox{o:Obj}(j:(w1.alloc o).grownBy w2 row)(d:Δ w1 C 0 v)(q:row≠some C)(f:Ξ w1 C 0):Ξ w2 C 0:=by
 have l:=bLt _ _ d;have m:C<w1.heap.size:=l;rw[j.frozen_far ⟨C,0,none⟩ Ϩ (λh=>q h.symm)];have c:=((RK w1.heap.size w1).alloc nR o).frozen (p:=⟨C,0,none⟩) m;exact c.trans f
theorem AbC(C base:Nat)(k:ByteArray)(n:Int)(v:Value)(l:List (Value×Int))(r:List Cel)(w:ϟ)(E:Δ w C 0 v)(T:Ξ w C 0)
 (u:w.ownsRow base 83 2 v (ϲ l) (flat l)) (D:v.ownBlock≠some C) (G:ϲ l<=1000000) (O:base<=w.heap.size) (Y:rowOk r) (U:encR r=k.data.toList) (V:k.size<=maxLen):
 χ 230 #[.string k,.int .i64 n,ω C] w λe w'=>e= .returned (.tuple #[])/\∃w1 w2 ad cap g d,
  Below w.drew.heap.size w.drew w1/\AF w1 w (.slice ad (ϲ r) cap) r/\w2.ownsRow base 83 2 (.slice (ϋ g) (ϲ l+1) d) (ϲ l+1) (flat (l++[(.slice ad (ϲ r) cap,n)]))/\
  (w1.alloc (.cells #[.slice ad (ϲ r) cap,.int .i64 n] 83)).grownBy w2 v.ownBlock/\(v.ownBlock=some g\/g=w1.heap.size+1)/\w'=w2.setCell ⟨C,0,none⟩ (.slice (ϋ g) (ϲ l+1) d):=by
 have R:=bLt _ _ E;have h:=Hu r k w.drew Y U V;obtain⟨A,y⟩:∃x,ϲ r=x:=⟨_,rfl⟩;have m:=hV0 y;rw[y]at h;obtain⟨z,t⟩:∃x,ϲ l=x:=⟨_,rfl⟩;have j:=hV0 t;rw[t]at u G;obtain⟨f,F,H,I,J⟩:=IR Ll;have Z:ϡ (Tryz.prog.info? 83=some f/\f.zero=some (.agg #[.slice none 0 0,.int .i64 0])/\f.size=2/\f.bytes=32):=⟨F,H,I,J⟩;have K:ϡ (CT 231 #[.string k] w.drew λe w'=>(∃ad cap,e= .returned (.slice ad A cap)/\AF w' w.drew.heap.size (.slice ad A cap) r)/\Below w.drew.heap.size w.drew w'):=h;have L:ϡ (w.drew.ownsRow base 83 2 v z (flat l)):=u.drew;clear h y t F H I J u;go_enter func230,ntmps230;go_wp2
 go_region_law (first
  |(refine AbB (by rfl) (.tmp 5) (.tmp 10) (by rfl) base v l n ad A cap w1 z j.o M.o G (B0 O c.size) (by rfl) (by rfl) ?_;intro g d w2 X s N ae;have ab:Δ w2 C 0 v:=Tv s q D;have ac:Ξ w2 C 0:=Ox s q D ((c.frozen (p:=⟨C,0,none⟩) R).trans T))
  |(go_simp;go_at_call 231;refine K.o.mono ?_;rintro e w1 ⟨⟨ad,cap,rfl,W⟩,c⟩;have q:Δ w1 C 0 v:=cLz c E;have aa:∀o,Δ (w1.alloc o) C 0 v:=λo=>cLz (bR.alloc nR o) q;have M:ϡ (w1.ownsRow base 83 2 v z (flat l)):=own_below L.o c))
 all_goals
  go_wp2
  go_end0
  refine⟨rfl,w1,w2,ad,cap,g,d,c,?_,?_,?_,N,?_⟩
  ·rw[m.o];exact W
  ·rw[j.o,m.o];exact X
  ·rw[m.o];exact s
  ·rw[j.o]
def A4{n:Nat}(h:w.ownsRow base e size v n xs)(m:∀g,v.ownBlock=some g->w'.heap[g]? =w.heap[g]?):w'.ownsRow base e size v n xs:=by
 refine⟨h.1,?_⟩;rcases h.2 with f|⟨g,cap,d,c,j,p,l⟩
 ·exact .inl f
 ·exact .inr ⟨g,cap,d,c,j,by rw[m g (by rw[c];rfl)];exact p,l⟩
structure fr(C:Nat)(o:Option Nat)(w w':World):Prop where
 os:w'.os=w.os
 tape:w'.tape=w.tape
 output:w'.output=w.output
 size:w.heap.size<=w'.heap.size
 block:∀b,b<w.heap.size->b≠C->o≠some b->w'.heap[b]? =w.heap[b]?
def AbD{a:ϟ}(h:Below B a w)(k:fr C o w w')(f:B<=C)(c:∀b,o=some b->B<=b)(d:B<=w.heap.size):Below B a w':=
 h.trans ⟨k.os,k.tape,k.output,k.size,λb j=>k.block b ϣ ϣ (λe=>by have:=c b e;omega)⟩
def AbE(h:Ϣ w w'):fr C o w w':=⟨h.os,h.tape,h.output,h.size,λb c _ _=>h.block b c⟩
def Tw{c:Option Nat}(h:fr C o w w1)(k:fr C c w1 w2)(m:c=o\/∃g,c=some g/\w.heap.size<=g):fr C o w w2:=
 ⟨k.os.trans h.os,k.tape.trans h.tape,k.output.trans h.output,B0 h.size k.size,λb f d j=>by
  have l:=h.block b f d j;rw[<-l];refine k.block b (NE f h.size) d ?_;rcases m with rfl|⟨g,rfl,p⟩
  ·exact j
  ·intro e;cases e;omega⟩
def Aep(h:fr C o w w'){p:Addr}(f:p.block<w.heap.size)(c:p.block≠C)(d:o≠some p.block):w'.cell? p=w.cell? p:=cOb (w:=w) (h.block p.block f c d)
structure VS(w:World)(C base:Nat)(v:Value)(out:List Cnt):Prop where
 cell:Δ w C 0 v
 frz:Ξ w C 0
 apart:v.ownBlock≠some C
 low:base<=w.heap.size
 rows:∃l:List (Value×Int),ϲ l=ϲ out/\w.ownsRow base 83 2 v (ϲ l) (flat l)/\∀i,i<ϲ out->
  (l.getD i (.bool false,0)).2=(out.getD i ϰ).n/\∃ad cap,(l.getD i (.bool false,0)).1= .slice ad (ϲ (out.getD i ϰ).r) cap/\AF w base (.slice ad (ϲ (out.getD i ϰ).r) cap) (out.getD i ϰ).r/\
   ∀g,(Value.slice ad (ϲ (out.getD i ϰ).r) cap).ownBlock=some g->g≠C/\v.ownBlock≠some g
def AL{n:Nat}(h:w.ownsRow base e size v n xs)(c:v.ownBlock=some g):base<=g/\g<w.heap.size:=aB h g c
def Ln{α:Type}(l:List α)(x d:α)(i:Nat)(h:i<ϲ l):(l++[x]).getD i d=l.getD i d:=by
 simp only[gDe,aM h]
def Lo{α:Type}(l:List α)(x d:α)(i:Nat)(h:i=ϲ l):(l++[x]).getD i d=x:=by
 subst h;simp[gDe]
theorem Aeq{out:List Cnt}{l:List (Value×Int)}{ad:Ϡ}{cap cap2:Nat}(h:VS w C base v out)
 (Y:ϲ l=ϲ out) (Z:w.ownsRow base 83 2 v (ϲ l) (flat l)) (aa:∀i,i<ϲ out->
 (l.getD i (.bool false,0)).2=(out.getD i ϰ).n/\∃ad cap,(l.getD i (.bool false,0)).1= .slice ad (ϲ (out.getD i ϰ).r) cap/\AF w base (.slice ad (ϲ (out.getD i ϰ).r) cap) (out.getD i ϰ).r/\
  ∀g,(Value.slice ad (ϲ (out.getD i ϰ).r) cap).ownBlock=some g->g≠C/\v.ownBlock≠some g)
 (f:Below w.drew.heap.size w.drew w1) (z:AF w1 w (.slice ad (ϲ r) cap) r) (ab:w2.ownsRow base 83 2 (.slice (ϋ g) (ϲ l+1) cap2) (ϲ l+1) (flat (l++[(.slice ad (ϲ r) cap,n)])))
 (j:(w1.alloc (.cells #[.slice ad (ϲ r) cap,.int .i64 n] 83)).grownBy w2 v.ownBlock) (s:v.ownBlock=some g\/g=w1.heap.size+1):
 VS (ό w2 C 0 (.slice (ϋ g) (ϲ l+1) cap2)) C base (.slice (ϋ g) (ϲ l+1) cap2) (out++[⟨r,n⟩])/\fr C v.ownBlock w (ό w2 C 0 (.slice (ϋ g) (ϲ l+1) cap2)):=by
 have T:C<w.heap.size:=bLt _ _ h.cell;have ac:w.heap.size<=w1.heap.size:=f.size;have ae:w1.heap.size+1<=w2.heap.size:=by have:=j.size;simpa using this
 have H:Δ w1 C 0 v:=cLz f h.cell;have V:Ξ w1 C 0:=(f.frozen (p:=⟨C,0,none⟩) T).trans h.frz;have U:=Tv j H h.apart;have W:=Ox j H h.apart V;have L:∀b,v.ownBlock=some b->base<=b/\b<w.heap.size:=λb c=>AL Z c;have I:g≠C:=by
  rcases s with d|d
  ·intro e;subst e;exact h.apart d
  ·omega
 have G:∀b,b<w1.heap.size->b≠C->v.ownBlock≠some b->(w2.setCell ⟨C,0,none⟩ (.slice (ϋ g) (ϲ l+1) cap2)).heap[b]? =w1.heap[b]? :=λb c x y=>by
  rw[Below.heap_setCell _ _ _ b x,j.block b Ϩ (λe=>y e.symm)];exact LE _ _ b c
 have u:fr C v.ownBlock w (ό w2 C 0 (.slice (ϋ g) (ϲ l+1) cap2)):=by
  have m:=(((f.mono (At _)).alloc (At _) (.cells #[.slice ad (ϲ r) cap,.int .i64 n] 83)).grown j (At _) (λ_ _=>At _)).setCell (p:=⟨C,0,none⟩) (At _) (.slice (ϋ g) (ϲ l+1) cap2);exact⟨m.os,m.tape,m.output,m.size,λb c x y=>(G b ϣ x y).trans (f.block b c)⟩
 refine⟨⟨JR _ _ _ U,by rw[aD];exact W,λe=>I (by cases e;rfl),B0 h.low u.size,?_⟩,u⟩;refine⟨l++[(.slice ad (ϲ r) cap,n)],by rw[lAp,lAp,Y];rfl,?_,?_⟩
 ·rw[lAp];refine A4 ab (λb c=>?_);have:b=g:=by cases c;rfl
  subst this;exact Below.heap_setCell _ _ _ b I
 ·intro i J;rw[lAp]at J;by_cases K:i<ϲ out
  ·rw[Ln out _ _ i K,Ln l _ _ i ϣ];obtain⟨O,M,N,R,q,E⟩:=aa i K;refine⟨O,M,N,R,?_,?_⟩
   ·refine A4 q (λb c=>?_);obtain⟨A,D⟩:=E b c;exact u.block b (AL q c).2 A D
   ·intro b c;obtain⟨A,D⟩:=E b c;refine⟨A,λe=>?_⟩;have t:g=b:=by cases e;rfl
    subst t;rcases s with d|d
    ·exact D d
    ·have:=(AL q c).2;omega
  ·have X:i=ϲ out:=by simp at J;omega
   rw[Lo out _ _ i X,Lo l _ _ i ϣ];refine⟨rfl,ad,cap,rfl,?_,?_⟩
   ·refine A4 (World.ownsRow.mono z h.low) (λb c=>?_);have F:=AL z c;exact G b F.2 ϣ (λe=>by have:=(L b e).2;omega)
   ·intro b c;have F:=AL z c;refine⟨ϣ,λe=>?_⟩;have t:g=b:=by cases e;rfl
    subst t;rcases s with d|d
    ·have:=(L g d).2;omega
    ·omega
end ch
namespace ch
open vl
variable {w w' : ϟ} {C base : Nat} {v : Value}
def Zo(l:List UInt8):encStr l= .string ⟨l.toArray⟩:=rfl
def Lp{e:TypeId}{size:Nat}{n:Nat}{xs:List Value}(h:w.ownsRow base e size v n xs):∃ad cap,v= .slice ad n cap/\(0<n->∃g,ad=some ⟨g,0,none⟩):=by
 rcases h.2 with⟨rfl,c⟩|⟨g,cap,d,rfl,_⟩
 ·exact⟨none,0,by rw[c],λh=>absurd c ϣ⟩
 ·exact⟨_,_,rfl,λ_=>⟨g,rfl⟩⟩
def AbF{c:KV}{g cap:Nat}(h:w.ownsRow base 9 1 (.slice (ϋ g) (ϲ c) cap) (ϲ c) ((c.map (·.1)).map encStr))(i:Nat)(f:i<ϲ c):Δ w g i (.string ⟨(c.getD i ([],0)).1.toArray⟩):=by
 have d:=RT h (g:=g) rfl i (.string ⟨(c.getD i ([],0)).1.toArray⟩) (by
  simp only[aR,L7,gEe f,cT,Function.comp,gDe,bF,Zo])
 have e:(⟨g,0,none⟩:Addr).add i=⟨g,i,none⟩:=by unfold Addr.add;split<;>simp_all
 rw[e]at d;exact d
def Lq(v:List Cnt):ϲ (Bd v)=ϲ v:=by simp[Bd]
def Aer(v:List Cnt)(i:Nat)(c:i<ϲ v):(Bd v).getD i ([],0)=(encR (v.getD i ϰ).r,(v.getD i ϰ).n):=by
 simp[Bd,gDe,c]
theorem Aes{c:KV}(s:rising c)(i:Nat)(j:i<ϲ c):Ff c (c.getD i ([],0)).1=(c.getD i ([],0)).2:=by
 induction c generalizing i with
 |nil=>exact absurd j (CA i)
 |cons p r ih=>
  cases i with
  |zero=>simp[Ff]
  |succ i=>
   have d:=WF.1 s;have l:i<ϲ r:=by simpa using j
   have e:(p::r).getD (i+1) ([],0)=r.getD i ([],0):=rfl;rw[e];have m:r.getD i ([],0)∈r:=by simp[gDe,l]
   have q:¬p.1=(r.getD i ([],0)).1:=λe=>by
    have f:=d.1 _ m;rw[e,EU]at f;exact absurd (Fd f) (gI _)
   have h:=ih d.2 i l;unfold Ff at h⊢;rw[find?_cons_of_neg (by simpa using q)];exact h
def Aet{B nn:Nat}{o:Option Nat}{c:KV}(h:Em w B nn c)(k:fr C o w w')(q:B≠C)(t:o≠some B):Em w' B nn c:=by
 have s:=Nv h;obtain⟨f,d,j,l,m,p⟩:=h;exact⟨f,d,by rw[k.block B s q t];exact j,l,m,p⟩
def AbG{out:List Cnt}(h:VS w C base v out)(c:Ϣ w w'):VS w' C base v out:=by
 have u:C<w.heap.size:=bLt _ _ h.cell;obtain⟨l,q,s,t⟩:=h.rows;refine⟨cLz c h.cell,(c.frozen (p:=⟨C,0,none⟩) u).trans h.frz,h.apart,B0 h.low c.size,l,q,own_below s c,λi x=>?_⟩;obtain⟨d,ad,cap,f,j,m⟩:=t i x;exact⟨d,ad,cap,f,own_below j c,m⟩
def AbH(v:List Cnt)(k:Nat)(h:k<ϲ v)(r:List Cel)(n:Int)(e:v.getD k ϰ=⟨r,n⟩):v.take (k+1)=v.take k++[⟨r,n⟩]:=by rw[XN v k h,e]
theorem Zp(B nn:Nat)(out:List Cnt)(C base:Nat)(f:Value)(w:ϟ)(T:Em w B nn (Bd out))(hr:rising (Bd out))(aq:∀c∈out,rowOk c.r)(bc:ϲ out<=100000)
 (u:VS w C base f []) (a6:B≠C) (a7:f.ownBlock≠some B):
 χ 229 #[.map (some B),.func (.func 230) #[] #[ω C]] w λe w'=>e= .returned (.tuple #[])/\∃v,VS w' C base v out/\fr C f.ownBlock w w':=by
 have X:=hV0 T;have Y:=hV0 hr;have HV:=hV0 u;have a2:=hV0 aq;have bi:=Nv T;have bj:C<w.heap.size:=bLt _ _ u.cell;clear T hr u aq;have aj:=Lq out;obtain⟨n,E⟩:∃n,ϲ out=n:=⟨_,rfl⟩;have H:=hV0 E;have D:ϡ (ϲ (Bd out)=n):=by show(ϲ (Bd out))=n;rw[aj,E]
 rw[E]at bc;clear aj E;go_enter func229,ntmps229;go_wp2_with fail;refine(Ab9 B _).mono ?_;rintro e w' ⟨rfl,rfl⟩;go_wp2_with fail;refine(VU B nn (Bd out) w X.o Y.o (by rw[D.o];omega)).mono ?_;rintro e w1 ⟨⟨v,rfl,U⟩,ae⟩;obtain⟨ks,kc,u,ak⟩:=Lp U;rw[D.o]at u ak;subst u;have a4:=hV0 U;have K:Ϣ w w1:=Ϯ.trans (ae.mono ϣ);have bk:w.heap.size+1<=w1.heap.size:=by have:=ae.size;simpa using this
 clear U;have ap:∀b,f.ownBlock=some b->b<w.heap.size:=λb hb=>by
  obtain⟨l,_,s,_⟩:=HV.o.rows;exact(AL s hb).2
 have a1:=hV0 ap;have a5:ϡ (VS w1 C base f []):=AbG HV.o K;have a0:ϡ (Em w1 B nn (Bd out)):=C7 X.o K;clear ap;go_wp2
 go_loopw [10] (λi wr=> ∃(k:Nat) (v:Value),k<=n/\i= .int .i64 k/\VS wr C base v (out.take k)/\fr C f.ownBlock w1 wr/\(v.ownBlock=f.ownBlock\/∃g,v.ownBlock=some g/\w1.heap.size<=g)) (λi _=>n - (intOf i).toNat)
 case atStart=>exact⟨0,f,ϣ,rfl,a5.o,⟨rfl,rfl,rfl,HU _,λ_ _ _ _=>rfl⟩,.inl rfl⟩
 case round=>
  obtain⟨k,v,hk,rfl,au,ah,ar⟩:=hrel;have j:=hV0 au;have y:=hV0 ah;have aa:=hV0 ar;clear au ah ar;by_cases ao:k<n
  ·obtain⟨z,ba⟩:=ak ϣ;subst ba;have O:k<ϲ out:=by rw[H.o];exact ao
   have ai:k<ϲ (Bd out):=by rw[D.o];exact ao
   have F:=a4.o;rw[<-D.o]at F;have a9:=AL F (g:=z) rfl;have ag:=AbF F k ai;have A:Δ wr z k (.string ⟨((Bd out).getD k ([],0)).1.toArray⟩):=(Aep y.o (p:=⟨z,k,none⟩) a9.2 (show z≠C by omega) (λe=>by have:=a1.o z e;omega)).trans ag;have av:ϡ (Em wr B nn (Bd out)):=Aet a0.o y.o a6 a7;have q:=Aes Y.o k ai;have t:rowOk (out.getD k ϰ).r:=a2.o _ (by simp[gDe,O]);rw[Aer out k O]at A q;dsimp only at A q;obtain⟨⟨r,m⟩,M⟩:∃c,out.getD k ϰ=c:=⟨_,rfl⟩;have I:ϡ (out.take (k+1)=out.take k++[⟨r,m⟩]):=AbH out k O r m M;rw[M]at A q t;dsimp only at A q t;have a3:=hV0 t;have a8:=DU r (λc L=>(t.2 c L).1);have bg:=t.1;obtain⟨d,N⟩:∃x,(⟨(encR r).toArray⟩:ByteArray)=x:=⟨_,rfl⟩;have G:ϡ (encR r=d.data.toList):=by show encR r=d.data.toList;rw[<-N]
   have V:ϡ (d.size<=maxLen):=by
    show d.size<=maxLen;rw[<-A2,<-G.o];unfold maxLen;omega
   rw[N]at A;have aw:ϡ (Ff (Bd out) d.data.toList=m):=by show Ff (Bd out) d.data.toList=m;rw[<-G.o];exact q
   clear M N q t a8 bg ag F;obtain⟨l,R,am,an⟩:=j.o.rows;have ay:=hV0 R;have W:=hV0 am;have az:=hV0 an;have al:ϲ l<=1000000:=by rw[R,DA,H.o];omega
   have ax:=hV0 al;clear R am an al;have i1:=nn0 k;have i2:(k:Int)<(n:Int):=ϣ;go_wp2_with (first
    |(at_lookup;refine cK _ rfl (.tmp 16) (.tmp 17) 223 rfl 9 3 .i64 law underlying223 underlying3 (IA _) B nn _ rfl av.o _ (.string d.data.toList) rfl (keyOf_string_mk underlying9 V.o) ?_;intro c ab bo;have L:c=m:=(Iq ab).trans aw.o;clear ab;subst L)
    |(go_at_call 230;refine(AbC C base d _ v l r wr j.o.cell j.o.frz W.o j.o.apart ax.o j.o.low a3.o G.o V.o).mono ?_;rintro e w9 ⟨rfl,w2,w3,ad,cap,g,bh,af,bd,be,bb,ac,rfl⟩))
   have Z:=Aeq j.o ay.o W.o az.o af bd be bb ac;have bn:=y.o.size;have bm:wr.heap.size<=w2.heap.size:=af.size;go_roundw;exact⟨k+1,_,ϣ,by go_num,by rw[I.o];exact Z.1,Tw y.o Z.2 aa.o,by
    rcases ac with J|J
    ·rcases aa.o with s|⟨g',s,h3⟩
     ·exact .inl (by rw[<-s,J];rfl)
     ·exact .inr ⟨g,rfl,by rw[J]at s;cases s;exact h3⟩
    ·exact .inr ⟨g,rfl,ϣ⟩⟩
   simp[intOf];omega
  ·have I:ϡ (out.take k=out):=KI (by rw[H.o];omega);go_wp2
   go_end0
   exact⟨rfl,v,by have h:=j.o;rw[I.o]at h;exact h,Tw (AbE K) y.o (.inl rfl)⟩
theorem Aeu(l:List (Value×Int))(i:Nat)(c:i<ϲ l):(flat l)[i * 2]? =some (l.getD i (.bool false,0)).1/\(flat l)[i * 2+1]? =some (.int .i64 (l.getD i (.bool false,0)).2):=by
 induction l generalizing i with
 |nil=>exact absurd c (CA i)
 |cons p r ih=>
  have e:flat (p::r)=p.1:: .int .i64 p.2::flat r:=rfl;rw[e]
  cases i with
  |zero=>exact⟨rfl,rfl⟩
  |succ i=>
   have:=ih i (by simpa using c);rw[show(i+1) * 2=i * 2+1+1 by omega];simpa using this
def addr_add(g j:Nat):((⟨g,0,none⟩:Addr).add j)=⟨g,0+j,none⟩:=by unfold Addr.add;split<;>simp_all
def Agj{out:List Cnt}(h:VS w C base v out):∃ad cap,v= .slice ad (ϲ out) cap:=by
 obtain⟨l,c,d,j⟩:=h.rows;obtain⟨ad,cap,f,_⟩:=Lp d;exact⟨ad,cap,by rw[f,c]⟩
variable {B b cap i n nn:Nat} {a:Int} {k:List UInt8} {r:List Cel} {ad:Ϡ}
def ob{c x:Nat}(h:(Value.slice (ϋ b) n c).ownBlock=some x):x=b:=by cases h;rfl
structure Chg where
 k:Int
 r:List Cel
instance:Inhabited Chg:=⟨⟨0,[]⟩⟩
def Gp(w:World)(a:Option Addr)(l:List Chg):Prop:=
 ∀i,i<ϲ l->∃b off ra rc,a=some ⟨b,off,none⟩/\Δ w b (off+i * 2) (.int .i64 (l.getD i ϰ).k)/\Δ w b (off+i * 2+1) (.slice ra (ϲ (l.getD i ϰ).r) rc)/\vl.rowAt w ra (l.getD i ϰ).r
def Gq(l:List Chg):Prop:=∀c∈l,B8 c.r/\(ϲ c.r)<=ύ/\(-9223372036854775808<=c.k/\c.k<=9223372036854775807)
def AbI{l:List Chg}(h:Gq l)(k:Nat)(c:k<ϲ l):B8 (l.getD k ϰ).r/\(ϲ (l.getD k ϰ).r)<=ύ/\(-9223372036854775808<=(l.getD k ϰ).k/\(l.getD k ϰ).k<=9223372036854775807):=
 h _ (by simp[gDe,c])
def Lr{a:Ϡ}{l:List Chg}(h:Gp w a l)(c:Ϣ w w'):Gp w' a l:=by
 intro i d;obtain⟨b,o,f,j,e,m,p,q⟩:=h i d;exact⟨b,o,f,j,e,cLz c m,cLz c p,Ac q c⟩
def BL(l:List Chg)(i:Nat):Bool:=
 if (l.getD i ϰ).k=3 then decide (i+1<ϲ l)&&decide ((l.getD (i+1) ϰ).k=4)else if (l.getD i ϰ).k=4 then decide (0<i)&&decide ((l.getD (i - 1) ϰ).k=3)else true
def Hh(l:List Chg)(i:Nat):Int:=
 if (l.getD i ϰ).k<1\/4<(l.getD i ϰ).k then 4 else if Aq (l.getD i ϰ).r=0 then(if BL l i then 0 else 6)else Aq (l.getD i ϰ).r
def first(f:Nat->Int):Nat->Int
 |0=>0
 |n+1=>if first f n=0 then f n else first f n
theorem Oy{f:Nat->Int}(h:∀i,i<n->f i=0):first f n=0:=by
 induction n with
 |zero=>rfl
 |succ n ih=>rw[first,ih (λi c=>h i ϣ),AE rfl,h n ϣ]
theorem AbJ{f:Nat->Int}{k:Nat}(n:Nat)(h:∀i,i<k->f i=0)(c:f k≠0)(d:k<n):first f n=f k:=by
 induction n with
 |zero=>exact absurd d (CA k)
 |succ n ih=>
  rw[first];by_cases e:k=n
  ·subst e;rw[Oy h,AE rfl]
  ·rw[ih ϣ,AC c]
def Bl(l:List Chg):Int:=if 4096<ϲ l then 2 else first (Hh l) (ϲ l)
def Oz(l:List Chg)(i:Nat):Prop:=1<=(l.getD i ϰ).k/\(l.getD i ϰ).k<=4/\Aq (l.getD i ϰ).r=0/\BL l i=true
def Tx{l:List Chg}(h:Hh l i=0):Oz l i:=by
 unfold Hh at h;split at h
 ·cases h
 ·rename_i f;split at h
  ·rename_i c;split at h
   ·rename_i d;exact⟨ϣ,ϣ,c,d⟩
   ·cases h
  ·contradiction
def Qw{l:List Chg}(h:Oz l i):Hh l i=0:=by
 obtain⟨f,j,c,d⟩:=h;unfold Hh;rw[AC ϣ,AE c,AE d]
def Be(l:List Chg):Prop:=ϲ l<=4096/\∀i,i<ϲ l->Oz l i
def Aev{l:List Chg}(h:Be l):Bl l=0:=by
 have:=h.1;unfold Bl;rw[AC ϣ,Oy (λi c=>Qw (h.2 i c))]
def Hi(w:World)(ad:Option Addr)(l:List Chg):Prop:=
 ∀i,i<ϲ l->∃g,ad=some ⟨g,0,none⟩/\Δ w g i (.string ⟨(encR (l.getD i ϰ).r).toArray⟩)
def Aa{a b:Bool}(h:a=b):Ending.returned (.bool a)= .returned (.bool b):=by rw[h]
def F5(k:Int):Int:=if k=1\/k=4 then 1 else -1
def Ty(k:Int)(w:ϟ):χ 164 #[.int .i64 k] w λe w'=>e= .returned (.int .i64 (F5 k))/\w'=w:=by
 by_cases c:k=1
 ·subst c;go_enter func164,ntmps164;go_wp2;go_ret;exact⟨rfl,rfl⟩
 ·have f:(k==1)=false:=by simpa using c
  by_cases d:k=4
  ·subst d;go_enter func164,ntmps164;go_wp2;go_ret;exact⟨rfl,rfl⟩
  ·have h:(k==4)=false:=by simpa using d
   have e:F5 k= -1:=by unfold F5;rw[AC ϣ]
   rw[e];go_enter func164,ntmps164;go_wp2;go_ret;exact⟨rfl,rfl⟩
theorem VV(a:Ϡ)(cap:Nat)(l:List Chg)(i:Nat)(w:ϟ)(u:Gp w a l)(U:Gq l)(J:ϲ l<=1000000)(z:i<ϲ l):
 χ 228 #[.slice a (ϲ l) cap,.int .i64 i] w (ψ w (.bool (BL l i))):=by
 obtain⟨b,o,ra,rc,e,E,K,L⟩:=u i z;subst e;have c:ϡ (BL l i=if (l.getD i ϰ).k=3 then decide (i+1<ϲ l)&&decide ((l.getD (i+1) ϰ).k=4)else if (l.getD i ϰ).k=4 then decide (0<i)&&decide ((l.getD (i - 1) ϰ).k=3)else true):=rfl;have s:ϡ (∀j,j<ϲ l->Δ w b (o+j * 2) (.int .i64 (l.getD j ϰ).k)):=λj H=>by
  obtain⟨M,o',aa,ab,F,q,y2,y3⟩:=u j H
  cases F
  exact q
 obtain⟨k,A⟩:∃k,(l.getD i ϰ).k=k:=⟨_,rfl⟩;rw[A]at E c;clear A u K L;obtain⟨n,D⟩:∃n,ϲ l=n:=⟨_,rfl⟩;rw[D]at J z c s⊢;clear D;have Y:=nn0 i;have Z:(i:Int)<(n:Int):=ϣ;have V:IntKind.i64.wrap ((i:Int)+1)=(i:Int)+1:=by rw[Cr];omega
 by_cases t:k=3
 ·subst t;by_cases f:i+1<n
  ·have q:=s.o (i+1) f;obtain⟨h,p⟩:∃k,(l.getD (i+1) ϰ).k=k:=⟨_,rfl⟩;rw[p]at q c;have x:(i:Int)+1<(n:Int):=ϣ;have m:decide (h=4)=(h==4):=by rw[PJ];simp
   have d:ϡ (BL l i=(h==4)):=by show BL l i=_;rw[c.o,AE rfl,DB f,m];rfl
   clear c p m;go_enter func228,ntmps228;go_wp2;go_ret;exact⟨Aa d.o.symm,by first|exact bR|exact bR.drew⟩
  ·have x:¬(i:Int)+1<(n:Int):=ϣ;have d:ϡ (BL l i=false):=by show BL l i=_;rw[c.o,AE rfl,BP f];rfl
   clear c;go_enter func228,ntmps228;go_wp2;go_ret;exact⟨Aa d.o.symm,by first|exact bR|exact bR.drew⟩
 ·have N:(k==3)=false:=by simpa using t
  by_cases f:k=4
  ·subst f;by_cases y:0<i
   ·obtain⟨j,rfl⟩:∃j,i=j+1:=⟨i - 1,ϣ⟩;have q:=s.o j ϣ;have I:(j+1:Nat) - 1=j:=ϣ;rw[I]at c;obtain⟨h,p⟩:∃k,(l.getD j ϰ).k=k:=⟨_,rfl⟩;rw[p]at q c;have m:decide (h=3)=(h==3):=by rw[PJ];simp
    have d:ϡ (BL l (j+1)=(h==3)):=by show BL l (j+1)=_;rw[c.o,AC Ϥ,AE rfl,DB y,m];rfl
    have O:(0:Int)<((j:Int)+1):=ϣ;have R:((j:Int))<(n:Int):=ϣ;have T:=nn0 j;have W:IntKind.i64.wrap ((j:Int)+1 - 1)=(j:Int):=by rw[Cr];omega
    have X:IntKind.i64.wrap (j:Int)=(j:Int):=by rw[Cr];omega
    clear c p m;go_enter func228,ntmps228;go_wp2;go_ret;exact⟨Aa d.o.symm,by first|exact bR|exact bR.drew⟩
   ·have G:i=0:=ϣ;subst G;have d:ϡ (BL l 0=false):=by show BL l 0=_;rw[c.o,AC Ϥ,AE rfl,BP y];rfl
    clear c;simp only[bU,aE]at E;go_enter func228,ntmps228;go_wp2;go_ret;exact⟨Aa d.o.symm,by first|exact bR|exact bR.drew⟩
  ·have x:(k==4)=false:=by simpa using f
   have d:ϡ (BL l i=true):=by show BL l i=_;rw[c.o,AC t,AC f]
   clear c;go_enter func228,ntmps228;go_wp2;go_ret;exact⟨Aa d.o.symm,by first|exact bR|exact bR.drew⟩
def AfI:(Tryz.prog.info? 9).map (λi=>(i.zero,i.size,i.bytes))=some (some (.string ⟨#[]⟩),1,16):=Ϧ
def VW(c:Chg):Value:=.string ⟨(encR c.r).toArray⟩
def Aew(h:rowOk r):(.string (FY r):Value)= .string ⟨(encR r).toArray⟩:=by
 rw[<-LP h]
theorem VX{ops:Array Oper}{rest:List Oper}{o:Oper}{a:Act}{Q:Exit->Act->World->Prop}(p:o.guard=none)(s x:Operand)
 (t:o.op= .call {callee:=.builtin .append,args:=#[s,x],argTypes:=#[226,226]}) (base:Nat) (v:Value) (n:Nat) (xs:List Value) (z:a.eval s=v) (c:ϟ)
 (y:c.ownsRow base 9 1 v n xs) (X:ByteArray) (B:Nat) (m:c.heap.size=B) (A:a.eval x= .slice (ϋ B) 1 1) (I:n<=2000000) (H:base<=c.heap.size)
 (h:∀d w',w'.ownsRow base 9 1 d (n+1) (xs++[.string X])->(c.alloc (.cells #[.string X] 9)).grownBy w' v.ownBlock->wpList Tryz.prog ops Q rest (a.put o.dst d) w'):
 wpList Tryz.prog ops Q (o::rest) a (ϊ c #[.string X] 9):=by
 subst m;obtain⟨G,q,D,E,F⟩:=IR AfI;refine Vc _ p s x 226 t base 9 G (.string ⟨#[]⟩) 1 16 underlying226 q D E F rfl Ϥ v n xs z
  (WD y _) ⟨c,0,none⟩ 1 1 [.string X] A rfl (cell_one_new _ _ _) (by intro u f;simp at f;subst f;rfl) ϭ ϣ Ϩ ?_
 intro d w' j l _;exact h d w' j l
def Zq{c:ϟ}{e:TypeId}{size:Nat}{xs:List Value}{v:Value}{o:Obj}(d:Below base w c)(h0:base<=c.heap.size)(j:c.ownsRow base e size v n xs)(f:(c.alloc o).grownBy w' v.ownBlock):Below base w w':=
 (d.alloc h0 o).grown f Ϩ (λk h=>(aB j k h).1)
def RI{l:List Chg}(h:4096<ϲ l):Bl l=2:=by unfold Bl;rw[AE h]
def VY{l:List Chg}(h1:¬4096<ϲ l)(k:Nat)(f:k<ϲ l)(h:∀i,i<k->Oz l i)(c:Hh l k≠0):Bl l=Hh l k:=by
 unfold Bl;rw[AC h1,AbJ _ (λi d=>Qw (h i d)) c f]
def takeC(l:List Chg)(k:Nat)(h:k<ϲ l):l.take (k+1)=l.take k++[l.getD k ϰ]:=by
 rw[M1 h];simp[gDe,h]
def VZ{l:List Chg}(h:w.ownsRow base 9 1 (.slice ad (ϲ l) cap) (ϲ l) (l.map VW)):Hi w ad l:=by
 intro i f;obtain⟨m,p,j,d⟩:=Lp h
 cases j
 obtain⟨g,rfl⟩:=d ϣ;refine⟨g,rfl,?_⟩;have c:=RT h (g:=g) rfl i (.string ⟨(encR (l.getD i ϰ).r).toArray⟩) (by
  simp[L7,gEe f,gDe,VW])
 have e:(⟨g,0,none⟩:Addr).add i=⟨g,i,none⟩:=by unfold Addr.add;split<;>simp_all
 rw[e]at c;exact c
def Ls{b:Int}(h:a=b):Ending.returned (.tuple #[.slice none 0 0,.int .i64 a])= .returned (.tuple #[.slice none 0 0,.int .i64 b]):=by rw[h]
def Agk{a:Nat}(h:a=b):Ending.returned (.tuple #[.slice ad a cap,.int .i64 0])= .returned (.tuple #[.slice ad b cap,.int .i64 0]):=by rw[h]
def XO(l:List Chg)(e:Ending)(w':World):Prop:=
 (Bl l=0/\Be l/\∃ad cap,e= .returned (.tuple #[.slice ad (ϲ l) cap,.int .i64 0])/\Hi w' ad l)\/
 (Bl l≠0/\e= .returned (.tuple #[.slice none 0 0,.int .i64 (Bl l)]))
def Lt{l:List Chg}{x:Int}(h:Bl l=x)(c:x≠0):XO l (.returned (.tuple #[.slice none 0 0,.int .i64 x])) w':=.inr ⟨by rw[h];exact c,Ls h.symm⟩
theorem Wa(a:Ϡ)(cap:Nat)(l:List Chg)(w:ϟ)(hv:Gp w a l)(hw:Gq l)(R:ϲ l<=ύ):
 χ 162 #[.slice a (ϲ l) cap] w λe w'=>XO l e w'/\Ϣ w w':=by
 have KP:ϡ (∀w,Gp w a l->ϲ l<=1000000->∀i,i<ϲ l->CT 228 #[.slice a (ϲ l) cap,.int .i64 i] w (ψ w (.bool (BL l i)))):=λw h R i p=>VV a cap l i w h hw R p;obtain⟨n,U⟩:∃n,ϲ l=n:=⟨_,rfl⟩;have t:=hV0 U;rw[U]at R KP⊢;clear U;by_cases h4:4096<n
 ·have f:ϡ (Bl l=2):=RI (by rw[t.o];exact h4);go_enter func162,ntmps162;go_wp2
  go_ret2
  exact⟨Lt f.o Ϥ,bR⟩
 ·obtain⟨i0,p,al,am,an⟩:=IR AfI;obtain⟨wm,a3,D,af⟩:=fX (P:=Tryz.prog) w w.heap.size 226 9 i0 (.string ⟨#[]⟩) 1 underlying226 p al am .i64 .i64 n (by rw[an];omega) ϭ nR;have au:Ϣ w wm:=bR.grown af nR (λk hk=>by cases hk);have aq:=hV0 D;have HV:=hV0 hv;clear p al am an D af hv;go_enter func162,ntmps162;go_wp2
  go_loopw [4,17] (λv i wr=> ∃k:Nat,k<=n/\i= .int .i64 k/\wr.ownsRow w 9 1 v k ((l.take k).map VW)/\Ϣ w wr/\(∀i,i<k->Oz l i)) (λ_ i _=>n - (intOf i).toNat)
  case atStart=>exact⟨0,ϣ,rfl,aq.o,au,λi p=>absurd p (CA i)⟩
  case round=>
   obtain⟨k,hk,rfl,D,j,ac⟩:=hrel;have M:=hV0 D;have L:=hV0 ac;have E:=j.size;clear D ac;by_cases ai:k<n
   ·have I:k<ϲ l:=by rw[t.o];exact ai
    obtain⟨b,o,J,rc,e,x1,x2,x3⟩:=HV.o k I;subst e;obtain⟨K,Y,ao,ap⟩:=AbI hw k I;have q1:=cLz j x1;have W:=cLz j x2;have A:ϡ (vl.rowAt wr J (l.getD k ϰ).r):=Ac x3 j;have i1:=nn0 k;have i2:(k:Int)<(n:Int):=ϣ;have F:ϡ (Hh l k≠0->Bl l=Hh l k):=λhe=>VY (by rw[t.o];exact h4) k I L.o he;have O:ϡ ((l.take (k+1)).map VW=(l.take k).map VW++[.string ⟨(encR (l.getD k ϰ).r).toArray⟩]):=by
     show(l.take (k+1)).map VW=_;rw[takeC l k I,DQ];rfl
    have q:ϡ (Hh l k=if (l.getD k ϰ).k<1\/4<(l.getD k ϰ).k then 4 else if Aq (l.getD k ϰ).r=0 then(if BL l k then 0 else 6)else Aq (l.getD k ϰ).r):=rfl;have N:ϡ (∀w',Ϣ w w'->CT 228 #[.slice (some ⟨b,o,none⟩) n cap,.int .i64 k] w' (ψ w' (.bool (BL l k)))):=λw' hb=>KP.o w' (Lr HV.o hb) ϣ k ai;obtain⟨⟨m,r⟩,ae⟩:∃c,l.getD k ϰ=c:=⟨_,rfl⟩;rw[ae]at q1 W A O q K Y ao ap;dsimp only at q1 W A O q K Y ao ap;clear x1 x2 x3 ae;obtain⟨rl,ak⟩:∃l,ϲ r=l:=⟨_,rfl⟩;rw[ak]at W;have G:ϡ (∀w,vl.rowAt w J r->CT 112 #[.slice J rl rc] w (ψ w (.tuple #[.string (FY r),.int .i64 (Aq r)]))):=by
     subst ak;exact λw h=>J2 J rc r w h K Y
    by_cases e1:m<1
    ·have f:ϡ (Bl l=4):=by
      have d:=q.o;rw[AE (.inl e1)]at d;show Bl l=4;rw[F.o (by rw[d];decide),d]
     go_wp2
     go_ret2
     exact⟨Lt f.o Ϥ,j.alloc E _⟩
    ·have a0:decide (m<1)=false:=BP e1;by_cases e2:4<m
     ·have f:ϡ (Bl l=4):=by
       have d:=q.o;rw[AE (.inr e2)]at d;show Bl l=4;rw[F.o (by rw[d];decide),d]
      go_wp2
      go_ret2
      exact⟨Lt f.o Ϥ,j.alloc E _⟩
     ·have a1:decide (4<m)=false:=BP e2;by_cases u:Aq r=0
      ·have aj:rowOk r:=Ov u K;have Z:ϡ ((.string (FY r):Value)= .string ⟨(encR r).toArray⟩):=Aew aj;obtain⟨ks,ah⟩:∃s,FY r=s:=⟨_,rfl⟩;obtain⟨pb,V⟩:∃x,BL l k=x:=⟨_,rfl⟩;rw[ah]at G Z;rw[V]at N q;have az:=hV0 V;clear ah aj V
       cases pb
       ·have f:ϡ (Bl l=6):=by
         have d:=q.o;rw[AC ϣ,AE u,AC Ϥ]at d;show Bl l=6;rw[F.o (by rw[d];decide),d]
        go_wp2_with (first
         |(go_at_call 112;refine(G.o _ (Ac A.o Ϯ)).mono ?_;rintro e X ⟨rfl,z⟩;have y:=(j.alloc E _).trans (z.mono Ϩ))
         |(go_at_call 228;refine(N.o _ y).mono ?_;rintro e wb ⟨rfl,H⟩))
        go_ret2
        exact⟨Lt f.o Ϥ,bT y H⟩
       ·have f:ϡ (Oz l k):=Tx (by
         have d:=q.o;rw[AC ϣ,AE u,AE rfl]at d;exact d)
        go_wp2_with (first
         |(go_at_call 112;refine(G.o _ (Ac A.o Ϯ)).mono ?_;rintro e X ⟨rfl,z⟩;have y:=(j.alloc E _).trans (z.mono Ϩ);have av:Ϣ wr X:=Ϯ.trans (z.mono ϥ))
         |(go_at_call 228;refine(N.o _ y).mono ?_;rintro e wb ⟨rfl,H⟩;have T:=bT y H;have ab:=own_below M.o (bT av H))
         |(at_builtin;refine VX rfl (.tmp 43) (.tmp 45) rfl w.heap.size _ k _ rfl _ ab _ _ rfl rfl ϣ T.size ?_;intro v' w1 ax aw))
        go_roundw;exact⟨k+1,ϣ,by go_num,by rw[O.o,<-Z.o];exact ax,Zq T T.size ab aw,λi p=>by
         rcases RN i k with h|h
         ·exact L.o i h
         ·rw[show i=k by omega];exact f.o⟩
        simp[intOf];omega
      ·have a2:(Aq r==0)=false:=by simpa using u
       have f:ϡ (Bl l=Aq r):=by
        have d:=q.o;rw[AC ϣ,AC u]at d;show Bl l=Aq r;rw[F.o (by rw[d];exact u),d]
       go_wp2_with (go_at_call 112;refine(G.o _ (Ac A.o Ϯ)).mono ?_;rintro e X ⟨rfl,z⟩;have y:=(j.alloc E _).trans (z.mono Ϩ))
       go_ret2
       exact⟨Lt f.o u,y⟩
   ·have ag:k=n:=ϣ;have HT:ϡ (l.take k=l):=KI (by rw[t.o];omega);have aa:ϡ (Be l):=⟨by rw[t.o];omega,λi p=>L.o i (by rw[t.o]at p;omega)⟩;obtain⟨ad,ar,ay,_⟩:=Lp M.o;subst ay;go_wp2
    go_ret2
    exact⟨.inl ⟨Aev aa.o,aa.o,ad,ar,Agk (ag.trans t.o.symm),VZ (by have h:=M.o;rw[HT.o,ag]at h;rw[t.o];exact h)⟩,j⟩
def keyed(kv:KV):Prop:=∀p∈kv,∃r,rowOk r/\encR r=p.1
structure GA(kv:KV):Prop where
 up:rising kv
 len:ϲ kv<=4096
 cnt:∀p∈kv,1<=p.2/\p.2<=1073741824
 key:keyed kv
theorem before_total:∀(a b:List UInt8),bytesBefore a b=false->a≠b->bytesBefore b a=true
 |[],[],_,h=>absurd rfl h
 |[],_::_,h,_=>by simp[bytesBefore]at h
 |_::_,[],_,_=>by simp[bytesBefore]
 |a::x,b::y,h,hne=>by
  rw[bytesBefore]at h⊢;by_cases e:a=b
  ·subst e;have j:x≠y:=λe=>hne (by rw[e]);have c:bytesBefore x y=false:=by simpa using h
   simp[before_total x y c j]
  ·have c:¬a<b:=by
    intro f;simp[f]at h
   have d:b<a:=by
    rw[bX]at c⊢;have:a.toNat≠b.toNat:=λh=>e (fM.1 h);omega
   simp[d]
theorem mem_ins(x:List UInt8×Int)(l:KV):∀p,p∈insK x l↔p=x\/p∈l:=by
 induction l with
 |nil=>intro p;simp[insK]
 |cons y r ih=>
  intro p;rw[insK];split
  ·simp
  ·rw[E3,ih p,E3]
   constructor
   ·rintro (h|h|h)
    ·exact .inr (.inl h)
    ·exact .inl h
    ·exact .inr (.inr h)
   ·rintro (h|h|h)
    ·exact .inr (.inl h)
    ·exact .inl h
    ·exact .inr (.inr h)
theorem Aex(x:List UInt8×Int)(l:KV):ϲ (insK x l)=ϲ l+1:=by
 induction l with
 |nil=>rfl
 |cons y r ih=>
  rw[insK];split
  ·rfl
  ·rw[DP,ih,DP]
theorem Wb{x:List UInt8×Int}{l:KV}(h:rising l)(j:∀p∈l,p.1≠x.1):rising (insK x l):=by
 induction l with
 |nil=>exact eQ _ _
 |cons y r ih=>
  have f:=WF.1 h;rw[insK];split
  ·rename_i d;refine WF.2 ⟨?_,h⟩;intro p c;rcases E3.1 c with e|c
   ·rw[e];exact d
   ·exact before_trans d (f.1 p c)
  ·rename_i d;refine WF.2 ⟨?_,ih f.2 (λp c=>j p (EQ _ c))⟩;intro p c;rcases(mem_ins x r p).1 c with e|c
   ·rw[e];exact before_total _ _ (by simpa using d) (λe=>j y (E0 ..) e.symm)
   ·exact f.1 p c
def Nw{c:KV}{p:List UInt8×Int}:p∈Kl c k↔p∈c/\p.1≠k:=by
 unfold Kl;rw[cF];simp
def O0{c:KV}(h:rising c)(k:List UInt8):rising (Kl c k):=List.Pairwise.filter _ h
def XP(c:KV)(k:List UInt8):ϲ (Kl c k)<=ϲ c:=aZ _ _
def Wc{c:KV}(h:rising c)(k:List UInt8)(n:Int):rising (Lh c k n):=Wb (O0 h k) (λp d=>(Nw.1 d).2)
def mem_put{c:KV}{n:Int}{p:List UInt8×Int}:p∈Lh c k n↔p=(k,n)\/(p∈c/\p.1≠k):=by
 unfold Lh;rw[mem_ins,Nw]
theorem Tz{c:KV}(h:Ff c k≠0):(k,Ff c k)∈c:=by
 unfold Ff at *
 cases e:c.find? (λp=>p.1==k)with
 |none=>rw[e]at h;exact absurd rfl h
 |some p=>
  dsimp only;have d:=mem_of_find?_eq_some e;have f:=find?_some e;have j:p.1=k:=by simpa using f
  rw[<-j];exact d
def Wd{c:KV}(h:Ff c k≠0):ϲ (Kl c k)<ϲ c:=by
 have d:=Tz h;unfold Kl;rw[length_filter_lt_length_iff_exists];exact⟨_,d,ϥ⟩
def Aey{c:KV}{n:Int}:ϲ (Lh c k n)=ϲ (Kl c k)+1:=by unfold Lh;rw[Aex]
def Zr{c:KV}(h:keyed c)(k:List UInt8):keyed (Kl c k):=λp d=>h p (Nw.1 d).1
def Zs{c:KV}(h:keyed c)(f:rowOk r)(n:Int):keyed (Lh c (encR r) n):=λp d=>by
 rcases mem_put.1 d with e|e
 ·subst e;exact⟨r,f,rfl⟩
 ·exact h p e.1
def AbK{c:KV}(h:GA c)(k:List UInt8):0<=Ff c k/\Ff c k<=1073741824:=by
 by_cases e:Ff c k=0
 ·omega
 ·have:=h.cnt _ (Tz e);exact⟨ϣ,this.2⟩
def AbL{c:KV}(h:GA c)(j:rowOk r)(n:Int):GA (VQ c (encR r) n):=by
 unfold VQ;split
 ·exact h
 ·split
  ·exact h
  ·split
   ·exact⟨O0 h.up _,B0 (XP _ _) h.len,λp d=>h.cnt p (Nw.1 d).1,Zr h.key _⟩
   ·split
    ·exact h
    ·rename_i l m q f;refine⟨Wc h.up _ _,?_,?_,Zs h.key j _⟩
     ·rw[Aey];have t:=h.len;by_cases e:Ff c (encR r)=0
      ·have:=XP c (encR r);have s:ϲ c≠4096:=λh=>f ⟨e,h⟩;omega
      ·have:=Wd e;omega
     ·intro p d;rcases mem_put.1 d with e|e
      ·subst e;exact⟨ϩ,ϩ⟩
      ·exact h.cnt p e.1
theorem Zt{f:KV}(h:keyed f):∃out:List Cnt,Bd out=f/\∀c∈out,rowOk c.r:=by
 induction f with
 |nil=>exact⟨[],rfl,λc d=>by cases d⟩
 |cons p r ih=>
  obtain⟨out,l,m⟩:=ih (λq u=>h q (EQ _ u));obtain⟨j,s,t⟩:=h p (E0 ..);refine⟨⟨j,p.2⟩::out,?_,?_⟩
  ·show(encR j,p.2)::Bd out=p::r;rw[l,t]
  ·intro c d;rcases E3.1 d with e|d
   ·rw[e];exact s
   ·exact m c d
def PO{a b:List Cel}(ha:rowOk a)(d:rowOk b)(h:bytesBefore (encR a) (encR b)=true):AH a b<0:=by
 have f:=QQ a b ha.2 d.2;have c:=IP (encR a) (encR b);rw[EU]at h;rw[GM,h,AE rfl]at c;omega
def AbM(h:rowOk r):B8 r:=λc d=>(h.2 c d).2
def Bc{α:Type} [Inhabited α]{l:List α}{i:Nat}(h:i<ϲ l):l.getD i ϰ∈l:=by simp[gDe,h]
def T0{out:List Cnt}{c:Cnt}(h:c∈out):(encR c.r,c.n)∈Bd out:=DS.2 ⟨c,h,rfl⟩
theorem Zu{out:List Cnt}(h:GA (Bd out))(f:∀c∈out,rowOk c.r):EG out/\BK out:=by
 refine⟨⟨by have:=h.len;rw[Lq]at this;exact this,?_⟩,?_⟩
 ·intro i j;have m:=Bc j;have d:=h.cnt _ (T0 m);refine⟨JI (f _ m),d.1,d.2,λx=>?_⟩;have u:=Bc (l:=out) (i:=i - 1) ϣ;refine PO (f _ u) (f _ m) ?_;have p:=h.up;unfold rising Bd at p;rw[eY,aA]at p;have:=p (i - 1) i ϣ j ϣ;have q:out[i - 1]=out.getD (i - 1) ϰ:=by simp[gDe,show i - 1<ϲ out by omega]
  have s:out[i]=out.getD i ϰ:=by simp[gDe,j]
  rw[q,s]at this;exact this
 ·intro c d;have t:=h.cnt _ (T0 d);have y:=(f c d).1;dsimp only at t;exact⟨AbM (f c d),ϣ,ϣ,ϣ⟩
def Hv{v:List Cnt}(j:BK v)(h:EG v):∀c∈v,rowOk c.r:=by
 intro c f;obtain⟨i,d,rfl⟩:=LT f;have:=RH j d (h.2 i d);simpa[gDe,d]using this
def Zv{v:List Cnt}(l:BK v)(h:EG v):GA (Bd v):=by
 refine⟨Zk l h,by rw[Lq];exact h.1,?_,?_⟩
 ·intro p f;obtain⟨c,d,rfl⟩:=DS.1 f;obtain⟨i,j,rfl⟩:=LT d;have:=h.2 i j;simp only[Fx,gDe,gEe j,bF]at this;exact⟨this.2.1,this.2.2.1⟩
 ·intro p f;obtain⟨c,d,rfl⟩:=DS.1 f;exact⟨c.r,Hv l h c d,rfl⟩
theorem AbN{a b:List Cnt}(ha:∀c∈a,rowOk c.r)(p:∀c∈b,rowOk c.r)(h:Bd a=Bd b):a=b:=by
 induction a generalizing b with
 |nil=>cases b with
  |nil=>rfl
  |cons d s=>cases h
 |cons c r ih=>cases b with
  |nil=>cases h
  |cons d s=>
   have l:(encR c.r,c.n)=(encR d.r,d.n)/\Bd r=Bd s:=List.cons.inj h;have f:=Prod.mk.inj l.1;have m:=UH (ha c (E0 ..)).2 (p d (E0 ..)).2 f.1;rw[ih (λx j=>ha x (EQ _ j)) (λx j=>p x (EQ _ j)) l.2]
   cases c;cases d
   simp only at m f;rw[m,f.2]
def AgR(kv:KV)(c:Chg):KV:=VQ kv (encR c.r) (F5 c.k)
def atK(kv:KV)(l:List Chg)(i:Nat):KV:=(l.take i).foldl AgR kv
def Lu(kv:KV)(l:List Chg)(i:Nat):Int:=Aem (atK kv l i) (encR (l.getD i ϰ).r) (F5 (l.getD i ϰ).k)
def T4(c:KV)(l:List Chg)(i:Nat)(h:i<ϲ l):atK c l (i+1)=VQ (atK c l i) (encR (l.getD i ϰ).r) (F5 (l.getD i ϰ).k):=by
 unfold atK;rw[takeC l i h,gB];rfl
def XQ{l:List Chg}(d:Gq l)(h:Be l)(i:Nat)(c:i<ϲ l):rowOk (l.getD i ϰ).r:=Ov (h.2 i c).2.2.1 (AbI d i c).1
theorem XR{c:KV}(h:GA c){l:List Chg}(f:Gq l)(d:Be l)(i:Nat)(j:i<=ϲ l):GA (atK c l i):=by
 induction i with
 |zero=>exact h
 |succ i ih=>
  rw[T4 c l i ϣ];exact AbL (ih ϣ) (XQ f d i ϣ) _
def Zw{d:KV}{x:Value}(h:Em w B nn d):w.cell? ⟨B,i,none⟩≠some x:=by
 obtain⟨j,f,c,l,m,p⟩:=h;intro e;simp[World.cell?,c]at e
def RJ{p:KV}{l:List Chg}(h:Hi w ad l)(d:Em w B nn p)(f:w.grownBy w' (some B)):Hi w' ad l:=by
 intro i m;obtain⟨g,e,c⟩:=h i m;refine⟨g,e,f.cell c (λh=>?_)⟩;have j:g=B:=by simpa using h
 subst j;exact Zw d c
def Aez(k:Int): -1<=F5 k/\F5 k<=1:=by unfold F5;split<;>omega
def AbO{b c d:Int}(h:a=b)(k:c=d):Ending.returned (.tuple #[.slice none 0 0,.int .i64 a,.int .i64 c])= .returned (.tuple #[.slice none 0 0,.int .i64 b,.int .i64 d]):=by rw[h,k]
def Ae0{a:Nat}(h:a=b):Ending.returned (.tuple #[.slice ad a cap,.int .i64 0,.int .i64 0])= .returned (.tuple #[.slice ad b cap,.int .i64 0,.int .i64 0]):=by rw[h]
def Ae1(h:rowOk r):ϲ (encR r)<=maxLen:=by
 have f:=DU r (λc d=>(h.2 c d).1);have j:=h.1;unfold maxLen;omega
def AbP:(Tryz.prog.info? 217).map (λi=>(i.zero,i.size,i.bytes))=some (some (.agg #[.int .i64 0,.slice none 0 0]),2,32):=Ϧ
def Bv(l:List (Int×Value)):List Value:=l.flatMap λp=>[.int .i64 p.1,p.2]
theorem Zx(l:List (Int×Value)):ϲ (Bv l)=ϲ l * 2:=by
 induction l with
 |nil=>rfl
 |cons c r ih=>show(ϲ ([_,_]++Bv r))=_;rw[lAp,ih,DP];simp;omega
def We(l:List (Int×Value))(n:Int)(x:Value):Bv (l++[(n,x)])=Bv l++[.int .i64 n,x]:=by
 unfold Bv;rw[SN];simp
theorem T5(l:List (Int×Value))(i:Nat)(c:i<ϲ l):(Bv l)[i * 2]? =some (.int .i64 (l.getD i (0,.bool false)).1)/\(Bv l)[i * 2+1]? =some (l.getD i (0,.bool false)).2:=by
 induction l generalizing i with
 |nil=>exact absurd c (CA i)
 |cons p r ih=>
  have e:Bv (p::r)= .int .i64 p.1::p.2::Bv r:=rfl;rw[e]
  cases i with
  |zero=>exact⟨rfl,rfl⟩
  |succ i=>
   have:=ih i (by simpa using c);rw[show(i+1) * 2=i * 2+1+1 by omega];simpa using this
def Qx(p q:List (Int×Value)):Bv (p++q)=Bv p++Bv q:=by unfold Bv;rw[SN]
def Zy{p:List (Int×Value)}(h:∀x∈p,x.2.oneCell'=true):∀u∈Bv p,u.oneCell'=true:=by
 intro u c;unfold Bv at c;obtain⟨x,d,c⟩:=eI.1 c;simp at c;rcases c with rfl|rfl
 ·rfl
 ·exact h x d
def Bb(a:Ϡ)(cap:Nat)(v:List Cnt)(w:ϟ)(m:viewAt w a v)(p:BK v)(j:ϲ v<=ύ):
 χ 104 #[.slice a (ϲ v) cap] w (ψ w (.int .i64 (Av v))):=by
 have c:=Ow a cap v w m p j;obtain⟨n,f⟩:∃n,ϲ v=n:=⟨_,rfl⟩;rw[f]at c;rw[f];go_enter func104,ntmps104;go_wp2_with fail;refine c.mono ?_;rintro e w1 ⟨l,d⟩;rcases l with⟨h,_,B,rfl,_⟩|⟨_,rfl⟩
 ·go_wp2;go_ret;exact⟨by rw[h];rfl,d⟩
 ·go_wp2;go_ret;exact⟨rfl,d⟩
end ch
namespace ch
variable {P : Program} {md : Region.Mode} {ops : Array Oper} {Q : Exit -> Act -> World -> Prop} {S : World -> Prop} {fuel : Nat} {listed : Array Bool} {a : Act} {w : ϟ} {oi : Oper}
def AfA(i:Nat)(d:Option Tmp)(p:ops[i]? =some oi)
 (s:Region.noSelect ops=true) (m:Region.free md ops listed i=true) (q:(Region.ready md ops listed).contains i=true) (f:∀c a w,Q (.panic c) (a.put oi.dst undef) w->Q (.panic c) a w) (l:oi.dst=d)
 (t:Region.wanted oi (yielded ops a.tmps)=false) (j:S w) (h:wpAnyH P md ops Q S fuel (listed.setIfInBounds i true) (a.put d undef) w):wpAnyH P md ops Q S (fuel+1) listed a w:=
 aS p s m q f (dJ ⟨t,rfl⟩) j (by rw[l];exact h)
def AfB{v:Value}(i:Nat)(d:Option Tmp)(p:ops[i]? =some oi)
 (s:Region.noSelect ops=true) (m:Region.free md ops listed i=true) (q:(Region.ready md ops listed).contains i=true) (f:∀c a w,Q (.panic c) (a.put oi.dst v) w->Q (.panic c) a w) (l:oi.dst=d)
 (t:Region.wanted oi (yielded ops a.tmps)=true) (hy:∀w,S w->(execOp a.eval oi).run P w= .ok (.value v) w) (j:S w) (h:wpAnyH P md ops Q S fuel (listed.setIfInBounds i true) (a.put d v) w):wpAnyH P md ops Q S (fuel+1) listed a w:=
 aS p s m q f (dK ⟨t,hy⟩) j (by rw[l];exact h)
end ch
