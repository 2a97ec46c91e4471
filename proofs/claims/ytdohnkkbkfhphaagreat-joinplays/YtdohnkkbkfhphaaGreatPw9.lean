import Derived.Test.YtdohnkkbkfhphaaGreatPw3
import Derived.Maps.Ext
import Derived.Deep.Onto
set_option linter.all false
set_option maxHeartbeats 8000000
set_option maxRecDepth 100000
open Go.ChangeShapes Go.WideShapes Go.ChangeAt Go.RowKit Go.Maps Go.WideAt Go.WideElems Go.WideMaps Go.Sort List
open Inhabited renaming default->ϰ
namespace Go.Proofs.YtdohnkkbkfhphaaGreat
open Go.Proofs.Tryz
namespace ch
abbrev KV:=List (List UInt8×Int)
def insK(x:List UInt8×Int):KV->KV
 |[]=>[x]
 |y::r=>if bytesBefore x.1 y.1 then x::y::r else y::insK x r
def J5(kv:KV)(k:List UInt8):KV:=kv.filter λp=> !(p.1==k)
def Kn(kv:KV)(k:List UInt8)(n:Int):KV:=insK (k,n) (J5 kv k)
def E5(kv:KV)(k:List UInt8):Int:=match kv.find? (λp=>p.1==k)with|some p=>p.2|none=>0
def ent(p:List UInt8×Int):Lit×DataW Unit:=(.string p.1,.lit (.int .i64 p.2))
def toD(kv:KV):DataW Unit:=.map (kv.map ent)
theorem AbI(x:List UInt8×Int)(l:KV):(insK x l).map ent=DataW.insert (ent x) (l.map ent):=by
 induction l with
 |nil=>rfl
 |cons y r ih=>
  rw[insK,map_cons,DataW.insert];have e:(ent x).1.before (ent y).1=bytesBefore x.1 y.1:=rfl;rw[e];split
  ·rfl
  ·rw[map_cons,ih]
theorem Wk(l:KV)(k:List UInt8):(J5 l k).map ent=(l.map ent).filter λp=> !p.1.sameKey (.string k):=by
 unfold J5;rw[filter_map];rfl
theorem QC(a:KV)(k:List UInt8)(n:Int):(toD a).put (.string k) (.lit (.int .i64 n))=toD (Kn a k n):=by
 unfold toD Kn;rw[AbI,Wk];rfl
theorem AbJ(a:KV)(k:List UInt8):(toD a).del (.string k)=toD (J5 a k):=by
 unfold toD;rw[Wk];rfl
theorem Adf(a:KV)(k:List UInt8):(toD a).atKey (.string k) (.lit (.int .i64 0))= .lit (.int .i64 (E5 a k)):=by
 unfold toD DataW.atKey E5;simp only[find?_map];have e:((λp:Lit×DataW Unit=>p.1.sameKey (.string k))∘ent)=λp=>p.1==k:=rfl;rw[e]
 cases a.find? (λp=>p.1==k)<;>rfl
theorem Ko(a:KV):Maps.size (toD a)=a.length:=by
 unfold toD;rw[Maps.size_eq,lMp]
theorem law:Keyed Tryz.prog 9:=string_keyed underlying9
theorem Ht(w:ϛ):(zeroValue 3).run Tryz.prog w= .ok (.int .i64 0) w:=Ϣ
def DZ(w:World)(B nn:Nat)(kv:KV):Prop:=w.ownsMap Tryz.prog 9 (plainElem (H:=Unit) Tryz.prog 3) B nn (toD kv)
theorem Hg{a:KV}{k:List UInt8}{c:Int}(h:(toD a).atKey (.string k) (.lit (.int .i64 0))= .lit (.int .i64 c)):c=E5 a k:=by
 rw[Adf]at h;injection h with h
 injection h with _ h
 exact h.symm
def AbK(kv:KV)(k:List UInt8)(n:Int):Int:=
 if E5 kv k+n<0 then 9 else if 1073741824<E5 kv k+n then 2 else if E5 kv k+n=0 then 0 else if E5 kv k=0/\kv.length=4096 then 2 else 0
def UC(kv:KV)(k:List UInt8)(n:Int):KV:=
 if E5 kv k+n<0 then kv else if 1073741824<E5 kv k+n then kv else if E5 kv k+n=0 then J5 kv k else if E5 kv k=0/\kv.length=4096 then kv else Kn kv k (E5 kv k+n)
theorem AbL(B nn:Nat)(f:KV)(k:ByteArray)(n:Int)(w:ϛ)(A:DZ w B nn f)(i:k.size<=maxLen)(D:nn<maxLen)
 (h1: -1152921504606846976<=E5 f k.data.toList) (H:E5 f k.data.toList<=1152921504606846976) (N: -1152921504606846976<=n) (O:n<=1152921504606846976) (M:f.length<=1152921504606846976):
 η 71 #[.map (some B),.string k,.int .i64 n] w λe w'=>e= .returned (.int .i64 (AbK f k.data.toList n))/\DZ w' B (nn+1) (UC f k.data.toList n)/\w.grownBy w' (some B):=by
 have b:=hV0 A;obtain⟨h,x⟩:∃h,E5 f k.data.toList=h:=⟨_,rfl⟩;have m:=hV0 x;rw[x]at h1 H;unfold AbK UC;rw[x];clear x A;by_cases t:h+n<0
 ·rw[if_pos t,if_pos t];go_enter func71,ntmps71;go_wp2_with (at_lookup;refine wpList_lookup_own_int _ rfl (.tmp 9) (.tmp 10) 115 rfl 9 3 .i64 law underlying115 underlying3 (Ht _) B nn _ rfl b.o _ (.string k.data.toList) rfl (keyOf_string_mk underlying9 i) ?_;intro c a s;have d:c=h:=(Hg a).trans m.o;clear a;subst d);go_ret;exact⟨rfl,b.o.mono ϟ,World.grownBy.refl _ _⟩
 ·rw[if_neg t,if_neg t];by_cases u:1073741824<h+n
  ·rw[if_pos u,if_pos u];go_enter func71,ntmps71;go_wp2_with (at_lookup;refine wpList_lookup_own_int _ rfl (.tmp 9) (.tmp 10) 115 rfl 9 3 .i64 law underlying115 underlying3 (Ht _) B nn _ rfl b.o _ (.string k.data.toList) rfl (keyOf_string_mk underlying9 i) ?_;intro c a s;have d:c=h:=(Hg a).trans m.o;clear a;subst d);go_ret;exact⟨rfl,b.o.mono ϟ,World.grownBy.refl _ _⟩
  ·rw[if_neg u,if_neg u];by_cases j:h+n=0
   ·rw[if_pos j,if_pos j];have E:(h+n==0)=true:=by rw[beq_iff_eq];exact j
    have L:ϝ (h+n=0):=j;clear j;go_enter func71,ntmps71;go_wp2_with (first
     |(at_lookup;refine wpList_lookup_own_int _ rfl (.tmp 9) (.tmp 10) 115 rfl 9 3 .i64 law underlying115 underlying3 (Ht _) B nn _ rfl b.o _ (.string k.data.toList) rfl (keyOf_string_mk underlying9 i) ?_;intro c a s;have d:c=h:=(Hg a).trans m.o;clear a;subst d)
     |(at_delete;refine wpList_delete_own _ rfl (.tmp 24) (.tmp 25) 115 9 rfl 3 law underlying115 _ B nn _ rfl b.o _ (.string k.data.toList) rfl (keyOf_string_mk underlying9 i) ?_;intro w1 l J))
    go_ret;exact⟨rfl,by rw[AbJ]at l;exact l.mono ϟ,J.grown⟩
   ·rw[if_neg j,if_neg j];have E:(h+n==0)=false:=by rw[beq_eq_false_iff_ne];exact j
    by_cases p:h=0
    ·have F:(h==0)=true:=by rw[beq_iff_eq];exact p
     have z:ϝ (h=0):=p;clear p;have I:=λK=>b.o.len underlying115 K;simp only[Ko]at I;by_cases q:f.length=4096
     ·have G:((f.length:Int)==4096)=true:=by rw[beq_iff_eq];omega
      rw[if_pos ⟨z.o,q⟩,if_pos ⟨z.o,q⟩];clear q;go_enter func71,ntmps71;go_wp2_with (first
       |(at_lookup;refine wpList_lookup_own_int _ rfl (.tmp 9) (.tmp 10) 115 rfl 9 3 .i64 law underlying115 underlying3 (Ht _) B nn _ rfl b.o _ (.string k.data.toList) rfl (keyOf_string_mk underlying9 i) ?_;intro c a s;have d:c=h:=(Hg a).trans m.o;clear a;subst d))
      go_ret;exact⟨rfl,b.o.mono ϟ,World.grownBy.refl _ _⟩
     ·have G:((f.length:Int)==4096)=false:=by rw[beq_eq_false_iff_ne];omega
      rw[if_neg (λh=>q h.2),if_neg (λh=>q h.2)];go_enter func71,ntmps71;go_wp2_with (first
       |(at_lookup;refine wpList_lookup_own_int _ rfl (.tmp 9) (.tmp 10) 115 rfl 9 3 .i64 law underlying115 underlying3 (Ht _) B nn _ rfl b.o _ (.string k.data.toList) rfl (keyOf_string_mk underlying9 i) ?_;intro c a s;have d:c=h:=(Hg a).trans m.o;clear a;subst d)
       |(at_mapUpdate;refine wpList_mapUpdate_own _ rfl (.tmp 34) (.tmp 35) (.tmp 36) 115 rfl 9 3 law underlying115 _ B nn _ rfl b.o D _ _ (.string k.data.toList) rfl rfl (keyOf_string_mk underlying9 i) _ [] (plainElem_int underlying3 (WalkArith.wf_i64 ϟ)) ?_;intro w1 l y))
      go_ret;exact⟨rfl,by rw[QC]at l;exact l,y⟩
    ·have F:(h==0)=false:=by rw[beq_eq_false_iff_ne];exact p
     rw[if_neg (λh=>p h.1),if_neg (λh=>p h.1)];go_enter func71,ntmps71;go_wp2_with (first
      |(at_lookup;refine wpList_lookup_own_int _ rfl (.tmp 9) (.tmp 10) 115 rfl 9 3 .i64 law underlying115 underlying3 (Ht _) B nn _ rfl b.o _ (.string k.data.toList) rfl (keyOf_string_mk underlying9 i) ?_;intro c a s;have d:c=h:=(Hg a).trans m.o;clear a;subst d)
      |(at_mapUpdate;refine wpList_mapUpdate_own _ rfl (.tmp 34) (.tmp 35) (.tmp 36) 115 rfl 9 3 law underlying115 _ B nn _ rfl b.o D _ _ (.string k.data.toList) rfl rfl (keyOf_string_mk underlying9 i) _ [] (plainElem_int underlying3 (WalkArith.wf_i64 ϟ)) ?_;intro w1 l y))
     go_ret;exact⟨rfl,by rw[QC]at l;exact l,y⟩
end ch
namespace ch
def rising(kv:KV):Prop:=kv.Pairwise λp q=>bytesBefore p.1 q.1=true
theorem Ep:∀(a b:List UInt8),bytesBefore a b=decide (a<b)
 |[],[]=>by simp[bytesBefore]
 |[],_::_=>by simp[bytesBefore]
 |_::_,[]=>by simp[bytesBefore]
 |a::x,b::y=>by
  rw[bytesBefore,Ep x y];simp only[cons_lt_cons_iff];by_cases c:a<b<;>by_cases d:a=b<;>by_cases f:x<y<;>simp[c,d,f]
theorem LU(a:KV):strKeys (toD a)=a.map (·.1):=by
 show(a.map ent).map (λp=>strOf p.1)=a.map (·.1);rw[map_map];rfl
theorem S5{a:KV}(d:rising a){c:List (List UInt8)}(h:c.Perm (strKeys (toD a))):c.mergeSort (λx y=>decide (x<=y))=a.map (·.1):=by
 have e:=mergeSort_of_perm h;rw[LU]at e;refine e.trans ?_;refine mergeSort_of_pairwise ?_;rw[pairwise_map];refine d.imp ?_;intro p q b;rw[Ep]at b;exact decide_eq_true (List.le_of_lt (of_decide_eq_true b))
theorem Aal(B:Nat)(w:ϛ):η 178 #[.map (some B)] w λe w'=>e= .returned (.func (.func 211) #[] #[μ w])/\w'=w.alloc (.cells #[.map (some B)] 115):=
 callsIn_wide.1 (Tryz.maps_Keys_178 (some B) w)
theorem UD(B nn:Nat)(a:KV)(w:ϛ)(j:DZ w B nn a)(l:rising a)(p:a.length<=1000000):
 η 177 #[.func (.func 211) #[] #[μ w]] (w.alloc (.cells #[.map (some B)] 115))
  λe w'=>(∃v,e= .returned v/\w'.ownsRow (w.heap.size+1) 9 1 v a.length ((a.map (·.1)).map encStr))/\Below (w.heap.size+1) (ξ w #[.map (some B)] 115) w':=by
 have h:=Tryz.slices_Sorted_keys_177_178 B nn (toD a) (plainElem (H:=Unit) Tryz.prog 3) w j (by rw[Ko];unfold maxLen;omega) (by rw[Ko];omega);refine(callsIn_wide.1 h).mono ?_;rintro e w' ⟨v,m,f,d,b,q,c⟩;have i:m.length=a.length:=by rw[d.length_eq,LU,lMp]
 rw[S5 l d,i]at b;simp only[World.size_alloc]at b c;exact⟨⟨v,f,b⟩,c⟩
end ch
namespace ch
variable {w : ϛ} {B nn : Nat}
theorem CN{w':ϛ}{c:KV}(h:DZ w B nn c)(m:Ϟ w w'):DZ w' B nn c:=by
 obtain⟨f,d,a,i,j,l⟩:=h;have b:B<w.heap.size:=by
  rcases Nat.lt_or_ge B w.heap.size with b|p
  ·exact b
  ·rw[Array.getElem?_eq_none p]at a;cases a
 exact⟨f,d,by rw[m.block B b];exact a,i,j,l⟩
theorem El{a:KV}(h:DZ w B nn a)(o:Obj):DZ (w.alloc o) B nn a:=CN h (bR.alloc nR o)
theorem Mv{d:KV}(h:DZ w B nn d):B<w.heap.size:=by
 obtain⟨i,f,a,j,l,m⟩:=h;rcases Nat.lt_or_ge B w.heap.size with c|b
 ·exact c
 ·rw[Array.getElem?_eq_none b]at a;cases a
theorem Gh:∀(a b:List UInt8),Op.bytesLess a b=decide (a<b)
 |[],[]=>by simp[Op.bytesLess]
 |_::_,[]=>by simp[Op.bytesLess]
 |[],_::_=>by simp[Op.bytesLess]
 |a::x,b::y=>by
  rw[Op.bytesLess,Gh x y];simp only[cons_lt_cons_iff];by_cases c:a<b<;>by_cases d:a=b<;>by_cases f:x<y<;>simp[c,d,f]
end ch
namespace ch
open vl
variable {k : List UInt8} {n : Int} {w w' w1 w2 : ϛ} {B C base g size : Nat} {r : List Cel} {e : TypeId} {v : Value} {xs : List Value} {o row : Option Nat}
structure Cnt where
 r:List Cel
 n:Int
instance:Inhabited Cnt:=⟨⟨[],0⟩⟩
def viewAt(w:World)(a:Option Addr)(v:List Cnt):Prop:=
 ∀i,i<v.length->∃b off ra rc,a=some ⟨b,off,none⟩/\Δ w b (off+i * 2) (.slice ra (v.getD i ϰ).r.length rc)/\vl.rowAt w ra (v.getD i ϰ).r/\Δ w b (off+i * 2+1) (.int .i64 (v.getD i ϰ).n)
def EJ(v:List Cnt):Prop:=∀c∈v,Cj c.r/\c.r.length<=χ/\(-9223372036854775808<=c.n/\c.n<=9223372036854775807)
theorem UE{v:List Cnt}(h:EJ v)(k:Nat)(a:k<v.length):Cj (v.getD k ϰ).r/\(v.getD k ϰ).r.length<=χ/\(-9223372036854775808<=(v.getD k ϰ).n/\(v.getD k ϰ).n<=9223372036854775807):=
 h _ (by simp[gDe,a])
def Hh(v:List Cnt)(i:Nat):Prop:=
 A3 (v.getD i ϰ).r=0/\1<=(v.getD i ϰ).n/\(v.getD i ϰ).n<=1073741824/\(0<i->B5 (v.getD (i - 1) ϰ).r (v.getD i ϰ).r<0)
def EK(v:List Cnt):Prop:=v.length<=4096/\∀i,i<v.length->Hh v i
instance(v:List Cnt)(i:Nat):Decidable (Hh v i):=by unfold Hh;infer_instance
instance(v:List Cnt):Decidable (EK v):=by unfold EK;infer_instance
def BE(v:List Cnt):Int:=if 4096<v.length then 2 else if EK v then 0 else 1
theorem QD{v:List Cnt}(h:4096<v.length):BE v=2:=by unfold BE;rw[if_pos h]
theorem UF{v:List Cnt}(h:EK v):BE v=0:=by
 have a:=h.1;unfold BE;rw[if_neg ϟ,if_pos h]
theorem S6{v:List Cnt}(h1:¬4096<v.length)(i:Nat)(a:i<v.length)(h:¬Hh v i):BE v=1:=by
 unfold BE;rw[if_neg h1,if_neg (λb=>h (b.2 i a))]
def Bi(v:List Cnt):KV:=v.map λc=>(encR c.r,c.n)
theorem Yh{a:KV}(h:∀p∈a,bytesBefore p.1 k=true):Kn a k n=a++[(k,n)]:=by
 have d:J5 a k=a:=by
  unfold J5;rw[filter_eq_self];intro p c;have b:=h p c;by_cases e:p.1=k
  ·rw[e,Ep]at b;exact absurd (of_decide_eq_true b) (List.lt_irrefl k)
  ·simpa using e
 unfold Kn;rw[d];clear d
 induction a with
 |nil=>rfl
 |cons y r ih=>
  rw[insK];have b:=h y (mem_cons_self ..);have f:bytesBefore k y.1=false:=by
   rw[Ep]at b⊢;exact decide_eq_false (List.lt_asymm (of_decide_eq_true b))
  rw[f,if_neg Ϡ,ih (λp c=>h p (mem_cons_of_mem _ c))];rfl
theorem Yi(v:List Cnt)(c:Cnt):Bi (v++[c])=Bi v++[(encR c.r,c.n)]:=by simp[Bi]
theorem Acz(v:List Cnt)(k:Nat)(h:k<v.length):v.take (k+1)=v.take k++[v.getD k ϰ]:=by
 rw[take_succ_eq_append_getElem h];simp[gDe,h]
theorem Oy{a b:List Cel}(ha:rowOk a)(i:rowOk b)(h:B5 a b<0):bytesBefore (encR a) (encR b)=true:=by
 have f:=PF a b ha.2 i.2;have c:=Kb (encR a) (encR b);rw[Ep];rw[f]at c;rw[c]at h;split at h
 ·rename_i d;rw[Gh]at d;exact d
 ·split at h<;>omega
theorem QE{v:List Cnt}{i:Nat}(f:EJ v)(d:i<v.length)(h:Hh v i):rowOk (v.getD i ϰ).r:=by
 have a:=h.1;unfold A3 at a;split at a
 ·cases a
 ·rename_i j;exact⟨ϟ,λc b=>⟨Lk a c b,(UE f i d).1 c b⟩⟩
theorem before_trans{a b c:List UInt8}(h1:bytesBefore a b=true)(d:bytesBefore b c=true):bytesBefore a c=true:=by
 rw[Ep]at *;exact decide_eq_true (List.lt_trans (of_decide_eq_true h1) (of_decide_eq_true d))
theorem P8{v:List Cnt}(d:EJ v)(k:Nat)(f:k<v.length)(h:∀i,i<=k->Hh v i):∀i,i<k->bytesBefore (encR (v.getD i ϰ).r) (encR (v.getD k ϰ).r)=true:=by
 induction k with
 |zero=>intro i b;exact absurd b (Nat.not_lt_zero i)
 |succ k ih=>
  intro i b;have c:bytesBefore (encR (v.getD k ϰ).r) (encR (v.getD (k+1) ϰ).r)=true:=by
   have a:=h (k+1) nR;exact Oy (QE d ϟ (h k ϟ)) (QE d f a) (by have:=a.2.2.2 ϟ;simpa using this)
  rcases Nat.lt_succ_iff_lt_or_eq.1 b with a|a
  ·exact before_trans (ih ϟ (λj l=>h j ϟ) i a) c
  ·rw[a];exact c
theorem Adg{v:List Cnt}(j:EJ v)(k:Nat)(f:k<v.length)(h:∀i,i<=k->Hh v i):∀p∈Bi (v.take k),bytesBefore p.1 (encR (v.getD k ϰ).r)=true:=by
 intro p a;unfold Bi at a;obtain⟨c,b,rfl⟩:=mem_map.1 a;obtain⟨i,d,rfl⟩:=getElem_of_mem b;rw[length_take]at d;have e:(v.take k)[i]'(by rw[length_take];omega)=v.getD i ϰ:=by
  rw[getElem_take];simp[gDe,show i<v.length by omega]
 rw[e];exact P8 j k f h i ϟ
theorem AbM{v:List Cnt}(b:EJ v)(k:Nat)(a:k<v.length)(h:∀i,i<=k->Hh v i):Kn (Bi (v.take k)) (encR (v.getD k ϰ).r) (v.getD k ϰ).n=Bi (v.take (k+1)):=by
 rw[Yh (Adg b k a h),Acz v k a,Yi]
theorem Yj{v:List Cnt}(l:EJ v)(h:EK v):rising (Bi v):=by
 unfold rising Bi;rw[pairwise_map,pairwise_iff_getElem];intro i j d a f;have b:v[i]=v.getD i ϰ:=by simp[gDe,d]
 have c:v[j]=v.getD j ϰ:=by simp[gDe,a]
 rw[b,c];exact P8 l j a (λm p=>h.2 m ϟ) i f
theorem Aam(n:Int)(w:ϛ):(Instr.makeMap 115 (some (.int .i64 n))).run Tryz.prog w= .ok (.map (some w.heap.size)) (w.alloc (.map #[] 0)):=by
 unfold Instr.makeMap;simp[run_underlying underlying115,go_sem,asInt,Result.andThen]
theorem Yk(w:ϛ):DZ (w.alloc (.map #[] 0)) w.heap.size 0 []:=World.ownsMap_made _ _ _ _
theorem S7{nn:Nat}{a:KV}(h:w'.ownsMap Tryz.prog 9 (plainElem (H:=Unit) Tryz.prog 3) B (nn+1) ((toD a).put (.string k) (.lit (.int .i64 n)))):DZ w' B (nn+1) (Kn a k n):=by
 rw[QC]at h;exact h
theorem NM(h:A3 r=0)(b:Cj r):rowOk r:=by
 unfold A3 at h;split at h
 ·cases h
 ·rename_i d;exact⟨ϟ,λc a=>⟨Lk h c a,b c a⟩⟩
theorem Yl{p:Nat->Prop}{j:Nat}(h:∀i,i<j->p i)(b:p j):∀i,i<=j->p i:=λi c=>by
 rcases Nat.lt_or_ge i j with a|a
 ·exact h i a
 ·rw[show i=j by omega];exact b
theorem BA(x:Int):IntKind.i64.wrap x=(x+9223372036854775808) % 18446744073709551616 - 9223372036854775808:=by
 simp only[IntKind.wrap,IntKind.signed,IntKind.bits];simp;split<;>omega
def Ym(v:List Cnt)(base:Nat)(e:Ending)(w':World):Prop:=
 (BE v=0/\EK v/\∃B,e= .returned (.tuple #[.map (some B),.int .i64 0])/\base<=B/\DZ w' B v.length (Bi v))\/
 (BE v≠0/\e= .returned (.tuple #[.map none,.int .i64 (BE v)]))
theorem Kq{a b:Int}(h:a=b):Ending.returned (.tuple #[.map none,.int .i64 a])= .returned (.tuple #[.map none,.int .i64 b]):=by rw[h]
attribute [local go_sem ↓] Go.wp_at_zero Go.wp_at_succ
theorem UG(a:Ϝ)(cap:Nat)(v:List Cnt)(w:ϛ)(hv:viewAt w a v)(W:EJ v)(hl:v.length<=χ):
 η 69 #[.slice a v.length cap] w λe w'=>Ym v w.heap.size e w'/\Ϟ w w':=by
 obtain⟨n,hn⟩:∃n,v.length=n:=⟨_,rfl⟩;have G:=hV0 hn;rw[hn]at hl⊢;clear hn;have bh:=Aam;by_cases h4:4096<n
 ·have f:ϝ (BE v=2):=QD (by rw[G.o];exact h4);go_enter func69,ntmps69;go_wp2
  go_ret2
  exact⟨.inr ⟨by rw[f.o];decide,Kq f.o.symm⟩,bR⟩
 ·go_enter func69,ntmps69;go_wp2
  go_loopw [17] (λi wr=> ∃k:Nat,k<=n/\i= .int .i64 k/\DZ wr w.heap.size k (Bi (v.take k))/\Ϟ w wr/\(∀i,i<k->Hh v i)) (λi _=>n - (intOf i).toNat)
  case atStart=>exact⟨0,ϟ,rfl,Yk w,Ϫ,λi O=>absurd O (Nat.not_lt_zero i)⟩
  case round=>
   obtain⟨k,hk,rfl,ag,u,ar⟩:=hrel;have I:=hV0 ag;have HA:=hV0 ar;have P:=u.size;have bc:=Mv ag;clear ag ar;by_cases a6:k<n
   ·have R:k<v.length:=by rw[G.o];exact a6
    obtain⟨b,o,q,y,e,x1,x2,x3⟩:=hv k R;subst e;obtain⟨aa,ab,a1,a2⟩:=UE W k R;have Z:=cLz u x1;have q3:=cLz u x3;have D:ϝ (vl.rowAt wr q (v.getD k ϰ).r):=Ac x2 u;have i1:(0:Int)<=(k:Int):=ϟ;have i2:(k:Int)<(n:Int):=ϟ;have S:ϝ (¬Hh v k->BE v=1):=S6 (by rw[G.o];exact h4) k R;have U:ϝ ((∀i,i<=k->Hh v i)->Kn (Bi (v.take k)) (encR (v.getD k ϰ).r) (v.getD k ϰ).n=Bi (v.take (k+1))):=AbM W k R;have aq:ϝ (Hh v k->rowOk (v.getD k ϰ).r):=λh=>QE W R h;have F:ϝ (Hh v k↔A3 (v.getD k ϰ).r=0/\1<=(v.getD k ϰ).n/\(v.getD k ϰ).n<=1073741824/\(0<k->B5 (v.getD (k - 1) ϰ).r (v.getD k ϰ).r<0)):=Iff.rfl;obtain⟨⟨r,m⟩,a4⟩:∃c,v.getD k ϰ=c:=⟨_,rfl⟩;rw[a4]at Z q3 D U aq F aa ab a1 a2;dsimp only at Z q3 D U aq F aa ab a1 a2;clear x1 x2 x3;obtain⟨E,V⟩:∃l,r.length=l:=⟨_,rfl⟩;rw[V]at Z;have K:ϝ (∀w,vl.rowAt w q r->CT 109 #[.slice q E y] w (θ w (.tuple #[.string (FV r),.int .i64 (A3 r)]))):=by
     subst V;exact λw h=>Mj q y r w h aa ab
    by_cases Q:A3 r=0
    ·by_cases e2:m<1
     ·have f:ϝ (BE v=1):=S.o (λh=>by have:=(F.o.1 h).2.1;omega);go_wp2_with (go_at_call 109;refine(K.o _ (Ac D.o Ϫ)).mono ?_;rintro e p ⟨rfl,d⟩;have L:=cLz d (a:=⟨wr,0,none⟩) (v:=.slice q E y) ϣ;have N:=cLz d (a:=⟨wr,1,none⟩) (v:=.int .i64 m) ϣ;have t:=(u.alloc P _).trans (d.mono Ϥ);have J:=CN (El I.o _) d;have A:Ϟ wr p:=Ϫ.trans (d.mono ϡ))
      go_ret2
      exact⟨.inr ⟨by rw[f.o];decide,Kq f.o.symm⟩,t⟩
     ·have a8:decide (m<1)=false:=decide_eq_false e2;by_cases e3:1073741824<m
      ·have f:ϝ (BE v=1):=S.o (λh=>by have:=(F.o.1 h).2.2.1;omega);go_wp2_with (go_at_call 109;refine(K.o _ (Ac D.o Ϫ)).mono ?_;rintro e p ⟨rfl,d⟩;have L:=cLz d (a:=⟨wr,0,none⟩) (v:=.slice q E y) ϣ;have N:=cLz d (a:=⟨wr,1,none⟩) (v:=.int .i64 m) ϣ;have t:=(u.alloc P _).trans (d.mono Ϥ);have J:=CN (El I.o _) d;have A:Ϟ wr p:=Ϫ.trans (d.mono ϡ))
       go_ret2
       exact⟨.inr ⟨by rw[f.o];decide,Kq f.o.symm⟩,t⟩
      ·have a9:decide (1073741824<m)=false:=decide_eq_false e3;have ai:rowOk r:=NM Q aa;have ao:ϝ ((FV r).data.toList=encR r):=K8 ai;have an:ϝ ((FV r).size<=maxLen):=Nat.le_trans (SY ai) ϩ;obtain⟨ks,aw⟩:∃s,FV r=s:=⟨_,rfl⟩;rw[aw]at K ao an;have ap:ϝ (keyOf Tryz.prog 9 (.string ks)=some (.string (encR r))):=by
        have h:=keyOf_string_mk underlying9 an.o;rw[ao.o]at h;exact h
       clear aw ai;by_cases e4:k=0
       ·subst e4;simp only[Nat.zero_mul,Nat.add_zero]at Z q3;have f:ϝ (Hh v 0):=F.o.2 ⟨Q,ϟ,ϟ,λh=>absurd h ϟ⟩;go_wp2_with (go_at_call 109;refine(K.o _ (Ac D.o Ϫ)).mono ?_;rintro e p ⟨rfl,d⟩;have L:=cLz d (a:=⟨wr,0,none⟩) (v:=.slice q E y) ϣ;have N:=cLz d (a:=⟨wr,1,none⟩) (v:=.int .i64 m) ϣ;have t:=(u.alloc P _).trans (d.mono Ϥ);have J:=CN (El I.o _) d;have A:Ϟ wr p:=Ϫ.trans (d.mono ϡ))
        go_quiet (fail)
        have ac:DZ (p.drewN nq) w.heap.size 0 (Bi (v.take 0)):=J;have ax:=below_drewN t nq;go_wp2_with (at_mapUpdate;refine wpList_mapUpdate_own _ rfl (.tmp 54) (.tmp 55) (.tmp 57) 115 rfl 9 3 law underlying115 _ w.heap.size 0 _ rfl ac ϩ _ _ (.string (encR r)) rfl rfl ap.o _ [] (plainElem_int underlying3 (WalkArith.wf_i64 ϟ)) ?_;intro w1 aj ah);go_roundw
        case rel=>exact⟨0+1,ϟ,by go_num,by rw[<-U.o (λi O=>by rw[show i=0 by omega];exact f.o)];exact S7 aj,ax.grown ah ax.size (λj hj=>by cases hj;exact Nat.le_refl _),λi O=>by rw[show i=0 by omega];exact f.o⟩
        case measure=>simp[intOf];omega
       ·obtain⟨j,rfl⟩:∃j,k=j+1:=⟨k - 1,ϟ⟩;have av:j<v.length:=by rw[G.o];omega
        obtain⟨b',o',H,Y,e',y1,y2,y3⟩:=hv j av
        cases e'
        have X:=cLz u y1;have ae:ϝ (vl.rowAt wr H (v.getD j ϰ).r):=Ac y2 u;obtain⟨a0,am,_,_⟩:=UE W j av;have T:ϝ (Hh v (j+1)↔A3 r=0/\1<=m/\m<=1073741824/\(B5 (v.getD j ϰ).r r<0)):=by
         show Hh v (j+1)↔_;rw[F.o];simp
        obtain⟨M,az⟩:∃c,(v.getD j ϰ).r=c:=⟨_,rfl⟩;rw[az]at X ae T a0 am;clear y1 y2 y3 az F e4;obtain⟨pl,ak⟩:∃l,M.length=l:=⟨_,rfl⟩;rw[ak]at X;have KR:ϝ (∀w,vl.rowAt w H M->vl.rowAt w q r->CT 130 #[.slice H pl Y,.slice q E y] w (θ w (.int .i64 (B5 M r)))):=by
         subst ak V;exact λw h h'=>YV H q Y y M r w h h' am ab
        have bd:(0:Int)<((j:Int)+1):=ϟ;have be:((j:Int))<(n:Int):=ϟ;have bg:(0:Int)<=(j:Int):=ϟ;have bi:IntKind.i64.wrap ((j:Int)+1 - 1)=(j:Int):=by rw[BA];omega
        have bj:IntKind.i64.wrap (j:Int)=(j:Int):=by rw[BA];omega
        obtain⟨cc,au⟩:∃c,B5 M r=c:=⟨_,rfl⟩;rw[au]at KR T;clear au ak V a0 am;by_cases e5:0<=cc
        ·have f:ϝ (BE v=1):=S.o (λh=>by have:=(T.o.1 h).2.2.2;omega);go_wp2_with (go_at_call 109;refine(K.o _ (Ac D.o Ϫ)).mono ?_;rintro e p ⟨rfl,d⟩;have L:=cLz d (a:=⟨wr,0,none⟩) (v:=.slice q E y) ϣ;have N:=cLz d (a:=⟨wr,1,none⟩) (v:=.int .i64 m) ϣ;have t:=(u.alloc P _).trans (d.mono Ϥ);have J:=CN (El I.o _) d;have A:Ϟ wr p:=Ϫ.trans (d.mono ϡ));have al:=cLz A X;have ad:ϝ (vl.rowAt p.drew H M):=Ac ae.o A.drew;have af:ϝ (vl.rowAt p.drew q r):=Ac D.o A.drew
         go_region_held3 (λw'=>Δ w' b (o+j * 2) (.slice H pl Y)/\Δ w' wr 0 (.slice q E y)) (first|go_keep|exact⟨cLz z al,cLz z L⟩)
          (first|(go_at_call 130;refine(KR.o p.drew ad.o af.o).mono ?_;rintro e wq ⟨rfl,z⟩))
         all_goals
          go_wp2
          go_ret2
          exact⟨.inr ⟨by rw[f.o];decide,Kq f.o.symm⟩,by first|exact bT t z|exact t.drew.trans (z.mono t.size)⟩
        ·have f:ϝ (Hh v (j+1)):=T.o.2 ⟨Q,ϟ,ϟ,ϟ⟩;have ba:¬0<=cc:=e5;go_wp2_with (go_at_call 109;refine(K.o _ (Ac D.o Ϫ)).mono ?_;rintro e p ⟨rfl,d⟩;have L:=cLz d (a:=⟨wr,0,none⟩) (v:=.slice q E y) ϣ;have N:=cLz d (a:=⟨wr,1,none⟩) (v:=.int .i64 m) ϣ;have t:=(u.alloc P _).trans (d.mono Ϥ);have J:=CN (El I.o _) d;have A:Ϟ wr p:=Ϫ.trans (d.mono ϡ));have al:=cLz A X;have ad:ϝ (vl.rowAt p.drew H M):=Ac ae.o A.drew;have af:ϝ (vl.rowAt p.drew q r):=Ac D.o A.drew
         go_region_held3 (λw'=>Δ w' b (o+j * 2) (.slice H pl Y)/\Δ w' wr 0 (.slice q E y)) (first|go_keep|exact⟨cLz z al,cLz z L⟩)
          (first|(go_at_call 130;refine(KR.o p.drew ad.o af.o).mono ?_;rintro e wq ⟨rfl,z⟩))
         all_goals
          have ay:Ϟ w wq:=by first|exact bT t z|exact t.drew.trans (z.mono t.size)
          have bb:=cLz z N;have ac:DZ p.drew w.heap.size (j+1) (Bi (v.take (j+1))):=J;have a3:=CN ac z;go_wp2_with (at_mapUpdate;refine wpList_mapUpdate_own _ rfl (.tmp 54) (.tmp 55) (.tmp 57) 115 rfl 9 3 law underlying115 _ w.heap.size (j+1) _ rfl a3 ϩ _ _ (.string (encR r)) rfl rfl ap.o _ [] (plainElem_int underlying3 (WalkArith.wf_i64 ϟ)) ?_;intro w1 aj ah);go_roundw
          case rel=>exact⟨j+1+1,ϟ,by go_num,by rw[<-U.o (Yl HA.o f.o)];exact S7 aj,ay.grown ah ay.size (λx hx=>by cases hx;exact Nat.le_refl _),λi O=>by
           rcases Nat.lt_or_ge i (j+1)with h|h
           ·exact HA.o i h
           ·rw[show i=j+1 by omega];exact f.o⟩
          case measure=>simp[intOf];omega
    ·have a7:(A3 r==0)=false:=by simpa using Q
     have f:ϝ (BE v=1):=S.o (λh=>Q (F.o.1 h).1);go_wp2_with (go_at_call 109;refine(K.o _ (Ac D.o Ϫ)).mono ?_;rintro e p ⟨rfl,d⟩;have L:=cLz d (a:=⟨wr,0,none⟩) (v:=.slice q E y) ϣ;have N:=cLz d (a:=⟨wr,1,none⟩) (v:=.int .i64 m) ϣ;have t:=(u.alloc P _).trans (d.mono Ϥ);have J:=CN (El I.o _) d;have A:Ϟ wr p:=Ϫ.trans (d.mono ϡ))
     go_ret2
     exact⟨.inr ⟨by rw[f.o];decide,Kq f.o.symm⟩,t⟩
   ·have a5:k=n:=ϟ;have HT:ϝ (v.take k=v):=take_of_length_le (by rw[G.o];omega);have HO:ϝ (EK v):=⟨by rw[G.o];omega,λi O=>HA.o i (by rw[G.o]at O;omega)⟩;go_wp2
    go_ret2
    exact⟨.inl ⟨UF HO.o,HO.o,w.heap.size,rfl,Nat.le_refl _,by have h:=I.o;rw[HT.o,a5]at h;rw[G.o];exact h⟩,u⟩
theorem Nl:(Tryz.prog.info? 177).map (λi=>(i.zero,i.size,i.bytes))=some (some (.agg #[.slice none 0 0,.int .i64 0]),2,32):=Ϣ
theorem GC(r:List Cel)(k:ByteArray)(w:ϛ)(h:rowOk r)(f:encR r=k.data.toList)(i:k.size<=maxLen):
 η 134 #[.string k] w λe w'=>(∃a cap,e= .returned (.slice a r.length cap)/\A4 w' w (.slice a r.length cap) r)/\Ϟ w w':=by
 obtain⟨n,c⟩:∃n,r.length=n:=⟨_,rfl⟩;have b:=SV k r w i h f;rw[c]at b⊢;clear c;go_enter func134,ntmps134;go_wp2_with fail;refine b.mono ?_;rintro e w1 ⟨⟨a,cap,rfl,j⟩,d⟩;go_wp2;go_ret;exact⟨⟨a,cap,rfl,j⟩,d⟩
theorem own_below{n:Nat}(h:w.ownsRow base e size v n xs)(j:Ϟ w w'):w'.ownsRow base e size v n xs:=by
 refine⟨h.1,?_⟩;rcases h.2 with d|⟨g,cap,c,m,f,a,i⟩
 ·exact .inl d
 ·have b:g<w.heap.size:=by
   rcases Nat.lt_or_ge g w.heap.size with b|l
   ·exact b
   ·rw[Array.getElem?_eq_none l]at a;cases a
  exact .inr ⟨g,cap,c,m,f,by rw[j.block g b];exact a,i⟩
def flat(l:List (Value×Int)):List Value:=l.flatMap λp=>[p.1,.int .i64 p.2]
theorem L0(l:List (Value×Int))(x:Value)(n:Int):flat (l++[(x,n)])=flat l++[x,.int .i64 n]:=by
 unfold flat;rw[flatMap_append];simp
theorem Aan{J:Array Oper}{o:Oper}{a:Act}{K:Act->World->Prop}{Q:Exit->Act->World->Prop}{E:Prop}(q:o.guard=none)(s x:Operand)
 (z:o.op= .call {callee:=.builtin .append,args:=#[s,x],argTypes:=#[74,74]})
 (base:Nat) (v:Value) (l:List (Value×Int)) (n:Int) (ad:Ϝ) (d cap:Nat) (w1:ϛ) (b:Nat) (N:l.length=b) (y:w1.ownsRow base 177 2 v b (flat l)) (M:b<=1000000) (L:base<=w1.heap.size)
 (A:a.eval s=v) (D:a.eval x= .slice (τ w1) 1 1)
 (h:∀g c w2,w2.ownsRow base 177 2 (.slice (τ g) (b+1) c) (b+1) (flat (l++[(.slice ad d cap,n)]))->(w1.alloc (.cells #[.slice ad d cap,.int .i64 n] 177)).grownBy w2 v.ownBlock->(v.ownBlock=some g\/g=w1.heap.size+1)->g<w2.heap.size->K (a.put o.dst (.slice (τ g) (b+1) c)) w2):
 if Region.wanted o (yielded J a.tmps)=true then Oper.wp Tryz.prog o a (ξ w1 #[.slice ad d cap,.int .i64 n] 177) K Q else E:=by
 obtain⟨I,t,F,G,H⟩:=info_parts Nl;refine step_append_lies _ q s x 74 z base 177 I (.agg #[.slice none 0 0,.int .i64 0]) 2 32 underlying74 t F G H rfl Ϡ v b (flat l) A
  (y.alloc _) ⟨w1,0,none⟩ 1 1 [.slice ad d cap,.int .i64 n] D rfl (cell_two_new _ _ _ _) (by intro u f;simp at f;rcases f with rfl|rfl<;>rfl) Ϡ ϩ ϟ Ϥ (w1.heap.size+1) ϡ ?_
 intro g c w2 i j m p;exact h g c w2 (by rw[L0];exact i) j m p
theorem S8{o:Obj}(b:(w1.alloc o).grownBy w2 row)(a:Δ w1 C 0 v)(d:row≠some C):Δ w2 C 0 v:=by
 have c:=bLt _ _ a;refine b.cell ?_ (λh=>d h.symm);rw[World.cell?_alloc_lt]
 ·exact a
 ·exact c
theorem NN{o:Obj}(d:(w1.alloc o).grownBy w2 row)(b:Δ w1 C 0 v)(j:row≠some C)(c:Ξ w1 C 0):Ξ w2 C 0:=by
 have f:=bLt _ _ b;have i:C<w1.heap.size:=f;rw[d.frozen_far ⟨C,0,none⟩ Ϥ (λh=>j h.symm)];have a:=((Below.refl w1.heap.size w1).alloc nR o).frozen (p:=⟨C,0,none⟩) i;exact a.trans c
theorem Aao(C base:Nat)(k:ByteArray)(n:Int)(v:Value)(l:List (Value×Int))(r:List Cel)(w:ϛ)(A:Δ w C 0 v)(O:Ξ w C 0)
 (s:w.ownsRow base 177 2 v l.length (flat l)) (z:v.ownBlock≠some C) (E:l.length<=1000000) (M:base<=w.heap.size) (T:rowOk r) (P:encR r=k.data.toList) (Q:k.size<=maxLen):
 η 133 #[.string k,.int .i64 n,μ C] w λe w'=>e= .returned (.tuple #[])/\∃w1 w2 a cap g c,
  Below w.drew.heap.size w.drew w1/\A4 w1 w (.slice a r.length cap) r/\w2.ownsRow base 177 2 (.slice (τ g) (l.length+1) c) (l.length+1) (flat (l++[(.slice a r.length cap,n)]))/\
  (w1.alloc (.cells #[.slice a r.length cap,.int .i64 n] 177)).grownBy w2 v.ownBlock/\(v.ownBlock=some g\/g=w1.heap.size+1)/\w'=w2.setCell ⟨C,0,none⟩ (.slice (τ g) (l.length+1) c):=by
 have N:=bLt _ _ A;have f:=GC r k w.drew T P Q;obtain⟨y,t⟩:∃x,r.length=x:=⟨_,rfl⟩;have i:=hV0 t;rw[t]at f;obtain⟨u,q⟩:∃x,l.length=x:=⟨_,rfl⟩;have h:=hV0 q;rw[q]at s E;obtain⟨d,D,F,G,H⟩:=info_parts Nl;have U:ϝ (Tryz.prog.info? 177=some d/\d.zero=some (.agg #[.slice none 0 0,.int .i64 0])/\d.size=2/\d.bytes=32):=⟨D,F,G,H⟩;have I:ϝ (CT 134 #[.string k] w.drew λe w'=>(∃a cap,e= .returned (.slice a y cap)/\A4 w' w.drew.heap.size (.slice a y cap) r)/\Below w.drew.heap.size w.drew w'):=f;have J:ϝ (w.drew.ownsRow base 177 2 v u (flat l)):=s.drew;clear f t q D F G H s;go_enter func133,ntmps133;go_wp2
 go_region_law (first
  |(refine Aan (by rfl) (.tmp 5) (.tmp 10) (by rfl) base v l n a y cap w1 u h.o K.o E (Nat.le_trans M b.size) (by rfl) (by rfl) ?_;intro g c w2 S m L Y;have W:Δ w2 C 0 v:=S8 m j z;have X:Ξ w2 C 0:=NN m j z ((b.frozen (p:=⟨C,0,none⟩) N).trans O))
  |(go_simp;go_at_call 134;refine I.o.mono ?_;rintro e w1 ⟨⟨a,cap,rfl,R⟩,b⟩;have j:Δ w1 C 0 v:=cLz b A;have V:∀o,Δ (w1.alloc o) C 0 v:=λo=>cLz (bR.alloc nR o) j;have K:ϝ (w1.ownsRow base 177 2 v u (flat l)):=own_below J.o b))
 all_goals
  go_wp2
  go_end0
  refine⟨rfl,w1,w2,a,cap,g,c,b,?_,?_,?_,L,?_⟩
  ·rw[i.o];exact R
  ·rw[h.o,i.o];exact S
  ·rw[i.o];exact m
  ·rw[h.o]
theorem A2{n:Nat}(h:w.ownsRow base e size v n xs)(i:∀g,v.ownBlock=some g->w'.heap[g]? =w.heap[g]?):w'.ownsRow base e size v n xs:=by
 refine⟨h.1,?_⟩;rcases h.2 with c|⟨g,cap,b,a,d,j,f⟩
 ·exact .inl c
 ·exact .inr ⟨g,cap,b,a,d,by rw[i g (by rw[a];rfl)];exact j,f⟩
structure fr(C:Nat)(o:Option Nat)(w w':World):Prop where
 os:w'.os=w.os
 tape:w'.tape=w.tape
 output:w'.output=w.output
 size:w.heap.size<=w'.heap.size
 block:∀b,b<w.heap.size->b≠C->o≠some b->w'.heap[b]? =w.heap[b]?
theorem Aap{a:ϛ}(h:Below B a w)(k:fr C o w w')(f:B<=C)(c:∀b,o=some b->B<=b)(d:B<=w.heap.size):Below B a w':=
 h.trans ⟨k.os,k.tape,k.output,k.size,λb i=>k.block b ϟ ϟ (λe=>by have:=c b e;omega)⟩
theorem Aaq(h:Ϟ w w'):fr C o w w':=⟨h.os,h.tape,h.output,h.size,λb a _ _=>h.block b a⟩
theorem S9{a:Option Nat}(h:fr C o w w1)(k:fr C a w1 w2)(j:a=o\/∃g,a=some g/\w.heap.size<=g):fr C o w w2:=
 ⟨k.os.trans h.os,k.tape.trans h.tape,k.output.trans h.output,Nat.le_trans h.size k.size,λb d c f=>by
  have i:=h.block b d c f;rw[<-i];refine k.block b (Nat.lt_of_lt_of_le d h.size) c ?_;rcases j with rfl|⟨g,rfl,l⟩
  ·exact f
  ·intro e;cases e;omega⟩
theorem AbN(h:fr C o w w'){p:Addr}(c:p.block<w.heap.size)(a:p.block≠C)(b:o≠some p.block):w'.cell? p=w.cell? p:=cOb (w:=w) (h.block p.block c a b)
structure VS(w:World)(C base:Nat)(v:Value)(out:List Cnt):Prop where
 cell:Δ w C 0 v
 frz:Ξ w C 0
 apart:v.ownBlock≠some C
 low:base<=w.heap.size
 rows:∃l:List (Value×Int),l.length=out.length/\w.ownsRow base 177 2 v l.length (flat l)/\∀i,i<out.length->
  (l.getD i (.bool false,0)).2=(out.getD i ϰ).n/\∃ad cap,(l.getD i (.bool false,0)).1= .slice ad (out.getD i ϰ).r.length cap/\A4 w base (.slice ad (out.getD i ϰ).r.length cap) (out.getD i ϰ).r/\
   ∀g,(Value.slice ad (out.getD i ϰ).r.length cap).ownBlock=some g->g≠C/\v.ownBlock≠some g
theorem AM{n:Nat}(h:w.ownsRow base e size v n xs)(a:v.ownBlock=some g):base<=g/\g<w.heap.size:=World.ownsRow.lt h g a
theorem Kr{α:Type}(l:List α)(x d:α)(i:Nat)(h:i<l.length):(l++[x]).getD i d=l.getD i d:=by
 simp only[gDe,getElem?_append_left h]
theorem Ks{α:Type}(l:List α)(x d:α)(i:Nat)(h:i=l.length):(l++[x]).getD i d=x:=by
 subst h;simp[gDe]
theorem AbO{out:List Cnt}{l:List (Value×Int)}{ad:Ϝ}{cap cap2:Nat}(h:VS w C base v out)
 (U:l.length=out.length) (V:w.ownsRow base 177 2 v l.length (flat l)) (W:∀i,i<out.length->
 (l.getD i (.bool false,0)).2=(out.getD i ϰ).n/\∃ad cap,(l.getD i (.bool false,0)).1= .slice ad (out.getD i ϰ).r.length cap/\A4 w base (.slice ad (out.getD i ϰ).r.length cap) (out.getD i ϰ).r/\
  ∀g,(Value.slice ad (out.getD i ϰ).r.length cap).ownBlock=some g->g≠C/\v.ownBlock≠some g)
 (d:Below w.drew.heap.size w.drew w1) (y:A4 w1 w (.slice ad r.length cap) r) (X:w2.ownsRow base 177 2 (.slice (τ g) (l.length+1) cap2) (l.length+1) (flat (l++[(.slice ad r.length cap,n)])))
 (f:(w1.alloc (.cells #[.slice ad r.length cap,.int .i64 n] 177)).grownBy w2 v.ownBlock) (q:v.ownBlock=some g\/g=w1.heap.size+1):
 VS (φ w2 C 0 (.slice (τ g) (l.length+1) cap2)) C base (.slice (τ g) (l.length+1) cap2) (out++[⟨r,n⟩])/\fr C v.ownBlock w (φ w2 C 0 (.slice (τ g) (l.length+1) cap2)):=by
 have P:C<w.heap.size:=bLt _ _ h.cell;have Y:w.heap.size<=w1.heap.size:=d.size;have Z:w1.heap.size+1<=w2.heap.size:=by have:=f.size;simpa using this
 have G:Δ w1 C 0 v:=cLz d h.cell;have R:Ξ w1 C 0:=(d.frozen (p:=⟨C,0,none⟩) P).trans h.frz;have Q:=S8 f G h.apart;have S:=NN f G h.apart R;have K:∀b,v.ownBlock=some b->base<=b/\b<w.heap.size:=λb a=>AM V a;have H:g≠C:=by
  rcases q with c|c
  ·intro e;subst e;exact h.apart c
  ·omega
 have F:∀b,b<w1.heap.size->b≠C->v.ownBlock≠some b->(w2.setCell ⟨C,0,none⟩ (.slice (τ g) (l.length+1) cap2)).heap[b]? =w1.heap[b]? :=λb a u x=>by
  rw[Below.heap_setCell _ _ _ b u,f.block b Ϥ (λe=>x e.symm)];exact Below.heap_alloc _ _ b a
 have t:fr C v.ownBlock w (φ w2 C 0 (.slice (τ g) (l.length+1) cap2)):=by
  have j:=(((d.mono (Nat.zero_le _)).alloc (Nat.zero_le _) (.cells #[.slice ad r.length cap,.int .i64 n] 177)).grown f (Nat.zero_le _) (λ_ _=>Nat.zero_le _)).setCell (p:=⟨C,0,none⟩) (Nat.zero_le _) (.slice (τ g) (l.length+1) cap2);exact⟨j.os,j.tape,j.output,j.size,λb a u x=>(F b ϟ u x).trans (d.block b a)⟩
 refine⟨⟨World.cell?_setCell_same _ _ _ Q,by rw[World.frozen?_setCell];exact S,λe=>H (by cases e;rfl),Nat.le_trans h.low t.size,?_⟩,t⟩;refine⟨l++[(.slice ad r.length cap,n)],by rw[lAp,lAp,U];rfl,?_,?_⟩
 ·rw[lAp];refine A2 X (λb a=>?_);have:b=g:=by cases a;rfl
  subst this;exact Below.heap_setCell _ _ _ b H
 ·intro i I;rw[lAp]at I;by_cases J:i<out.length
  ·rw[Kr out _ _ i J,Kr l _ _ i ϟ];obtain⟨N,L,M,O,m,D⟩:=W i J;refine⟨N,L,M,O,?_,?_⟩
   ·refine A2 m (λb a=>?_);obtain⟨z,A⟩:=D b a;exact t.block b (AM m a).2 z A
   ·intro b a;obtain⟨z,A⟩:=D b a;refine⟨z,λe=>?_⟩;have s:g=b:=by cases e;rfl
    subst s;rcases q with c|c
    ·exact A c
    ·have:=(AM m a).2;omega
  ·have T:i=out.length:=by simp at I;omega
   rw[Ks out _ _ i T,Ks l _ _ i ϟ];refine⟨rfl,ad,cap,rfl,?_,?_⟩
   ·refine A2 (World.ownsRow.mono y h.low) (λb a=>?_);have E:=AM y a;exact F b E.2 ϟ (λe=>by have:=(K b e).2;omega)
   ·intro b a;have E:=AM y a;refine⟨ϟ,λe=>?_⟩;have s:g=b:=by cases e;rfl
    subst s;rcases q with c|c
    ·have:=(K g c).2;omega
    ·omega
end ch
namespace ch
open vl
variable {w w' : ϛ} {C base cap : Nat} {v : Value}
theorem Yn(l:List UInt8):encStr l= .string ⟨l.toArray⟩:=rfl
theorem Iv{e:TypeId}{size:Nat}{n:Nat}{xs:List Value}(h:w.ownsRow base e size v n xs):∃a cap,v= .slice a n cap/\(0<n->∃g,a=some ⟨g,0,none⟩):=by
 rcases h.2 with⟨rfl,b⟩|⟨g,cap,c,rfl,_⟩
 ·exact⟨none,0,by rw[b],λh=>absurd b ϟ⟩
 ·exact⟨_,_,rfl,λ_=>⟨g,rfl⟩⟩
theorem Aar{a:KV}{g:Nat}(h:w.ownsRow base 9 1 (.slice (τ g) a.length cap) a.length ((a.map (·.1)).map encStr))(i:Nat)(c:i<a.length):Δ w g i (.string ⟨(a.getD i ([],0)).1.toArray⟩):=by
 have b:=World.ownsRow.cells h (g:=g) rfl i (.string ⟨(a.getD i ([],0)).1.toArray⟩) (by
  simp only[map_map,getElem?_map,gEe c,Option.map_some,Function.comp,gDe,Option.getD_some,Yn])
 have e:(⟨g,0,none⟩:Addr).add i=⟨g,i,none⟩:=by unfold Addr.add;split<;>simp_all
 rw[e]at b;exact b
theorem Kt(v:List Cnt):(Bi v).length=v.length:=by simp[Bi]
theorem AbP(v:List Cnt)(i:Nat)(a:i<v.length):(Bi v).getD i ([],0)=(encR (v.getD i ϰ).r,(v.getD i ϰ).n):=by
 simp[Bi,gDe,a]
theorem AbQ{a:KV}(m:rising a)(i:Nat)(f:i<a.length):E5 a (a.getD i ([],0)).1=(a.getD i ([],0)).2:=by
 induction a generalizing i with
 |nil=>exact absurd f (Nat.not_lt_zero i)
 |cons p r ih=>
  cases i with
  |zero=>simp[E5]
  |succ i=>
   have b:=pairwise_cons.1 m;have h:i<r.length:=by simpa using f
   have e:(p::r).getD (i+1) ([],0)=r.getD i ([],0):=rfl;rw[e];have j:r.getD i ([],0)∈r:=by simp[gDe,h]
   have l:¬p.1=(r.getD i ([],0)).1:=λe=>by
    have c:=b.1 _ j;rw[e,Ep]at c;exact absurd (of_decide_eq_true c) (List.lt_irrefl _)
   have d:=ih b.2 i h;unfold E5 at d⊢;rw[find?_cons_of_neg (by simpa using l)];exact d
theorem AbR{B nn:Nat}{o:Option Nat}{a:KV}(h:DZ w B nn a)(k:fr C o w w')(l:B≠C)(p:o≠some B):DZ w' B nn a:=by
 have m:=Mv h;obtain⟨c,b,d,f,i,j⟩:=h;exact⟨c,b,by rw[k.block B m l p];exact d,f,i,j⟩
theorem Aas{out:List Cnt}(h:VS w C base v out)(a:Ϟ w w'):VS w' C base v out:=by
 have t:C<w.heap.size:=bLt _ _ h.cell;obtain⟨l,m,q,s⟩:=h.rows;refine⟨cLz a h.cell,(a.frozen (p:=⟨C,0,none⟩) t).trans h.frz,h.apart,Nat.le_trans h.low a.size,l,m,own_below q a,λi u=>?_⟩;obtain⟨c,b,cap,d,f,j⟩:=s i u;exact⟨c,b,cap,d,own_below f a,j⟩
theorem Aat(v:List Cnt)(k:Nat)(h:k<v.length)(r:List Cel)(n:Int)(e:v.getD k ϰ=⟨r,n⟩):v.take (k+1)=v.take k++[⟨r,n⟩]:=by rw[Acz v k h,e]
theorem Yo(B nn:Nat)(out:List Cnt)(C base:Nat)(d:Value)(w:ϛ)(P:DZ w B nn (Bi out))(hr:rising (Bi out))(an:∀c∈out,rowOk c.r)(a9:out.length<=100000)
 (t:VS w C base d []) (a3:B≠C) (a4:d.ownBlock≠some B):
 η 132 #[.map (some B),.func (.func 133) #[] #[μ C]] w λe w'=>e= .returned (.tuple #[])/\∃v,VS w' C base v out/\fr C d.ownBlock w w':=by
 have T:=hV0 P;have U:=hV0 hr;have W:=hV0 t;have az:=hV0 an;have be:=Mv P;have bg:C<w.heap.size:=bLt _ _ t.cell;clear P hr t an;have ag:=Kt out;obtain⟨n,D⟩:∃n,out.length=n:=⟨_,rfl⟩;have G:=hV0 D;have A:ϝ ((Bi out).length=n):=by show(Bi out).length=n;rw[ag,D]
 rw[D]at a9;clear ag D;go_enter func132,ntmps132;go_wp2_with fail;refine(Aal B _).mono ?_;rintro e w' ⟨rfl,rfl⟩;go_wp2_with fail;refine(UD B nn (Bi out) w T.o U.o (by rw[A.o];omega)).mono ?_;rintro e w1 ⟨⟨v,rfl,Q⟩,aa⟩;obtain⟨ks,kc,t,ah⟩:=Iv Q;rw[A.o]at t ah;subst t;have a1:=hV0 Q;have J:Ϟ w w1:=Ϫ.trans (aa.mono ϟ);have bh:w.heap.size+1<=w1.heap.size:=by have:=aa.size;simpa using this
 clear Q;have am:∀b,d.ownBlock=some b->b<w.heap.size:=λb hb=>by
  obtain⟨l,_,q,_⟩:=W.o.rows;exact(AM q hb).2
 have ay:=hV0 am;have a2:ϝ (VS w1 C base d []):=Aas W.o J;have ax:ϝ (DZ w1 B nn (Bi out)):=CN T.o J;clear am;go_wp2
 go_loopw [10] (λi wr=> ∃(k:Nat) (v:Value),k<=n/\i= .int .i64 k/\VS wr C base v (out.take k)/\fr C d.ownBlock w1 wr/\(v.ownBlock=d.ownBlock\/∃g,v.ownBlock=some g/\w1.heap.size<=g)) (λi _=>n - (intOf i).toNat)
 case atStart=>exact⟨0,d,ϟ,rfl,a2.o,⟨rfl,rfl,rfl,Nat.le_refl _,λ_ _ _ _=>rfl⟩,.inl rfl⟩
 case round=>
  obtain⟨k,v,hk,rfl,ap,ae,ao⟩:=hrel;have f:=hV0 ap;have u:=hV0 ae;have X:=hV0 ao;clear ap ae ao;by_cases al:k<n
  ·obtain⟨y,a7⟩:=ah ϟ;subst a7;have N:k<out.length:=by rw[G.o];exact al
   have af:k<(Bi out).length:=by rw[A.o];exact al
   have E:=a1.o;rw[<-A.o]at E;have a6:=AM E (g:=y) rfl;have ac:=Aar E k af;have z:Δ wr y k (.string ⟨((Bi out).getD k ([],0)).1.toArray⟩):=(AbN u.o (p:=⟨y,k,none⟩) a6.2 (show y≠C by omega) (λe=>by have:=ay.o y e;omega)).trans ac;have aq:ϝ (DZ wr B nn (Bi out)):=AbR ax.o u.o a3 a4;have j:=AbQ U.o k af;have s:rowOk (out.getD k ϰ).r:=az.o _ (by simp[gDe,N]);rw[AbP out k N]at z j;dsimp only at z j;obtain⟨⟨r,m⟩,L⟩:∃c,out.getD k ϰ=c:=⟨_,rfl⟩;have H:ϝ (out.take (k+1)=out.take k++[⟨r,m⟩]):=Aat out k N r m L;rw[L]at z j s;dsimp only at z j s;have a0:=hV0 s;have a5:=Hz r (λc K=>(s.2 c K).1);have bc:=s.1;obtain⟨a,M⟩:∃x,(⟨(encR r).toArray⟩:ByteArray)=x:=⟨_,rfl⟩;have F:ϝ (encR r=a.data.toList):=by show encR r=a.data.toList;rw[<-M]
   have R:ϝ (a.size<=maxLen):=by
    show a.size<=maxLen;rw[<-AU,<-F.o];unfold maxLen;omega
   rw[M]at z;have ar:ϝ (E5 (Bi out) a.data.toList=m):=by show E5 (Bi out) a.data.toList=m;rw[<-F.o];exact j
   clear L M j s a5 bc ac E;obtain⟨l,O,aj,ak⟩:=f.o.rows;have av:=hV0 O;have S:=hV0 aj;have aw:=hV0 ak;have ai:l.length<=1000000:=by rw[O,length_take,G.o];omega
   have au:=hV0 ai;clear O aj ak ai;have i1:(0:Int)<=(k:Int):=ϟ;have i2:(k:Int)<(n:Int):=ϟ;go_wp2_with (first
    |(at_lookup;refine wpList_lookup_own_int _ rfl (.tmp 16) (.tmp 17) 115 rfl 9 3 .i64 law underlying115 underlying3 (Ht _) B nn _ rfl aq.o _ (.string a.data.toList) rfl (keyOf_string_mk underlying9 R.o) ?_;intro c Y bk;have K:c=m:=(Hg Y).trans ar.o;clear Y;subst K)
    |(go_at_call 133;refine(Aao C base a _ v l r wr f.o.cell f.o.frz S.o f.o.apart au.o f.o.low a0.o F.o R.o).mono ?_;rintro e w9 ⟨rfl,w2,w3,ad,cap,g,bd,ab,ba,bb,a8,Z,rfl⟩))
   have V:=AbO f.o av.o S.o aw.o ab ba bb a8 Z;have bj:=u.o.size;have bi:wr.heap.size<=w2.heap.size:=ab.size;go_roundw
   case rel=>exact⟨k+1,_,ϟ,by go_num,by rw[H.o];exact V.1,S9 u.o V.2 X.o,by
    rcases Z with I|I
    ·rcases X.o with q|⟨g',q,h3⟩
     ·exact .inl (by rw[<-q,I];rfl)
     ·exact .inr ⟨g,rfl,by rw[I]at q;cases q;exact h3⟩
    ·exact .inr ⟨g,rfl,ϟ⟩⟩
   case measure=>simp[intOf];omega
  ·have H:ϝ (out.take k=out):=take_of_length_le (by rw[G.o];omega);go_wp2
   go_end0
   exact⟨rfl,v,by have h:=f.o;rw[H.o]at h;exact h,S9 (Aaq J) u.o (.inl rfl)⟩
theorem AbS(l:List (Value×Int))(i:Nat)(a:i<l.length):(flat l)[i * 2]? =some (l.getD i (.bool false,0)).1/\(flat l)[i * 2+1]? =some (.int .i64 (l.getD i (.bool false,0)).2):=by
 induction l generalizing i with
 |nil=>exact absurd a (Nat.not_lt_zero i)
 |cons p r ih=>
  have e:flat (p::r)=p.1:: .int .i64 p.2::flat r:=rfl;rw[e]
  cases i with
  |zero=>exact⟨rfl,rfl⟩
  |succ i=>
   have:=ih i (by simpa using a);rw[show(i+1) * 2=i * 2+1+1 by omega];simpa using this
theorem addr_add(g j:Nat):((⟨g,0,none⟩:Addr).add j)=⟨g,0+j,none⟩:=by unfold Addr.add;split<;>simp_all
theorem AbT{ad:Ϝ}{out:List Cnt}(h:VS w C base (.slice ad out.length cap) out):viewAt w ad out:=by
 intro i s;obtain⟨l,u,d,x⟩:=h.rows;obtain⟨j,y,z,m,p,_⟩:=x i s;rcases d.2 with⟨f,q⟩|⟨g,A,D,f,E,G,F⟩
 ·rw[u]at q;omega
 ·injection f with ha _ _
  subst ha;have c:=World.ownsRow.cells d (g:=g) rfl;have t:i<l.length:=ϟ;have a:=AbS l i t;have b:=addr_add g;refine⟨g,0,y,z,rfl,?_,E6 p,?_⟩
  ·have:=c _ _ a.1;rw[b,m]at this;exact this
  ·have:=c _ _ a.2;rw[b,j]at this;exact this
theorem Adh{out:List Cnt}(h:VS w C base v out):∃a cap,v= .slice a out.length cap:=by
 obtain⟨l,b,c,f⟩:=h.rows;obtain⟨a,cap,d,_⟩:=Iv c;exact⟨a,cap,by rw[d,b]⟩
end ch
end Go.Proofs.YtdohnkkbkfhphaaGreat
