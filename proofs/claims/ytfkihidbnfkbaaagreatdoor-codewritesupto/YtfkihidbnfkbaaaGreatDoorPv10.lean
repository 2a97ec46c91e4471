import Derived.Test.YtfkihidbnfkbaaaGreatDoorPv4
import Derived.Maps.Ext
import Derived.Deep.Onto
set_option linter.all false
set_option maxHeartbeats 8000000
set_option maxRecDepth 100000
open Go.ChangeShapes Go.WideShapes Go.ChangeAt Go.RowKit Go.Maps Go.WideAt Go.WideElems Go.WideMaps Go.Sort Go.Joins Go.Deep List
open Inhabited renaming default->ϰ
namespace Go.Proofs.YtfkihidbnfkbaaaGreatDoor
open Go.Proofs.Tryz
namespace ch
abbrev KV:=List (List UInt8×Int)
def insK(x:List UInt8×Int):KV->KV
 |[]=>[x]
 |y::r=>if bytesBefore x.1 y.1 then x::y::r else y::insK x r
def JG(kv:KV)(k:List UInt8):KV:=kv.filter λp=> !(p.1==k)
def Kk(kv:KV)(k:List UInt8)(n:Int):KV:=insK (k,n) (JG kv k)
def EP(kv:KV)(k:List UInt8):Int:=match kv.find? (λp=>p.1==k)with|some p=>p.2|none=>0
def ent(p:List UInt8×Int):Lit×DataW Unit:=(.string p.1,.lit (.int .i64 p.2))
def toD(kv:KV):DataW Unit:=.map (kv.map ent)
theorem Adg(x:List UInt8×Int)(l:KV):(insK x l).map ent=DataW.insert (ent x) (l.map ent):=by
 induction l with
 |nil=>rfl
 |cons y r ih=>
  rw[insK,map_cons,DataW.insert];have e:(ent x).1.before (ent y).1=bytesBefore x.1 y.1:=rfl;rw[e];split
  ·rfl
  ·rw[map_cons,ih]
theorem WC(l:KV)(k:List UInt8):(JG l k).map ent=(l.map ent).filter λp=> !p.1.sameKey (.string k):=by
 unfold JG;rw[filter_map];rfl
theorem QE(c:KV)(k:List UInt8)(n:Int):(toD c).put (.string k) (.lit (.int .i64 n))=toD (Kk c k n):=by
 unfold toD Kk;rw[Adg,WC];rfl
theorem Adh(c:KV)(k:List UInt8):(toD c).del (.string k)=toD (JG c k):=by
 unfold toD;rw[WC];rfl
theorem AeX(c:KV)(k:List UInt8):(toD c).atKey (.string k) (.lit (.int .i64 0))= .lit (.int .i64 (EP c k)):=by
 unfold toD DataW.atKey EP;simp only[find?_map];have e:((λp:Lit×DataW Unit=>p.1.sameKey (.string k))∘ent)=λp=>p.1==k:=rfl;rw[e]
 cases c.find? (λp=>p.1==k)<;>rfl
theorem Kl(c:KV):Maps.size (toD c)=c.length:=by
 unfold toD;rw[Maps.size_eq,lMp]
theorem law:Keyed Tryz.prog 9:=string_keyed underlying9
theorem Im(w:Ϡ):(zeroValue 3).run Tryz.prog w= .ok (.int .i64 0) w:=ϧ
def Ei(w:World)(B nn:Nat)(kv:KV):Prop:=w.ownsMap Tryz.prog 9 (plainElem (H:=Unit) Tryz.prog 3) B nn (toD kv)
theorem Hv{d:KV}{k:List UInt8}{c:Int}(h:(toD d).atKey (.string k) (.lit (.int .i64 0))= .lit (.int .i64 c)):c=EP d k:=by
 rw[AeX]at h;injection h with h
 injection h with _ h
 exact h.symm
def Adi(kv:KV)(k:List UInt8)(n:Int):Int:=
 if EP kv k+n<0 then 9 else if 1073741824<EP kv k+n then 2 else if EP kv k+n=0 then 0 else if EP kv k=0/\kv.length=4096 then 2 else 0
def UG(kv:KV)(k:List UInt8)(n:Int):KV:=
 if EP kv k+n<0 then kv else if 1073741824<EP kv k+n then kv else if EP kv k+n=0 then JG kv k else if EP kv k=0/\kv.length=4096 then kv else Kk kv k (EP kv k+n)
theorem Adj(B nn:Nat)(l:KV)(k:ByteArray)(n:Int)(w:Ϡ)(F:Ei w B nn l)(m:k.size<=maxLen)(G:nn<maxLen)
 (h1: -1152921504606846976<=EP l k.data.toList) (L:EP l k.data.toList<=1152921504606846976) (R: -1152921504606846976<=n) (S:n<=1152921504606846976) (Q:l.length<=1152921504606846976):
 χ 163 #[.map (some B),.string k,.int .i64 n] w λe w'=>e= .returned (.int .i64 (Adi l k.data.toList n))/\Ei w' B (nn+1) (UG l k.data.toList n)/\w.grownBy w' (some B):=by
 have f:=hV0 F;obtain⟨h,A⟩:∃h,EP l k.data.toList=h:=⟨_,rfl⟩;have s:=hV0 A;rw[A]at h1 L;unfold Adi UG;rw[A];clear A F;by_cases y:h+n<0
 ·rw[if_pos y,if_pos y];go_enter func163,ntmps163;go_wp2_with (at_lookup;refine wpList_lookup_own_int _ rfl (.tmp 9) (.tmp 10) 223 rfl 9 3 .i64 law underlying223 underlying3 (Im _) B nn _ rfl f.o _ (.string k.data.toList) rfl (keyOf_string_mk underlying9 m) ?_;intro c d x;have j:c=h:=(Hv d).trans s.o;clear d;subst j);go_ret;exact⟨rfl,f.o.mono Ϥ,World.grownBy.refl _ _⟩
 ·rw[if_neg y,if_neg y];by_cases z:1073741824<h+n
  ·rw[if_pos z,if_pos z];go_enter func163,ntmps163;go_wp2_with (at_lookup;refine wpList_lookup_own_int _ rfl (.tmp 9) (.tmp 10) 223 rfl 9 3 .i64 law underlying223 underlying3 (Im _) B nn _ rfl f.o _ (.string k.data.toList) rfl (keyOf_string_mk underlying9 m) ?_;intro c d x;have j:c=h:=(Hv d).trans s.o;clear d;subst j);go_ret;exact⟨rfl,f.o.mono Ϥ,World.grownBy.refl _ _⟩
  ·rw[if_neg z,if_neg z];by_cases p:h+n=0
   ·rw[if_pos p,if_pos p];have I:(h+n==0)=true:=by rw[beq_iff_eq];exact p
    have P:Ϣ (h+n=0):=p;clear p;go_enter func163,ntmps163;go_wp2_with (first
     |(at_lookup;refine wpList_lookup_own_int _ rfl (.tmp 9) (.tmp 10) 223 rfl 9 3 .i64 law underlying223 underlying3 (Im _) B nn _ rfl f.o _ (.string k.data.toList) rfl (keyOf_string_mk underlying9 m) ?_;intro c d x;have j:c=h:=(Hv d).trans s.o;clear d;subst j)
     |(at_delete;refine wpList_delete_own _ rfl (.tmp 24) (.tmp 25) 223 9 rfl 3 law underlying223 _ B nn _ rfl f.o _ (.string k.data.toList) rfl (keyOf_string_mk underlying9 m) ?_;intro w1 q N))
    go_ret;exact⟨rfl,by rw[Adh]at q;exact q.mono Ϥ,N.grown⟩
   ·rw[if_neg p,if_neg p];have I:(h+n==0)=false:=by rw[beq_eq_false_iff_ne];exact p
    by_cases t:h=0
    ·have J:(h==0)=true:=by rw[beq_iff_eq];exact t
     have E:Ϣ (h=0):=t;clear t;have M:=λO=>f.o.len underlying223 O;simp only[Kl]at M;by_cases u:l.length=4096
     ·have K:((l.length:Int)==4096)=true:=by rw[beq_iff_eq];omega
      rw[if_pos ⟨E.o,u⟩,if_pos ⟨E.o,u⟩];clear u;go_enter func163,ntmps163;go_wp2_with (first
       |(at_lookup;refine wpList_lookup_own_int _ rfl (.tmp 9) (.tmp 10) 223 rfl 9 3 .i64 law underlying223 underlying3 (Im _) B nn _ rfl f.o _ (.string k.data.toList) rfl (keyOf_string_mk underlying9 m) ?_;intro c d x;have j:c=h:=(Hv d).trans s.o;clear d;subst j))
      go_ret;exact⟨rfl,f.o.mono Ϥ,World.grownBy.refl _ _⟩
     ·have K:((l.length:Int)==4096)=false:=by rw[beq_eq_false_iff_ne];omega
      rw[if_neg (λh=>u h.2),if_neg (λh=>u h.2)];go_enter func163,ntmps163;go_wp2_with (first
       |(at_lookup;refine wpList_lookup_own_int _ rfl (.tmp 9) (.tmp 10) 223 rfl 9 3 .i64 law underlying223 underlying3 (Im _) B nn _ rfl f.o _ (.string k.data.toList) rfl (keyOf_string_mk underlying9 m) ?_;intro c d x;have j:c=h:=(Hv d).trans s.o;clear d;subst j)
       |(at_mapUpdate;refine wpList_mapUpdate_own _ rfl (.tmp 34) (.tmp 35) (.tmp 36) 223 rfl 9 3 law underlying223 _ B nn _ rfl f.o G _ _ (.string k.data.toList) rfl rfl (keyOf_string_mk underlying9 m) _ [] (plainElem_int underlying3 (WalkArith.wf_i64 Ϥ)) ?_;intro w1 q D))
      go_ret;exact⟨rfl,by rw[QE]at q;exact q,D⟩
    ·have J:(h==0)=false:=by rw[beq_eq_false_iff_ne];exact t
     rw[if_neg (λh=>t h.1),if_neg (λh=>t h.1)];go_enter func163,ntmps163;go_wp2_with (first
      |(at_lookup;refine wpList_lookup_own_int _ rfl (.tmp 9) (.tmp 10) 223 rfl 9 3 .i64 law underlying223 underlying3 (Im _) B nn _ rfl f.o _ (.string k.data.toList) rfl (keyOf_string_mk underlying9 m) ?_;intro c d x;have j:c=h:=(Hv d).trans s.o;clear d;subst j)
      |(at_mapUpdate;refine wpList_mapUpdate_own _ rfl (.tmp 34) (.tmp 35) (.tmp 36) 223 rfl 9 3 law underlying223 _ B nn _ rfl f.o G _ _ (.string k.data.toList) rfl rfl (keyOf_string_mk underlying9 m) _ [] (plainElem_int underlying3 (WalkArith.wf_i64 Ϥ)) ?_;intro w1 q D))
     go_ret;exact⟨rfl,by rw[QE]at q;exact q,D⟩
end ch
namespace ch
def rising(kv:KV):Prop:=kv.Pairwise λp q=>bytesBefore p.1 q.1=true
theorem EC:∀(a b:List UInt8),bytesBefore a b=decide (a<b)
 |[],[]=>by simp[bytesBefore]
 |[],_::_=>by simp[bytesBefore]
 |_::_,[]=>by simp[bytesBefore]
 |a::x,b::y=>by
  rw[bytesBefore,EC x y];simp only[cons_lt_cons_iff];by_cases c:a<b<;>by_cases d:a=b<;>by_cases f:x<y<;>simp[c,d,f]
theorem Mq(c:KV):strKeys (toD c)=c.map (·.1):=by
 show(c.map ent).map (λp=>strOf p.1)=c.map (·.1);rw[map_map];rfl
theorem S9{c:KV}(j:rising c){f:List (List UInt8)}(h:f.Perm (strKeys (toD c))):f.mergeSort (λx y=>decide (x<=y))=c.map (·.1):=by
 have e:=mergeSort_of_perm h;rw[Mq]at e;refine e.trans ?_;refine mergeSort_of_pairwise ?_;rw[pairwise_map];refine j.imp ?_;intro p q d;rw[EC]at d;exact decide_eq_true (List.le_of_lt (of_decide_eq_true d))
theorem Aa4(B:Nat)(w:Ϡ):χ 267 #[.map (some B)] w λe w'=>e= .returned (.func (.func 292) #[] #[ω w])/\w'=w.alloc (.cells #[.map (some B)] 223):=
 callsIn_wide.1 (Tryz.maps_Keys_267 (some B) w)
theorem UH(B nn:Nat)(c:KV)(w:Ϡ)(p:Ei w B nn c)(q:rising c)(t:c.length<=1000000):
 χ 266 #[.func (.func 292) #[] #[ω w]] (w.alloc (.cells #[.map (some B)] 223))
  λe w'=>(∃v,e= .returned v/\w'.ownsRow (w.heap.size+1) 9 1 v c.length ((c.map (·.1)).map encStr))/\Below (w.heap.size+1) (ϊ w #[.map (some B)] 223) w':=by
 have h:=Tryz.slices_Sorted_keys_266_267 B nn (toD c) (plainElem (H:=Unit) Tryz.prog 3) w p (by rw[Kl];unfold maxLen;omega) (by rw[Kl];omega);refine(callsIn_wide.1 h).mono ?_;rintro e w' ⟨v,s,l,j,d,u,f⟩;have m:s.length=c.length:=by rw[j.length_eq,Mq,lMp]
 rw[S9 q j,m]at d;simp only[World.size_alloc]at d f;exact⟨⟨v,l,d⟩,f⟩
end ch
namespace ch
variable {w : Ϡ} {B nn : Nat}
theorem C1{w':Ϡ}{f:KV}(h:Ei w B nn f)(s:ϣ w w'):Ei w' B nn f:=by
 obtain⟨l,j,c,m,p,q⟩:=h;have d:B<w.heap.size:=by
  rcases Nat.lt_or_ge B w.heap.size with d|t
  ·exact d
  ·rw[Array.getElem?_eq_none t]at c;cases c
 exact⟨l,j,by rw[s.block B d];exact c,m,p,q⟩
theorem Ey{c:KV}(h:Ei w B nn c)(o:Obj):Ei (w.alloc o) B nn c:=C1 h (bR.alloc nR o)
theorem MD{j:KV}(h:Ei w B nn j):B<w.heap.size:=by
 obtain⟨m,l,c,p,q,s⟩:=h;rcases Nat.lt_or_ge B w.heap.size with f|d
 ·exact f
 ·rw[Array.getElem?_eq_none d]at c;cases c
theorem Gy:∀(a b:List UInt8),Op.bytesLess a b=decide (a<b)
 |[],[]=>by simp[Op.bytesLess]
 |_::_,[]=>by simp[Op.bytesLess]
 |[],_::_=>by simp[Op.bytesLess]
 |a::x,b::y=>by
  rw[Op.bytesLess,Gy x y];simp only[cons_lt_cons_iff];by_cases c:a<b<;>by_cases d:a=b<;>by_cases f:x<y<;>simp[c,d,f]
end ch
namespace ch
open vl
variable {w w' w1 w2 : Ϡ} {k : List UInt8} {n : Int} {B C base g size : Nat} {r : List Cel} {e : TypeId} {v : Value} {xs : List Value} {o row : Option Nat}
structure Cnt where
 r:List Cel
 n:Int
instance:Inhabited Cnt:=⟨⟨[],0⟩⟩
def viewAt(w:World)(a:Option Addr)(v:List Cnt):Prop:=
 ∀i,i<v.length->∃b off ra rc,a=some ⟨b,off,none⟩/\Δ w b (off+i * 2) (.slice ra (v.getD i ϰ).r.length rc)/\vl.rowAt w ra (v.getD i ϰ).r/\Δ w b (off+i * 2+1) (.int .i64 (v.getD i ϰ).n)
def Cc(v:List Cnt):Prop:=∀c∈v,Bq c.r/\c.r.length<=ύ/\(-9223372036854775808<=c.n/\c.n<=9223372036854775807)
theorem Hw{v:List Cnt}(h:Cc v)(k:Nat)(c:k<v.length):Bq (v.getD k ϰ).r/\(v.getD k ϰ).r.length<=ύ/\(-9223372036854775808<=(v.getD k ϰ).n/\(v.getD k ϰ).n<=9223372036854775807):=
 h _ (by simp[gDe,c])
theorem Br{a:ϡ}{v:List Cnt}(h:viewAt w a v)(c:ϣ w w'):viewAt w' a v:=by
 intro i d;obtain⟨b,o,f,j,e,l,m,p⟩:=h i d;exact⟨b,o,f,j,e,cLz c l,Ac m c,cLz c p⟩
def Fe(v:List Cnt)(i:Nat):Prop:=
 Au (v.getD i ϰ).r=0/\1<=(v.getD i ϰ).n/\(v.getD i ϰ).n<=1073741824/\(0<i->AJ (v.getD (i - 1) ϰ).r (v.getD i ϰ).r<0)
def Ez(v:List Cnt):Prop:=v.length<=4096/\∀i,i<v.length->Fe v i
instance(v:List Cnt)(i:Nat):Decidable (Fe v i):=by unfold Fe;infer_instance
instance(v:List Cnt):Decidable (Ez v):=by unfold Ez;infer_instance
def Az(v:List Cnt):Int:=if 4096<v.length then 2 else if Ez v then 0 else 1
theorem Km{v:List Cnt}(h:4096<v.length):Az v=2:=by unfold Az;rw[if_pos h]
theorem Np{v:List Cnt}(h:Ez v):Az v=0:=by
 have c:=h.1;unfold Az;rw[if_neg Ϥ,if_pos h]
theorem Mr{v:List Cnt}(h1:¬4096<v.length)(i:Nat)(c:i<v.length)(h:¬Fe v i):Az v=1:=by
 unfold Az;rw[if_neg h1,if_neg (λd=>h (d.2 i c))]
def Be(v:List Cnt):KV:=v.map λc=>(encR c.r,c.n)
theorem Ya{c:KV}(h:∀p∈c,bytesBefore p.1 k=true):Kk c k n=c++[(k,n)]:=by
 have j:JG c k=c:=by
  unfold JG;rw[filter_eq_self];intro p f;have d:=h p f;by_cases e:p.1=k
  ·rw[e,EC]at d;exact absurd (of_decide_eq_true d) (List.lt_irrefl k)
  ·simpa using e
 unfold Kk;rw[j];clear j
 induction c with
 |nil=>rfl
 |cons y r ih=>
  rw[insK];have d:=h y (mem_cons_self ..);have l:bytesBefore k y.1=false:=by
   rw[EC]at d⊢;exact decide_eq_false (List.lt_asymm (of_decide_eq_true d))
  rw[l,if_neg ϥ,ih (λp f=>h p (mem_cons_of_mem _ f))];rfl
theorem Yb(v:List Cnt)(c:Cnt):Be (v++[c])=Be v++[(encR c.r,c.n)]:=by simp[Be]
theorem WE(v:List Cnt)(k:Nat)(h:k<v.length):v.take (k+1)=v.take k++[v.getD k ϰ]:=by
 rw[take_succ_eq_append_getElem h];simp[gDe,h]
theorem Pg{a b:List Cel}(ha:rowOk a)(j:rowOk b)(h:AJ a b<0):bytesBefore (encR a) (encR b)=true:=by
 have f:=P0 a b ha.2 j.2;have c:=I8 (encR a) (encR b);rw[EC];rw[f]at c;rw[c]at h;split at h
 ·rename_i d;rw[Gy]at d;exact d
 ·split at h<;>omega
theorem QF{v:List Cnt}{i:Nat}(l:Cc v)(j:i<v.length)(h:Fe v i):rowOk (v.getD i ϰ).r:=by
 have d:=h.1;unfold Au at d;split at d
 ·cases d
 ·rename_i m;exact⟨Ϥ,λc f=>⟨I9 d c f,(Hw l i j).1 c f⟩⟩
theorem before_trans{a b c:List UInt8}(h1:bytesBefore a b=true)(d:bytesBefore b c=true):bytesBefore a c=true:=by
 rw[EC]at *;exact decide_eq_true (List.lt_trans (of_decide_eq_true h1) (of_decide_eq_true d))
theorem PQ{v:List Cnt}(l:Cc v)(k:Nat)(m:k<v.length)(h:∀i,i<=k->Fe v i):∀i,i<k->bytesBefore (encR (v.getD i ϰ).r) (encR (v.getD k ϰ).r)=true:=by
 induction k with
 |zero=>intro i d;exact absurd d (Nat.not_lt_zero i)
 |succ k ih=>
  intro i d;have f:bytesBefore (encR (v.getD k ϰ).r) (encR (v.getD (k+1) ϰ).r)=true:=by
   have c:=h (k+1) nR;exact Pg (QF l Ϥ (h k Ϥ)) (QF l m c) (by have:=c.2.2.2 Ϥ;simpa using this)
  rcases Nat.lt_succ_iff_lt_or_eq.1 d with c|c
  ·exact before_trans (ih Ϥ (λj p=>h j Ϥ) i c) f
  ·rw[c];exact f
theorem AeY{v:List Cnt}(m:Cc v)(k:Nat)(l:k<v.length)(h:∀i,i<=k->Fe v i):∀p∈Be (v.take k),bytesBefore p.1 (encR (v.getD k ϰ).r)=true:=by
 intro p d;unfold Be at d;obtain⟨c,f,rfl⟩:=mem_map.1 d;obtain⟨i,j,rfl⟩:=getElem_of_mem f;rw[length_take]at j;have e:(v.take k)[i]'(by rw[length_take];omega)=v.getD i ϰ:=by
  rw[getElem_take];simp[gDe,show i<v.length by omega]
 rw[e];exact PQ m k l h i Ϥ
theorem Adk{v:List Cnt}(d:Cc v)(k:Nat)(c:k<v.length)(h:∀i,i<=k->Fe v i):Kk (Be (v.take k)) (encR (v.getD k ϰ).r) (v.getD k ϰ).n=Be (v.take (k+1)):=by
 rw[Ya (AeY d k c h),WE v k c,Yb]
theorem Yc{v:List Cnt}(q:Cc v)(h:Ez v):rising (Be v):=by
 unfold rising Be;rw[pairwise_map,pairwise_iff_getElem];intro i j l c p;have d:v[i]=v.getD i ϰ:=by simp[gDe,l]
 have f:v[j]=v.getD j ϰ:=by simp[gDe,c]
 rw[d,f];exact PQ q j c (λm s=>h.2 m Ϥ) i p
theorem Aa5(n:Int)(w:Ϡ):(Instr.makeMap 223 (some (.int .i64 n))).run Tryz.prog w= .ok (.map (some w.heap.size)) (w.alloc (.map #[] 0)):=by
 unfold Instr.makeMap;simp[run_underlying underlying223,go_sem,asInt,Result.andThen]
theorem Yd(w:Ϡ):Ei (w.alloc (.map #[] 0)) w.heap.size 0 []:=World.ownsMap_made _ _ _ _
theorem SA{nn:Nat}{c:KV}(h:w'.ownsMap Tryz.prog 9 (plainElem (H:=Unit) Tryz.prog 3) B (nn+1) ((toD c).put (.string k) (.lit (.int .i64 n)))):Ei w' B (nn+1) (Kk c k n):=by
 rw[QE]at h;exact h
theorem Nq(h:Au r=0)(f:Bq r):rowOk r:=by
 unfold Au at h;split at h
 ·cases h
 ·rename_i j;exact⟨Ϥ,λc d=>⟨I9 h c d,f c d⟩⟩
theorem Ye{p:Nat->Prop}{j:Nat}(h:∀i,i<j->p i)(d:p j):∀i,i<=j->p i:=λi f=>by
 rcases Nat.lt_or_ge i j with c|c
 ·exact h i c
 ·rw[show i=j by omega];exact d
theorem Cq(x:Int):IntKind.i64.wrap x=(x+9223372036854775808) % 18446744073709551616 - 9223372036854775808:=by
 simp only[IntKind.wrap,IntKind.signed,IntKind.bits];simp;split<;>omega
def Yf(v:List Cnt)(base:Nat)(e:Ending)(w':World):Prop:=
 (Az v=0/\Ez v/\∃B,e= .returned (.tuple #[.map (some B),.int .i64 0])/\base<=B/\Ei w' B v.length (Be v))\/
 (Az v≠0/\e= .returned (.tuple #[.map none,.int .i64 (Az v)]))
theorem Kn{a b:Int}(h:a=b):Ending.returned (.tuple #[.map none,.int .i64 a])= .returned (.tuple #[.map none,.int .i64 b]):=by rw[h]
attribute [local go_sem ↓] Go.wp_at_zero Go.wp_at_succ
theorem Nr(a:ϡ)(cap:Nat)(v:List Cnt)(w:Ϡ)(hv:viewAt w a v)(W:Cc v)(hl:v.length<=ύ):
 χ 161 #[.slice a v.length cap] w λe w'=>Yf v w.heap.size e w'/\ϣ w w':=by
 obtain⟨n,hn⟩:∃n,v.length=n:=⟨_,rfl⟩;have G:=hV0 hn;rw[hn]at hl⊢;clear hn;have bi:=Aa5;by_cases h4:4096<n
 ·have f:Ϣ (Az v=2):=Km (by rw[G.o];exact h4);go_enter func161,ntmps161;go_wp2
  go_ret2
  exact⟨.inr ⟨by rw[f.o];decide,Kn f.o.symm⟩,bR⟩
 ·go_enter func161,ntmps161;go_wp2
  go_loopw [17] (λi wr=> ∃k:Nat,k<=n/\i= .int .i64 k/\Ei wr w.heap.size k (Be (v.take k))/\ϣ w wr/\(∀i,i<k->Fe v i)) (λi _=>n - (intOf i).toNat)
  case atStart=>exact⟨0,Ϥ,rfl,Yd w,ϯ,λi O=>absurd O (Nat.not_lt_zero i)⟩
  case round=>
   obtain⟨k,hk,rfl,ah,u,au⟩:=hrel;have J:=hV0 ah;have HA:=hV0 au;have P:=u.size;have bd:=MD ah;clear ah au;by_cases a7:k<n
   ·have R:k<v.length:=by rw[G.o];exact a7
    obtain⟨b,o,q,y,e,x1,x2,x3⟩:=hv k R;subst e;obtain⟨aa,ab,a2,a3⟩:=Hw W k R;have Z:=cLz u x1;have q3:=cLz u x3;have D:Ϣ (vl.rowAt wr q (v.getD k ϰ).r):=Ac x2 u;have i1:=nn0 k;have i2:(k:Int)<(n:Int):=Ϥ;have S:Ϣ (¬Fe v k->Az v=1):=Mr (by rw[G.o];exact h4) k R;have U:Ϣ ((∀i,i<=k->Fe v i)->Kk (Be (v.take k)) (encR (v.getD k ϰ).r) (v.getD k ϰ).n=Be (v.take (k+1))):=Adk W k R;have ar:Ϣ (Fe v k->rowOk (v.getD k ϰ).r):=λh=>QF W R h;have F:Ϣ (Fe v k↔Au (v.getD k ϰ).r=0/\1<=(v.getD k ϰ).n/\(v.getD k ϰ).n<=1073741824/\(0<k->AJ (v.getD (k - 1) ϰ).r (v.getD k ϰ).r<0)):=Iff.rfl;obtain⟨⟨r,m⟩,a5⟩:∃c,v.getD k ϰ=c:=⟨_,rfl⟩;rw[a5]at Z q3 D U ar F aa ab a2 a3;dsimp only at Z q3 D U ar F aa ab a2 a3;clear x1 x2 x3;obtain⟨E,V⟩:∃l,r.length=l:=⟨_,rfl⟩;rw[V]at Z;have L:Ϣ (∀w,vl.rowAt w q r->CT 112 #[.slice q E y] w (ψ w (.tuple #[.string (FR r),.int .i64 (Au r)]))):=by
     subst V;exact λw h=>Jj q y r w h aa ab
    by_cases Q:Au r=0
    ·by_cases e2:m<1
     ·have f:Ϣ (Az v=1):=S.o (λh=>by have:=(F.o.1 h).2.1;omega);go_wp2_with (go_at_call 112;refine(L.o _ (Ac D.o ϯ)).mono ?_;rintro e p ⟨rfl,d⟩;have M:=cLz d (a:=⟨wr,0,none⟩) (v:=.slice q E y) Ϩ;have N:=cLz d (a:=⟨wr,1,none⟩) (v:=.int .i64 m) Ϩ;have t:=(u.alloc P _).trans (d.mono ϩ);have K:=C1 (Ey J.o _) d;have A:ϣ wr p:=ϯ.trans (d.mono Ϧ))
      go_ret2
      exact⟨.inr ⟨by rw[f.o];decide,Kn f.o.symm⟩,t⟩
     ·have a9:decide (m<1)=false:=decide_eq_false e2;by_cases e3:1073741824<m
      ·have f:Ϣ (Az v=1):=S.o (λh=>by have:=(F.o.1 h).2.2.1;omega);go_wp2_with (go_at_call 112;refine(L.o _ (Ac D.o ϯ)).mono ?_;rintro e p ⟨rfl,d⟩;have M:=cLz d (a:=⟨wr,0,none⟩) (v:=.slice q E y) Ϩ;have N:=cLz d (a:=⟨wr,1,none⟩) (v:=.int .i64 m) Ϩ;have t:=(u.alloc P _).trans (d.mono ϩ);have K:=C1 (Ey J.o _) d;have A:ϣ wr p:=ϯ.trans (d.mono Ϧ))
       go_ret2
       exact⟨.inr ⟨by rw[f.o];decide,Kn f.o.symm⟩,t⟩
      ·have ba:decide (1073741824<m)=false:=decide_eq_false e3;have aj:rowOk r:=Nq Q aa;have ap:Ϣ ((FR r).data.toList=encR r):=Ke aj;have ao:Ϣ ((FR r).size<=maxLen):=Nat.le_trans (Sd aj) Ϯ;obtain⟨ks,ax⟩:∃s,FR r=s:=⟨_,rfl⟩;rw[ax]at L ap ao;have aq:Ϣ (keyOf Tryz.prog 9 (.string ks)=some (.string (encR r))):=by
        have h:=keyOf_string_mk underlying9 ao.o;rw[ap.o]at h;exact h
       clear ax aj;by_cases e4:k=0
       ·subst e4;simp only[Nat.zero_mul,Nat.add_zero]at Z q3;have f:Ϣ (Fe v 0):=F.o.2 ⟨Q,Ϥ,Ϥ,λh=>absurd h Ϥ⟩;go_wp2_with (go_at_call 112;refine(L.o _ (Ac D.o ϯ)).mono ?_;rintro e p ⟨rfl,d⟩;have M:=cLz d (a:=⟨wr,0,none⟩) (v:=.slice q E y) Ϩ;have N:=cLz d (a:=⟨wr,1,none⟩) (v:=.int .i64 m) Ϩ;have t:=(u.alloc P _).trans (d.mono ϩ);have K:=C1 (Ey J.o _) d;have A:ϣ wr p:=ϯ.trans (d.mono Ϧ))
        go_quiet (fail)
        have ac:Ei (p.drewN nq) w.heap.size 0 (Be (v.take 0)):=K;have ay:=below_drewN t nq;go_wp2_with (at_mapUpdate;refine wpList_mapUpdate_own _ rfl (.tmp 54) (.tmp 55) (.tmp 57) 223 rfl 9 3 law underlying223 _ w.heap.size 0 _ rfl ac Ϯ _ _ (.string (encR r)) rfl rfl aq.o _ [] (plainElem_int underlying3 (WalkArith.wf_i64 Ϥ)) ?_;intro w1 ak ai);go_roundw;exact⟨0+1,Ϥ,by go_num,by rw[<-U.o (λi O=>by rw[show i=0 by omega];exact f.o)];exact SA ak,ay.grown ai ay.size (λj hj=>by cases hj;exact Nat.le_refl _),λi O=>by rw[show i=0 by omega];exact f.o⟩;simp[intOf];omega
       ·obtain⟨j,rfl⟩:∃j,k=j+1:=⟨k - 1,Ϥ⟩;have aw:j<v.length:=by rw[G.o];omega
        obtain⟨b',o',I,Y,e',y1,y2,y3⟩:=hv j aw
        cases e'
        have X:=cLz u y1;have af:Ϣ (vl.rowAt wr I (v.getD j ϰ).r):=Ac y2 u;obtain⟨a1,an,_,_⟩:=Hw W j aw;have T:Ϣ (Fe v (j+1)↔Au r=0/\1<=m/\m<=1073741824/\(AJ (v.getD j ϰ).r r<0)):=by
         show Fe v (j+1)↔_;rw[F.o];simp
        obtain⟨pr,a0⟩:∃c,(v.getD j ϰ).r=c:=⟨_,rfl⟩;rw[a0]at X af T a1 an;clear y1 y2 y3 a0 F e4;obtain⟨pl,al⟩:∃l,pr.length=l:=⟨_,rfl⟩;rw[al]at X;have KR:Ϣ (∀w,vl.rowAt w I pr->vl.rowAt w q r->CT 220 #[.slice I pl Y,.slice q E y] w (ψ w (.int .i64 (AJ pr r)))):=by
         subst al V;exact λw h h'=>Tn I q Y y pr r w h h' an ab
        have be:(0:Int)<((j:Int)+1):=Ϥ;have bg:((j:Int))<(n:Int):=Ϥ;have bh:=nn0 j;have bj:IntKind.i64.wrap ((j:Int)+1 - 1)=(j:Int):=by rw[Cq];omega
        have bk:IntKind.i64.wrap (j:Int)=(j:Int):=by rw[Cq];omega
        obtain⟨cc,av⟩:∃c,AJ pr r=c:=⟨_,rfl⟩;rw[av]at KR T;clear av al V a1 an;by_cases e5:0<=cc
        ·have f:Ϣ (Az v=1):=S.o (λh=>by have:=(T.o.1 h).2.2.2;omega);go_wp2_with (go_at_call 112;refine(L.o _ (Ac D.o ϯ)).mono ?_;rintro e p ⟨rfl,d⟩;have M:=cLz d (a:=⟨wr,0,none⟩) (v:=.slice q E y) Ϩ;have N:=cLz d (a:=⟨wr,1,none⟩) (v:=.int .i64 m) Ϩ;have t:=(u.alloc P _).trans (d.mono ϩ);have K:=C1 (Ey J.o _) d;have A:ϣ wr p:=ϯ.trans (d.mono Ϧ));have am:=cLz A X;have ae:Ϣ (vl.rowAt p.drew I pr):=Ac af.o A.drew;have ag:Ϣ (vl.rowAt p.drew q r):=Ac D.o A.drew
         go_region_held3 (λw'=>Δ w' b (o+j * 2) (.slice I pl Y)/\Δ w' wr 0 (.slice q E y)) (first|go_keep|exact⟨cLz z am,cLz z M⟩)
          (first|(go_at_call 220;refine(KR.o p.drew ae.o ag.o).mono ?_;rintro e wq ⟨rfl,z⟩))
         all_goals
          go_wp2
          go_ret2
          exact⟨.inr ⟨by rw[f.o];decide,Kn f.o.symm⟩,by first|exact bT t z|exact t.drew.trans (z.mono t.size)⟩
        ·have f:Ϣ (Fe v (j+1)):=T.o.2 ⟨Q,Ϥ,Ϥ,Ϥ⟩;have bb:¬0<=cc:=e5;go_wp2_with (go_at_call 112;refine(L.o _ (Ac D.o ϯ)).mono ?_;rintro e p ⟨rfl,d⟩;have M:=cLz d (a:=⟨wr,0,none⟩) (v:=.slice q E y) Ϩ;have N:=cLz d (a:=⟨wr,1,none⟩) (v:=.int .i64 m) Ϩ;have t:=(u.alloc P _).trans (d.mono ϩ);have K:=C1 (Ey J.o _) d;have A:ϣ wr p:=ϯ.trans (d.mono Ϧ));have am:=cLz A X;have ae:Ϣ (vl.rowAt p.drew I pr):=Ac af.o A.drew;have ag:Ϣ (vl.rowAt p.drew q r):=Ac D.o A.drew
         go_region_held3 (λw'=>Δ w' b (o+j * 2) (.slice I pl Y)/\Δ w' wr 0 (.slice q E y)) (first|go_keep|exact⟨cLz z am,cLz z M⟩)
          (first|(go_at_call 220;refine(KR.o p.drew ae.o ag.o).mono ?_;rintro e wq ⟨rfl,z⟩))
         all_goals
          have az:ϣ w wq:=by first|exact bT t z|exact t.drew.trans (z.mono t.size)
          have bc:=cLz z N;have ac:Ei p.drew w.heap.size (j+1) (Be (v.take (j+1))):=K;have a4:=C1 ac z;go_wp2_with (at_mapUpdate;refine wpList_mapUpdate_own _ rfl (.tmp 54) (.tmp 55) (.tmp 57) 223 rfl 9 3 law underlying223 _ w.heap.size (j+1) _ rfl a4 Ϯ _ _ (.string (encR r)) rfl rfl aq.o _ [] (plainElem_int underlying3 (WalkArith.wf_i64 Ϥ)) ?_;intro w1 ak ai);go_roundw;exact⟨j+1+1,Ϥ,by go_num,by rw[<-U.o (Ye HA.o f.o)];exact SA ak,az.grown ai az.size (λx hx=>by cases hx;exact Nat.le_refl _),λi O=>by
           rcases Nat.lt_or_ge i (j+1)with h|h
           ·exact HA.o i h
           ·rw[show i=j+1 by omega];exact f.o⟩
          simp[intOf];omega
    ·have a8:(Au r==0)=false:=by simpa using Q
     have f:Ϣ (Az v=1):=S.o (λh=>Q (F.o.1 h).1);go_wp2_with (go_at_call 112;refine(L.o _ (Ac D.o ϯ)).mono ?_;rintro e p ⟨rfl,d⟩;have M:=cLz d (a:=⟨wr,0,none⟩) (v:=.slice q E y) Ϩ;have N:=cLz d (a:=⟨wr,1,none⟩) (v:=.int .i64 m) Ϩ;have t:=(u.alloc P _).trans (d.mono ϩ);have K:=C1 (Ey J.o _) d;have A:ϣ wr p:=ϯ.trans (d.mono Ϧ))
     go_ret2
     exact⟨.inr ⟨by rw[f.o];decide,Kn f.o.symm⟩,t⟩
   ·have a6:k=n:=Ϥ;have HT:Ϣ (v.take k=v):=take_of_length_le (by rw[G.o];omega);have HO:Ϣ (Ez v):=⟨by rw[G.o];omega,λi O=>HA.o i (by rw[G.o]at O;omega)⟩;go_wp2
    go_ret2
    exact⟨.inl ⟨Np HO.o,HO.o,w.heap.size,rfl,Nat.le_refl _,by have h:=J.o;rw[HT.o,a6]at h;rw[G.o];exact h⟩,u⟩
theorem Ms:(Tryz.prog.info? 83).map (λi=>(i.zero,i.size,i.bytes))=some (some (.agg #[.slice none 0 0,.int .i64 0]),2,32):=ϧ
theorem Hc(r:List Cel)(k:ByteArray)(w:Ϡ)(h:rowOk r)(j:encR r=k.data.toList)(l:k.size<=maxLen):
 χ 231 #[.string k] w λe w'=>(∃ad cap,e= .returned (.slice ad r.length cap)/\AM w' w (.slice ad r.length cap) r)/\ϣ w w':=by
 obtain⟨n,d⟩:∃n,r.length=n:=⟨_,rfl⟩;have c:=Ng k r w l h j;rw[d]at c⊢;clear d;go_enter func231,ntmps231;go_wp2_with fail;refine c.mono ?_;rintro e w1 ⟨⟨ad,cap,rfl,m⟩,f⟩;go_wp2;go_ret;exact⟨⟨ad,cap,rfl,m⟩,f⟩
theorem own_below{n:Nat}(h:w.ownsRow base e size v n xs)(p:ϣ w w'):w'.ownsRow base e size v n xs:=by
 refine⟨h.1,?_⟩;rcases h.2 with j|⟨g,cap,f,s,l,c,m⟩
 ·exact .inl j
 ·have d:g<w.heap.size:=by
   rcases Nat.lt_or_ge g w.heap.size with d|q
   ·exact d
   ·rw[Array.getElem?_eq_none q]at c;cases c
  exact .inr ⟨g,cap,f,s,l,by rw[p.block g d];exact c,m⟩
def flat(l:List (Value×Int)):List Value:=l.flatMap λp=>[p.1,.int .i64 p.2]
theorem Jd(l:List (Value×Int))(x:Value)(n:Int):flat (l++[(x,n)])=flat l++[x,.int .i64 n]:=by
 unfold flat;rw[flatMap_append];simp
theorem Aa6{N:Array Oper}{o:Oper}{a:Act}{K:Act->World->Prop}{Q:Exit->Act->World->Prop}{E:Prop}(y:o.guard=none)(s x:Operand)
 (D:o.op= .call {callee:=.builtin .append,args:=#[s,x],argTypes:=#[40,40]})
 (base:Nat) (v:Value) (l:List (Value×Int)) (n:Int) (ad:ϡ) (f cap:Nat) (w1:Ϡ) (c:Nat) (R:l.length=c) (A:w1.ownsRow base 83 2 v c (flat l)) (P:c<=1000000) (O:base<=w1.heap.size)
 (F:a.eval s=v) (G:a.eval x= .slice (ϋ w1) 1 1)
 (h:∀g d w2,w2.ownsRow base 83 2 (.slice (ϋ g) (c+1) d) (c+1) (flat (l++[(.slice ad f cap,n)]))->(w1.alloc (.cells #[.slice ad f cap,.int .i64 n] 83)).grownBy w2 v.ownBlock->(v.ownBlock=some g\/g=w1.heap.size+1)->g<w2.heap.size->K (a.put o.dst (.slice (ϋ g) (c+1) d)) w2):
 if Region.wanted o (yielded N a.tmps)=true then Oper.wp Tryz.prog o a (ϊ w1 #[.slice ad f cap,.int .i64 n] 83) K Q else E:=by
 obtain⟨M,z,I,J,L⟩:=info_parts Ms;refine step_append_lies _ y s x 40 D base 83 M (.agg #[.slice none 0 0,.int .i64 0]) 2 32 underlying40 z I J L rfl ϥ v c (flat l) F
  (A.alloc _) ⟨w1,0,none⟩ 1 1 [.slice ad f cap,.int .i64 n] G rfl (cell_two_new _ _ _ _) (by intro u j;simp at j;rcases j with rfl|rfl<;>rfl) ϥ Ϯ Ϥ ϩ (w1.heap.size+1) Ϧ ?_
 intro g d w2 m p q t;exact h g d w2 (by rw[Jd];exact m) p q t
theorem SD{o:Obj}(d:(w1.alloc o).grownBy w2 row)(c:Δ w1 C 0 v)(j:row≠some C):Δ w2 C 0 v:=by
 have f:=bLt _ _ c;refine d.cell ?_ (λh=>j h.symm);rw[World.cell?_alloc_lt]
 ·exact c
 ·exact f
theorem Ns{o:Obj}(j:(w1.alloc o).grownBy w2 row)(d:Δ w1 C 0 v)(q:row≠some C)(f:Ξ w1 C 0):Ξ w2 C 0:=by
 have l:=bLt _ _ d;have m:C<w1.heap.size:=l;rw[j.frozen_far ⟨C,0,none⟩ ϩ (λh=>q h.symm)];have c:=((Below.refl w1.heap.size w1).alloc nR o).frozen (p:=⟨C,0,none⟩) m;exact c.trans f
theorem Aa7(C base:Nat)(k:ByteArray)(n:Int)(v:Value)(l:List (Value×Int))(r:List Cel)(w:Ϡ)(E:Δ w C 0 v)(R:Ξ w C 0)
 (u:w.ownsRow base 83 2 v l.length (flat l)) (D:v.ownBlock≠some C) (G:l.length<=1000000) (P:base<=w.heap.size) (W:rowOk r) (S:encR r=k.data.toList) (T:k.size<=maxLen):
 χ 230 #[.string k,.int .i64 n,ω C] w λe w'=>e= .returned (.tuple #[])/\∃w1 w2 ad cap g d,
  Below w.drew.heap.size w.drew w1/\AM w1 w (.slice ad r.length cap) r/\w2.ownsRow base 83 2 (.slice (ϋ g) (l.length+1) d) (l.length+1) (flat (l++[(.slice ad r.length cap,n)]))/\
  (w1.alloc (.cells #[.slice ad r.length cap,.int .i64 n] 83)).grownBy w2 v.ownBlock/\(v.ownBlock=some g\/g=w1.heap.size+1)/\w'=w2.setCell ⟨C,0,none⟩ (.slice (ϋ g) (l.length+1) d):=by
 have Q:=bLt _ _ E;have h:=Hc r k w.drew W S T;obtain⟨A,y⟩:∃x,r.length=x:=⟨_,rfl⟩;have m:=hV0 y;rw[y]at h;obtain⟨z,t⟩:∃x,l.length=x:=⟨_,rfl⟩;have j:=hV0 t;rw[t]at u G;obtain⟨f,F,I,J,K⟩:=info_parts Ms;have X:Ϣ (Tryz.prog.info? 83=some f/\f.zero=some (.agg #[.slice none 0 0,.int .i64 0])/\f.size=2/\f.bytes=32):=⟨F,I,J,K⟩;have L:Ϣ (CT 231 #[.string k] w.drew λe w'=>(∃ad cap,e= .returned (.slice ad A cap)/\AM w' w.drew.heap.size (.slice ad A cap) r)/\Below w.drew.heap.size w.drew w'):=h;have M:Ϣ (w.drew.ownsRow base 83 2 v z (flat l)):=u.drew;clear h y t F I J K u;go_enter func230,ntmps230;go_wp2
 go_region_law (first
  |(refine Aa6 (by rfl) (.tmp 5) (.tmp 10) (by rfl) base v l n ad A cap w1 z j.o N.o G (Nat.le_trans P c.size) (by rfl) (by rfl) ?_;intro g d w2 V s O ab;have Z:Δ w2 C 0 v:=SD s q D;have aa:Ξ w2 C 0:=Ns s q D ((c.frozen (p:=⟨C,0,none⟩) Q).trans R))
  |(go_simp;go_at_call 231;refine L.o.mono ?_;rintro e w1 ⟨⟨ad,cap,rfl,U⟩,c⟩;have q:Δ w1 C 0 v:=cLz c E;have Y:∀o,Δ (w1.alloc o) C 0 v:=λo=>cLz (bR.alloc nR o) q;have N:Ϣ (w1.ownsRow base 83 2 v z (flat l)):=own_below M.o c))
 all_goals
  go_wp2
  go_end0
  refine⟨rfl,w1,w2,ad,cap,g,d,c,?_,?_,?_,O,?_⟩
  ·rw[m.o];exact U
  ·rw[j.o,m.o];exact V
  ·rw[m.o];exact s
  ·rw[j.o]
theorem A1{n:Nat}(h:w.ownsRow base e size v n xs)(m:∀g,v.ownBlock=some g->w'.heap[g]? =w.heap[g]?):w'.ownsRow base e size v n xs:=by
 refine⟨h.1,?_⟩;rcases h.2 with f|⟨g,cap,d,c,j,p,l⟩
 ·exact .inl f
 ·exact .inr ⟨g,cap,d,c,j,by rw[m g (by rw[c];rfl)];exact p,l⟩
structure fr(C:Nat)(o:Option Nat)(w w':World):Prop where
 os:w'.os=w.os
 tape:w'.tape=w.tape
 output:w'.output=w.output
 size:w.heap.size<=w'.heap.size
 block:∀b,b<w.heap.size->b≠C->o≠some b->w'.heap[b]? =w.heap[b]?
theorem Aa8{a:Ϡ}(h:Below B a w)(k:fr C o w w')(f:B<=C)(c:∀b,o=some b->B<=b)(d:B<=w.heap.size):Below B a w':=
 h.trans ⟨k.os,k.tape,k.output,k.size,λb j=>k.block b Ϥ Ϥ (λe=>by have:=c b e;omega)⟩
theorem Aa9(h:ϣ w w'):fr C o w w':=⟨h.os,h.tape,h.output,h.size,λb c _ _=>h.block b c⟩
theorem SF{c:Option Nat}(h:fr C o w w1)(k:fr C c w1 w2)(m:c=o\/∃g,c=some g/\w.heap.size<=g):fr C o w w2:=
 ⟨k.os.trans h.os,k.tape.trans h.tape,k.output.trans h.output,Nat.le_trans h.size k.size,λb f d j=>by
  have l:=h.block b f d j;rw[<-l];refine k.block b (Nat.lt_of_lt_of_le f h.size) d ?_;rcases m with rfl|⟨g,rfl,p⟩
  ·exact j
  ·intro e;cases e;omega⟩
theorem Adl(h:fr C o w w'){p:Addr}(f:p.block<w.heap.size)(c:p.block≠C)(d:o≠some p.block):w'.cell? p=w.cell? p:=cOb (w:=w) (h.block p.block f c d)
structure VS(w:World)(C base:Nat)(v:Value)(out:List Cnt):Prop where
 cell:Δ w C 0 v
 frz:Ξ w C 0
 apart:v.ownBlock≠some C
 low:base<=w.heap.size
 rows:∃l:List (Value×Int),l.length=out.length/\w.ownsRow base 83 2 v l.length (flat l)/\∀i,i<out.length->
  (l.getD i (.bool false,0)).2=(out.getD i ϰ).n/\∃ad cap,(l.getD i (.bool false,0)).1= .slice ad (out.getD i ϰ).r.length cap/\AM w base (.slice ad (out.getD i ϰ).r.length cap) (out.getD i ϰ).r/\
   ∀g,(Value.slice ad (out.getD i ϰ).r.length cap).ownBlock=some g->g≠C/\v.ownBlock≠some g
theorem AL{n:Nat}(h:w.ownsRow base e size v n xs)(c:v.ownBlock=some g):base<=g/\g<w.heap.size:=World.ownsRow.lt h g c
theorem Ko{α:Type}(l:List α)(x d:α)(i:Nat)(h:i<l.length):(l++[x]).getD i d=l.getD i d:=by
 simp only[gDe,getElem?_append_left h]
theorem Kq{α:Type}(l:List α)(x d:α)(i:Nat)(h:i=l.length):(l++[x]).getD i d=x:=by
 subst h;simp[gDe]
theorem Adm{out:List Cnt}{l:List (Value×Int)}{ad:ϡ}{cap cap2:Nat}(h:VS w C base v out)
 (W:l.length=out.length) (X:w.ownsRow base 83 2 v l.length (flat l)) (Y:∀i,i<out.length->
 (l.getD i (.bool false,0)).2=(out.getD i ϰ).n/\∃ad cap,(l.getD i (.bool false,0)).1= .slice ad (out.getD i ϰ).r.length cap/\AM w base (.slice ad (out.getD i ϰ).r.length cap) (out.getD i ϰ).r/\
  ∀g,(Value.slice ad (out.getD i ϰ).r.length cap).ownBlock=some g->g≠C/\v.ownBlock≠some g)
 (f:Below w.drew.heap.size w.drew w1) (z:AM w1 w (.slice ad r.length cap) r) (Z:w2.ownsRow base 83 2 (.slice (ϋ g) (l.length+1) cap2) (l.length+1) (flat (l++[(.slice ad r.length cap,n)])))
 (j:(w1.alloc (.cells #[.slice ad r.length cap,.int .i64 n] 83)).grownBy w2 v.ownBlock) (s:v.ownBlock=some g\/g=w1.heap.size+1):
 VS (ό w2 C 0 (.slice (ϋ g) (l.length+1) cap2)) C base (.slice (ϋ g) (l.length+1) cap2) (out++[⟨r,n⟩])/\fr C v.ownBlock w (ό w2 C 0 (.slice (ϋ g) (l.length+1) cap2)):=by
 have R:C<w.heap.size:=bLt _ _ h.cell;have aa:w.heap.size<=w1.heap.size:=f.size;have ab:w1.heap.size+1<=w2.heap.size:=by have:=j.size;simpa using this
 have I:Δ w1 C 0 v:=cLz f h.cell;have T:Ξ w1 C 0:=(f.frozen (p:=⟨C,0,none⟩) R).trans h.frz;have S:=SD j I h.apart;have U:=Ns j I h.apart T;have M:∀b,v.ownBlock=some b->base<=b/\b<w.heap.size:=λb c=>AL X c;have J:g≠C:=by
  rcases s with d|d
  ·intro e;subst e;exact h.apart d
  ·omega
 have G:∀b,b<w1.heap.size->b≠C->v.ownBlock≠some b->(w2.setCell ⟨C,0,none⟩ (.slice (ϋ g) (l.length+1) cap2)).heap[b]? =w1.heap[b]? :=λb c x y=>by
  rw[Below.heap_setCell _ _ _ b x,j.block b ϩ (λe=>y e.symm)];exact Below.heap_alloc _ _ b c
 have u:fr C v.ownBlock w (ό w2 C 0 (.slice (ϋ g) (l.length+1) cap2)):=by
  have m:=(((f.mono (Nat.zero_le _)).alloc (Nat.zero_le _) (.cells #[.slice ad r.length cap,.int .i64 n] 83)).grown j (Nat.zero_le _) (λ_ _=>Nat.zero_le _)).setCell (p:=⟨C,0,none⟩) (Nat.zero_le _) (.slice (ϋ g) (l.length+1) cap2);exact⟨m.os,m.tape,m.output,m.size,λb c x y=>(G b Ϥ x y).trans (f.block b c)⟩
 refine⟨⟨World.cell?_setCell_same _ _ _ S,by rw[World.frozen?_setCell];exact U,λe=>J (by cases e;rfl),Nat.le_trans h.low u.size,?_⟩,u⟩;refine⟨l++[(.slice ad r.length cap,n)],by rw[lAp,lAp,W];rfl,?_,?_⟩
 ·rw[lAp];refine A1 Z (λb c=>?_);have:b=g:=by cases c;rfl
  subst this;exact Below.heap_setCell _ _ _ b J
 ·intro i K;rw[lAp]at K;by_cases L:i<out.length
  ·rw[Ko out _ _ i L,Ko l _ _ i Ϥ];obtain⟨P,N,O,Q,q,E⟩:=Y i L;refine⟨P,N,O,Q,?_,?_⟩
   ·refine A1 q (λb c=>?_);obtain⟨A,D⟩:=E b c;exact u.block b (AL q c).2 A D
   ·intro b c;obtain⟨A,D⟩:=E b c;refine⟨A,λe=>?_⟩;have t:g=b:=by cases e;rfl
    subst t;rcases s with d|d
    ·exact D d
    ·have:=(AL q c).2;omega
  ·have V:i=out.length:=by simp at K;omega
   rw[Kq out _ _ i V,Kq l _ _ i Ϥ];refine⟨rfl,ad,cap,rfl,?_,?_⟩
   ·refine A1 (World.ownsRow.mono z h.low) (λb c=>?_);have F:=AL z c;exact G b F.2 Ϥ (λe=>by have:=(M b e).2;omega)
   ·intro b c;have F:=AL z c;refine⟨Ϥ,λe=>?_⟩;have t:g=b:=by cases e;rfl
    subst t;rcases s with d|d
    ·have:=(M g d).2;omega
    ·omega
end ch
namespace ch
open vl
variable {w w' : Ϡ} {C base : Nat} {v : Value}
theorem Yg(l:List UInt8):encStr l= .string ⟨l.toArray⟩:=rfl
theorem Kr{e:TypeId}{size:Nat}{n:Nat}{xs:List Value}(h:w.ownsRow base e size v n xs):∃ad cap,v= .slice ad n cap/\(0<n->∃g,ad=some ⟨g,0,none⟩):=by
 rcases h.2 with⟨rfl,c⟩|⟨g,cap,d,rfl,_⟩
 ·exact⟨none,0,by rw[c],λh=>absurd c Ϥ⟩
 ·exact⟨_,_,rfl,λ_=>⟨g,rfl⟩⟩
theorem AaA{c:KV}{g cap:Nat}(h:w.ownsRow base 9 1 (.slice (ϋ g) c.length cap) c.length ((c.map (·.1)).map encStr))(i:Nat)(f:i<c.length):Δ w g i (.string ⟨(c.getD i ([],0)).1.toArray⟩):=by
 have d:=World.ownsRow.cells h (g:=g) rfl i (.string ⟨(c.getD i ([],0)).1.toArray⟩) (by
  simp only[map_map,getElem?_map,gEe f,Option.map_some,Function.comp,gDe,Option.getD_some,Yg])
 have e:(⟨g,0,none⟩:Addr).add i=⟨g,i,none⟩:=by unfold Addr.add;split<;>simp_all
 rw[e]at d;exact d
theorem Ks(v:List Cnt):(Be v).length=v.length:=by simp[Be]
theorem Adn(v:List Cnt)(i:Nat)(c:i<v.length):(Be v).getD i ([],0)=(encR (v.getD i ϰ).r,(v.getD i ϰ).n):=by
 simp[Be,gDe,c]
theorem Ado{c:KV}(s:rising c)(i:Nat)(j:i<c.length):EP c (c.getD i ([],0)).1=(c.getD i ([],0)).2:=by
 induction c generalizing i with
 |nil=>exact absurd j (Nat.not_lt_zero i)
 |cons p r ih=>
  cases i with
  |zero=>simp[EP]
  |succ i=>
   have d:=pairwise_cons.1 s;have l:i<r.length:=by simpa using j
   have e:(p::r).getD (i+1) ([],0)=r.getD i ([],0):=rfl;rw[e];have m:r.getD i ([],0)∈r:=by simp[gDe,l]
   have q:¬p.1=(r.getD i ([],0)).1:=λe=>by
    have f:=d.1 _ m;rw[e,EC]at f;exact absurd (of_decide_eq_true f) (List.lt_irrefl _)
   have h:=ih d.2 i l;unfold EP at h⊢;rw[find?_cons_of_neg (by simpa using q)];exact h
theorem Adp{B nn:Nat}{o:Option Nat}{c:KV}(h:Ei w B nn c)(k:fr C o w w')(q:B≠C)(t:o≠some B):Ei w' B nn c:=by
 have s:=MD h;obtain⟨f,d,j,l,m,p⟩:=h;exact⟨f,d,by rw[k.block B s q t];exact j,l,m,p⟩
theorem AaB{out:List Cnt}(h:VS w C base v out)(c:ϣ w w'):VS w' C base v out:=by
 have u:C<w.heap.size:=bLt _ _ h.cell;obtain⟨l,q,s,t⟩:=h.rows;refine⟨cLz c h.cell,(c.frozen (p:=⟨C,0,none⟩) u).trans h.frz,h.apart,Nat.le_trans h.low c.size,l,q,own_below s c,λi x=>?_⟩;obtain⟨d,ad,cap,f,j,m⟩:=t i x;exact⟨d,ad,cap,f,own_below j c,m⟩
theorem AaC(v:List Cnt)(k:Nat)(h:k<v.length)(r:List Cel)(n:Int)(e:v.getD k ϰ=⟨r,n⟩):v.take (k+1)=v.take k++[⟨r,n⟩]:=by rw[WE v k h,e]
theorem Yh(B nn:Nat)(out:List Cnt)(C base:Nat)(f:Value)(w:Ϡ)(R:Ei w B nn (Be out))(hr:rising (Be out))(ap:∀c∈out,rowOk c.r)(bb:out.length<=100000)
 (u:VS w C base f []) (a5:B≠C) (a6:f.ownBlock≠some B):
 χ 229 #[.map (some B),.func (.func 230) #[] #[ω C]] w λe w'=>e= .returned (.tuple #[])/\∃v,VS w' C base v out/\fr C f.ownBlock w w':=by
 have V:=hV0 R;have W:=hV0 hr;have Y:=hV0 u;have a1:=hV0 ap;have bh:=MD R;have bi:C<w.heap.size:=bLt _ _ u.cell;clear R hr u ap;have ai:=Ks out;obtain⟨n,E⟩:∃n,out.length=n:=⟨_,rfl⟩;have I:=hV0 E;have D:Ϣ ((Be out).length=n):=by show(Be out).length=n;rw[ai,E]
 rw[E]at bb;clear ai E;go_enter func229,ntmps229;go_wp2_with fail;refine(Aa4 B _).mono ?_;rintro e w' ⟨rfl,rfl⟩;go_wp2_with fail;refine(UH B nn (Be out) w V.o W.o (by rw[D.o];omega)).mono ?_;rintro e w1 ⟨⟨v,rfl,S⟩,ac⟩;obtain⟨ks,kc,u,aj⟩:=Kr S;rw[D.o]at u aj;subst u;have a3:=hV0 S;have L:ϣ w w1:=ϯ.trans (ac.mono Ϥ);have bj:w.heap.size+1<=w1.heap.size:=by have:=ac.size;simpa using this
 clear S;have ao:∀b,f.ownBlock=some b->b<w.heap.size:=λb hb=>by
  obtain⟨l,_,s,_⟩:=Y.o.rows;exact(AL s hb).2
 have a0:=hV0 ao;have a4:Ϣ (VS w1 C base f []):=AaB Y.o L;have az:Ϣ (Ei w1 B nn (Be out)):=C1 V.o L;clear ao;go_wp2
 go_loopw [10] (λi wr=> ∃(k:Nat) (v:Value),k<=n/\i= .int .i64 k/\VS wr C base v (out.take k)/\fr C f.ownBlock w1 wr/\(v.ownBlock=f.ownBlock\/∃g,v.ownBlock=some g/\w1.heap.size<=g)) (λi _=>n - (intOf i).toNat)
 case atStart=>exact⟨0,f,Ϥ,rfl,a4.o,⟨rfl,rfl,rfl,Nat.le_refl _,λ_ _ _ _=>rfl⟩,.inl rfl⟩
 case round=>
  obtain⟨k,v,hk,rfl,ar,ag,aq⟩:=hrel;have j:=hV0 ar;have y:=hV0 ag;have Z:=hV0 aq;clear ar ag aq;by_cases an:k<n
  ·obtain⟨z,a9⟩:=aj Ϥ;subst a9;have P:k<out.length:=by rw[I.o];exact an
   have ah:k<(Be out).length:=by rw[D.o];exact an
   have F:=a3.o;rw[<-D.o]at F;have a8:=AL F (g:=z) rfl;have af:=AaA F k ah;have A:Δ wr z k (.string ⟨((Be out).getD k ([],0)).1.toArray⟩):=(Adl y.o (p:=⟨z,k,none⟩) a8.2 (show z≠C by omega) (λe=>by have:=a0.o z e;omega)).trans af;have au:Ϣ (Ei wr B nn (Be out)):=Adp az.o y.o a5 a6;have q:=Ado W.o k ah;have t:rowOk (out.getD k ϰ).r:=a1.o _ (by simp[gDe,P]);rw[Adn out k P]at A q;dsimp only at A q;obtain⟨⟨r,m⟩,N⟩:∃c,out.getD k ϰ=c:=⟨_,rfl⟩;have J:Ϣ (out.take (k+1)=out.take k++[⟨r,m⟩]):=AaC out k P r m N;rw[N]at A q t;dsimp only at A q t;have a2:=hV0 t;have a7:=D6 r (λc M=>(t.2 c M).1);have be:=t.1;obtain⟨d,O⟩:∃x,(⟨(encR r).toArray⟩:ByteArray)=x:=⟨_,rfl⟩;have G:Ϣ (encR r=d.data.toList):=by show encR r=d.data.toList;rw[<-O]
   have T:Ϣ (d.size<=maxLen):=by
    show d.size<=maxLen;rw[<-A2,<-G.o];unfold maxLen;omega
   rw[O]at A;have av:Ϣ (EP (Be out) d.data.toList=m):=by show EP (Be out) d.data.toList=m;rw[<-G.o];exact q
   clear N O q t a7 be af F;obtain⟨l,Q,al,am⟩:=j.o.rows;have ax:=hV0 Q;have U:=hV0 al;have ay:=hV0 am;have ak:l.length<=1000000:=by rw[Q,length_take,I.o];omega
   have aw:=hV0 ak;clear Q al am ak;have i1:=nn0 k;have i2:(k:Int)<(n:Int):=Ϥ;go_wp2_with (first
    |(at_lookup;refine wpList_lookup_own_int _ rfl (.tmp 16) (.tmp 17) 223 rfl 9 3 .i64 law underlying223 underlying3 (Im _) B nn _ rfl au.o _ (.string d.data.toList) rfl (keyOf_string_mk underlying9 T.o) ?_;intro c aa bn;have M:c=m:=(Hv aa).trans av.o;clear aa;subst M)
    |(go_at_call 230;refine(Aa7 C base d _ v l r wr j.o.cell j.o.frz U.o j.o.apart aw.o j.o.low a2.o G.o T.o).mono ?_;rintro e w9 ⟨rfl,w2,w3,ad,cap,g,bg,ae,bc,bd,ba,ab,rfl⟩))
   have X:=Adm j.o ax.o U.o ay.o ae bc bd ba ab;have bm:=y.o.size;have bk:wr.heap.size<=w2.heap.size:=ae.size;go_roundw;exact⟨k+1,_,Ϥ,by go_num,by rw[J.o];exact X.1,SF y.o X.2 Z.o,by
    rcases ab with K|K
    ·rcases Z.o with s|⟨g',s,h3⟩
     ·exact .inl (by rw[<-s,K];rfl)
     ·exact .inr ⟨g,rfl,by rw[K]at s;cases s;exact h3⟩
    ·exact .inr ⟨g,rfl,Ϥ⟩⟩
   simp[intOf];omega
  ·have J:Ϣ (out.take k=out):=take_of_length_le (by rw[I.o];omega);go_wp2
   go_end0
   exact⟨rfl,v,by have h:=j.o;rw[J.o]at h;exact h,SF (Aa9 L) y.o (.inl rfl)⟩
theorem Adq(l:List (Value×Int))(i:Nat)(c:i<l.length):(flat l)[i * 2]? =some (l.getD i (.bool false,0)).1/\(flat l)[i * 2+1]? =some (.int .i64 (l.getD i (.bool false,0)).2):=by
 induction l generalizing i with
 |nil=>exact absurd c (Nat.not_lt_zero i)
 |cons p r ih=>
  have e:flat (p::r)=p.1:: .int .i64 p.2::flat r:=rfl;rw[e]
  cases i with
  |zero=>exact⟨rfl,rfl⟩
  |succ i=>
   have:=ih i (by simpa using c);rw[show(i+1) * 2=i * 2+1+1 by omega];simpa using this
theorem addr_add(g j:Nat):((⟨g,0,none⟩:Addr).add j)=⟨g,0+j,none⟩:=by unfold Addr.add;split<;>simp_all
theorem AeZ{out:List Cnt}(h:VS w C base v out):∃ad cap,v= .slice ad out.length cap:=by
 obtain⟨l,c,d,j⟩:=h.rows;obtain⟨ad,cap,f,_⟩:=Kr d;exact⟨ad,cap,by rw[f,c]⟩
end ch
namespace ch
open vl
variable {B b base cap i n nn : Nat} {w w' : Ϡ} {a : Int} {k : List UInt8} {r : List Cel} {ad : ϡ}
theorem ob{c x:Nat}(h:(Value.slice (ϋ b) n c).ownBlock=some x):x=b:=by cases h;rfl
structure Chg where
 k:Int
 r:List Cel
instance:Inhabited Chg:=⟨⟨0,[]⟩⟩
def GR(w:World)(a:Option Addr)(l:List Chg):Prop:=
 ∀i,i<l.length->∃b off ra rc,a=some ⟨b,off,none⟩/\Δ w b (off+i * 2) (.int .i64 (l.getD i ϰ).k)/\Δ w b (off+i * 2+1) (.slice ra (l.getD i ϰ).r.length rc)/\vl.rowAt w ra (l.getD i ϰ).r
def Gg(l:List Chg):Prop:=∀c∈l,Bq c.r/\c.r.length<=ύ/\(-9223372036854775808<=c.k/\c.k<=9223372036854775807)
theorem AaD{l:List Chg}(h:Gg l)(k:Nat)(c:k<l.length):Bq (l.getD k ϰ).r/\(l.getD k ϰ).r.length<=ύ/\(-9223372036854775808<=(l.getD k ϰ).k/\(l.getD k ϰ).k<=9223372036854775807):=
 h _ (by simp[gDe,c])
theorem Kt{a:ϡ}{l:List Chg}(h:GR w a l)(c:ϣ w w'):GR w' a l:=by
 intro i d;obtain⟨b,o,f,j,e,m,p,q⟩:=h i d;exact⟨b,o,f,j,e,cLz c m,cLz c p,Ac q c⟩
def BM(l:List Chg)(i:Nat):Bool:=
 if (l.getD i ϰ).k=3 then decide (i+1<l.length)&&decide ((l.getD (i+1) ϰ).k=4)else if (l.getD i ϰ).k=4 then decide (0<i)&&decide ((l.getD (i - 1) ϰ).k=3)else true
def GU(l:List Chg)(i:Nat):Int:=
 if (l.getD i ϰ).k<1\/4<(l.getD i ϰ).k then 4 else if Au (l.getD i ϰ).r=0 then(if BM l i then 0 else 6)else Au (l.getD i ϰ).r
def first(f:Nat->Int):Nat->Int
 |0=>0
 |n+1=>if first f n=0 then f n else first f n
theorem Nt{f:Nat->Int}(h:∀i,i<n->f i=0):first f n=0:=by
 induction n with
 |zero=>rfl
 |succ n ih=>rw[first,ih (λi c=>h i Ϥ),if_pos rfl,h n Ϥ]
theorem AaE{f:Nat->Int}{k:Nat}(n:Nat)(h:∀i,i<k->f i=0)(c:f k≠0)(d:k<n):first f n=f k:=by
 induction n with
 |zero=>exact absurd d (Nat.not_lt_zero k)
 |succ n ih=>
  rw[first];by_cases e:k=n
  ·subst e;rw[Nt h,if_pos rfl]
  ·rw[ih Ϥ,if_neg c]
def Bm(l:List Chg):Int:=if 4096<l.length then 2 else first (GU l) l.length
def Nu(l:List Chg)(i:Nat):Prop:=1<=(l.getD i ϰ).k/\(l.getD i ϰ).k<=4/\Au (l.getD i ϰ).r=0/\BM l i=true
theorem SG{l:List Chg}(h:GU l i=0):Nu l i:=by
 unfold GU at h;split at h
 ·cases h
 ·rename_i f;split at h
  ·rename_i c;split at h
   ·rename_i d;exact⟨Ϥ,Ϥ,c,d⟩
   ·cases h
  ·contradiction
theorem PR{l:List Chg}(h:Nu l i):GU l i=0:=by
 obtain⟨f,j,c,d⟩:=h;unfold GU;rw[if_neg Ϥ,if_pos c,if_pos d]
def Bf(l:List Chg):Prop:=l.length<=4096/\∀i,i<l.length->Nu l i
theorem Adr{l:List Chg}(h:Bf l):Bm l=0:=by
 have:=h.1;unfold Bm;rw[if_neg Ϥ,Nt (λi c=>PR (h.2 i c))]
def GV(w:World)(ad:Option Addr)(l:List Chg):Prop:=
 ∀i,i<l.length->∃g,ad=some ⟨g,0,none⟩/\Δ w g i (.string ⟨(encR (l.getD i ϰ).r).toArray⟩)
theorem Aa{a b:Bool}(h:a=b):Ending.returned (.bool a)= .returned (.bool b):=by rw[h]
def Fq(k:Int):Int:=if k=1\/k=4 then 1 else -1
theorem SH(k:Int)(w:Ϡ):χ 164 #[.int .i64 k] w λe w'=>e= .returned (.int .i64 (Fq k))/\w'=w:=by
 by_cases c:k=1
 ·subst c;go_enter func164,ntmps164;go_wp2;go_ret;exact⟨rfl,rfl⟩
 ·have f:(k==1)=false:=by simpa using c
  by_cases d:k=4
  ·subst d;go_enter func164,ntmps164;go_wp2;go_ret;exact⟨rfl,rfl⟩
  ·have h:(k==4)=false:=by simpa using d
   have e:Fq k= -1:=by unfold Fq;rw[if_neg Ϥ]
   rw[e];go_enter func164,ntmps164;go_wp2;go_ret;exact⟨rfl,rfl⟩
theorem UI(a:ϡ)(cap:Nat)(l:List Chg)(i:Nat)(w:Ϡ)(u:GR w a l)(S:Gg l)(K:l.length<=1000000)(z:i<l.length):
 χ 228 #[.slice a l.length cap,.int .i64 i] w (ψ w (.bool (BM l i))):=by
 obtain⟨b,o,Z,rc,e,E,L,M⟩:=u i z;subst e;have c:Ϣ (BM l i=if (l.getD i ϰ).k=3 then decide (i+1<l.length)&&decide ((l.getD (i+1) ϰ).k=4)else if (l.getD i ϰ).k=4 then decide (0<i)&&decide ((l.getD (i - 1) ϰ).k=3)else true):=rfl;have s:Ϣ (∀j,j<l.length->Δ w b (o+j * 2) (.int .i64 (l.getD j ϰ).k)):=λj I=>by
  obtain⟨N,Y,aa,ab,F,q,y2,y3⟩:=u j I
  cases F
  exact q
 obtain⟨k,A⟩:∃k,(l.getD i ϰ).k=k:=⟨_,rfl⟩;rw[A]at E c;clear A u L M;obtain⟨n,D⟩:∃n,l.length=n:=⟨_,rfl⟩;rw[D]at K z c s⊢;clear D;have W:=nn0 i;have X:(i:Int)<(n:Int):=Ϥ;have T:IntKind.i64.wrap ((i:Int)+1)=(i:Int)+1:=by rw[Cq];omega
 by_cases t:k=3
 ·subst t;by_cases f:i+1<n
  ·have q:=s.o (i+1) f;obtain⟨h,p⟩:∃k,(l.getD (i+1) ϰ).k=k:=⟨_,rfl⟩;rw[p]at q c;have x:(i:Int)+1<(n:Int):=Ϥ;have m:decide (h=4)=(h==4):=by rw[Bool.eq_iff_iff];simp
   have d:Ϣ (BM l i=(h==4)):=by show BM l i=_;rw[c.o,if_pos rfl,decide_eq_true f,m];rfl
   clear c p m;go_enter func228,ntmps228;go_wp2;go_ret;exact⟨Aa d.o.symm,by first|exact bR|exact bR.drew⟩
  ·have x:¬(i:Int)+1<(n:Int):=Ϥ;have d:Ϣ (BM l i=false):=by show BM l i=_;rw[c.o,if_pos rfl,decide_eq_false f];rfl
   clear c;go_enter func228,ntmps228;go_wp2;go_ret;exact⟨Aa d.o.symm,by first|exact bR|exact bR.drew⟩
 ·have O:(k==3)=false:=by simpa using t
  by_cases f:k=4
  ·subst f;by_cases y:0<i
   ·obtain⟨j,rfl⟩:∃j,i=j+1:=⟨i - 1,Ϥ⟩;have q:=s.o j Ϥ;have J:(j+1:Nat) - 1=j:=Ϥ;rw[J]at c;obtain⟨h,p⟩:∃k,(l.getD j ϰ).k=k:=⟨_,rfl⟩;rw[p]at q c;have m:decide (h=3)=(h==3):=by rw[Bool.eq_iff_iff];simp
    have d:Ϣ (BM l (j+1)=(h==3)):=by show BM l (j+1)=_;rw[c.o,if_neg ϥ,if_pos rfl,decide_eq_true y,m];rfl
    have P:(0:Int)<((j:Int)+1):=Ϥ;have Q:((j:Int))<(n:Int):=Ϥ;have R:=nn0 j;have U:IntKind.i64.wrap ((j:Int)+1 - 1)=(j:Int):=by rw[Cq];omega
    have V:IntKind.i64.wrap (j:Int)=(j:Int):=by rw[Cq];omega
    clear c p m;go_enter func228,ntmps228;go_wp2;go_ret;exact⟨Aa d.o.symm,by first|exact bR|exact bR.drew⟩
   ·have G:i=0:=Ϥ;subst G;have d:Ϣ (BM l 0=false):=by show BM l 0=_;rw[c.o,if_neg ϥ,if_pos rfl,decide_eq_false y];rfl
    clear c;simp only[Nat.zero_mul,Nat.add_zero]at E;go_enter func228,ntmps228;go_wp2;go_ret;exact⟨Aa d.o.symm,by first|exact bR|exact bR.drew⟩
  ·have x:(k==4)=false:=by simpa using f
   have d:Ϣ (BM l i=true):=by show BM l i=_;rw[c.o,if_neg t,if_neg f]
   clear c;go_enter func228,ntmps228;go_wp2;go_ret;exact⟨Aa d.o.symm,by first|exact bR|exact bR.drew⟩
theorem Ae4:(Tryz.prog.info? 9).map (λi=>(i.zero,i.size,i.bytes))=some (some (.string ⟨#[]⟩),1,16):=ϧ
def UJ(c:Chg):Value:=.string ⟨(encR c.r).toArray⟩
theorem Ads(h:rowOk r):(.string (FR r):Value)= .string ⟨(encR r).toArray⟩:=by
 rw[<-Ke h]
theorem UK{j:Array Oper}{rest:List Oper}{o:Oper}{a:Act}{Q:Exit->Act->World->Prop}(q:o.guard=none)(s x:Operand)
 (y:o.op= .call {callee:=.builtin .append,args:=#[s,x],argTypes:=#[226,226]}) (base:Nat) (v:Value) (n:Nat) (xs:List Value) (A:a.eval s=v) (c:Ϡ)
 (z:c.ownsRow base 9 1 v n xs) (X:ByteArray) (B:Nat) (p:c.heap.size=B) (D:a.eval x= .slice (ϋ B) 1 1) (K:n<=2000000) (J:base<=c.heap.size)
 (h:∀d w',w'.ownsRow base 9 1 d (n+1) (xs++[.string X])->(c.alloc (.cells #[.string X] 9)).grownBy w' v.ownBlock->wpList Tryz.prog j Q rest (a.put o.dst d) w'):
 wpList Tryz.prog j Q (o::rest) a (ϊ c #[.string X] 9):=by
 subst p;obtain⟨I,t,E,F,G⟩:=info_parts Ae4;refine wpList_append_own _ q s x 226 y base 9 I (.string ⟨#[]⟩) 1 16 underlying226 t E F G rfl ϥ v n xs A
  (World.ownsRow.alloc z _) ⟨c,0,none⟩ 1 1 [.string X] D rfl (cell_one_new _ _ _) (by intro u f;simp at f;subst f;rfl) Ϯ Ϥ ϩ ?_
 intro d w' l m _;exact h d w' l m
theorem Yi{c:Ϡ}{e:TypeId}{size:Nat}{xs:List Value}{v:Value}{o:Obj}(d:Below base w c)(h0:base<=c.heap.size)(j:c.ownsRow base e size v n xs)(f:(c.alloc o).grownBy w' v.ownBlock):Below base w w':=
 (d.alloc h0 o).grown f ϩ (λk h=>(World.ownsRow.lt j k h).1)
theorem QG{l:List Chg}(h:4096<l.length):Bm l=2:=by unfold Bm;rw[if_pos h]
theorem UL{l:List Chg}(h1:¬4096<l.length)(k:Nat)(f:k<l.length)(h:∀i,i<k->Nu l i)(c:GU l k≠0):Bm l=GU l k:=by
 unfold Bm;rw[if_neg h1,AaE _ (λi d=>PR (h i d)) c f]
theorem takeC(l:List Chg)(k:Nat)(h:k<l.length):l.take (k+1)=l.take k++[l.getD k ϰ]:=by
 rw[take_succ_eq_append_getElem h];simp[gDe,h]
theorem UN{l:List Chg}(h:w.ownsRow base 9 1 (.slice ad l.length cap) l.length (l.map UJ)):GV w ad l:=by
 intro i f;obtain⟨m,p,j,d⟩:=Kr h
 cases j
 obtain⟨g,rfl⟩:=d Ϥ;refine⟨g,rfl,?_⟩;have c:=World.ownsRow.cells h (g:=g) rfl i (.string ⟨(encR (l.getD i ϰ).r).toArray⟩) (by
  simp[getElem?_map,gEe f,gDe,UJ])
 have e:(⟨g,0,none⟩:Addr).add i=⟨g,i,none⟩:=by unfold Addr.add;split<;>simp_all
 rw[e]at c;exact c
theorem Kf{b:Int}(h:a=b):Ending.returned (.tuple #[.slice none 0 0,.int .i64 a])= .returned (.tuple #[.slice none 0 0,.int .i64 b]):=by rw[h]
theorem Afa{a:Nat}(h:a=b):Ending.returned (.tuple #[.slice ad a cap,.int .i64 0])= .returned (.tuple #[.slice ad b cap,.int .i64 0]):=by rw[h]
def WG(l:List Chg)(e:Ending)(w':World):Prop:=
 (Bm l=0/\Bf l/\∃ad cap,e= .returned (.tuple #[.slice ad l.length cap,.int .i64 0])/\GV w' ad l)\/
 (Bm l≠0/\e= .returned (.tuple #[.slice none 0 0,.int .i64 (Bm l)]))
theorem Ku{l:List Chg}{x:Int}(h:Bm l=x)(c:x≠0):WG l (.returned (.tuple #[.slice none 0 0,.int .i64 x])) w':=.inr ⟨by rw[h];exact c,Kf h.symm⟩
theorem UO(a:ϡ)(cap:Nat)(l:List Chg)(w:Ϡ)(hv:GR w a l)(hw:Gg l)(R:l.length<=ύ):
 χ 162 #[.slice a l.length cap] w λe w'=>WG l e w'/\ϣ w w':=by
 have KP:Ϣ (∀w,GR w a l->l.length<=1000000->∀i,i<l.length->CT 228 #[.slice a l.length cap,.int .i64 i] w (ψ w (.bool (BM l i)))):=λw h R i p=>UI a cap l i w h hw R p;obtain⟨n,T⟩:∃n,l.length=n:=⟨_,rfl⟩;have t:=hV0 T;rw[T]at R KP⊢;clear T;by_cases h4:4096<n
 ·have f:Ϣ (Bm l=2):=QG (by rw[t.o];exact h4);go_enter func162,ntmps162;go_wp2
  go_ret2
  exact⟨Ku f.o ϥ,bR⟩
 ·obtain⟨i0,p,ak,al,am⟩:=info_parts Ae4;obtain⟨wm,a2,D,ae⟩:=run_make_own (P:=Tryz.prog) w w.heap.size 226 9 i0 (.string ⟨#[]⟩) 1 underlying226 p ak al .i64 .i64 n (by rw[am];omega) Ϯ nR;have ar:ϣ w wm:=bR.grown ae nR (λk hk=>by cases hk);have ap:=hV0 D;have HV:=hV0 hv;clear p ak al am D ae hv;go_enter func162,ntmps162;go_wp2
  go_loopw [4,17] (λv i wr=> ∃k:Nat,k<=n/\i= .int .i64 k/\wr.ownsRow w 9 1 v k ((l.take k).map UJ)/\ϣ w wr/\(∀i,i<k->Nu l i)) (λ_ i _=>n - (intOf i).toNat)
  case atStart=>exact⟨0,Ϥ,rfl,ap.o,ar,λi p=>absurd p (Nat.not_lt_zero i)⟩
  case round=>
   obtain⟨k,hk,rfl,D,j,ab⟩:=hrel;have N:=hV0 D;have M:=hV0 ab;have E:=j.size;clear D ab;by_cases ah:k<n
   ·have J:k<l.length:=by rw[t.o];exact ah
    obtain⟨b,o,K,rc,e,x1,x2,x3⟩:=HV.o k J;subst e;obtain⟨L,X,an,ao⟩:=AaD hw k J;have q1:=cLz j x1;have V:=cLz j x2;have A:Ϣ (vl.rowAt wr K (l.getD k ϰ).r):=Ac x3 j;have i1:=nn0 k;have i2:(k:Int)<(n:Int):=Ϥ;have F:Ϣ (GU l k≠0->Bm l=GU l k):=λhe=>UL (by rw[t.o];exact h4) k J M.o he;have Q:Ϣ ((l.take (k+1)).map UJ=(l.take k).map UJ++[.string ⟨(encR (l.getD k ϰ).r).toArray⟩]):=by
     show(l.take (k+1)).map UJ=_;rw[takeC l k J,map_append];rfl
    have q:Ϣ (GU l k=if (l.getD k ϰ).k<1\/4<(l.getD k ϰ).k then 4 else if Au (l.getD k ϰ).r=0 then(if BM l k then 0 else 6)else Au (l.getD k ϰ).r):=rfl;have O:Ϣ (∀w',ϣ w w'->CT 228 #[.slice (some ⟨b,o,none⟩) n cap,.int .i64 k] w' (ψ w' (.bool (BM l k)))):=λw' hb=>KP.o w' (Kt HV.o hb) Ϥ k ah;obtain⟨⟨m,r⟩,ac⟩:∃c,l.getD k ϰ=c:=⟨_,rfl⟩;rw[ac]at q1 V A Q q L X an ao;dsimp only at q1 V A Q q L X an ao;clear x1 x2 x3 ac;obtain⟨rl,aj⟩:∃l,r.length=l:=⟨_,rfl⟩;rw[aj]at V;have G:Ϣ (∀w,vl.rowAt w K r->CT 112 #[.slice K rl rc] w (ψ w (.tuple #[.string (FR r),.int .i64 (Au r)]))):=by
     subst aj;exact λw h=>Jj K rc r w h L X
    by_cases e1:m<1
    ·have f:Ϣ (Bm l=4):=by
      have d:=q.o;rw[if_pos (.inl e1)]at d;show Bm l=4;rw[F.o (by rw[d];decide),d]
     go_wp2
     go_ret2
     exact⟨Ku f.o ϥ,j.alloc E _⟩
    ·have az:decide (m<1)=false:=decide_eq_false e1;by_cases e2:4<m
     ·have f:Ϣ (Bm l=4):=by
       have d:=q.o;rw[if_pos (.inr e2)]at d;show Bm l=4;rw[F.o (by rw[d];decide),d]
      go_wp2
      go_ret2
      exact⟨Ku f.o ϥ,j.alloc E _⟩
     ·have a0:decide (4<m)=false:=decide_eq_false e2;by_cases u:Au r=0
      ·have ai:rowOk r:=Nq u L;have Y:Ϣ ((.string (FR r):Value)= .string ⟨(encR r).toArray⟩):=Ads ai;obtain⟨ks,ag⟩:∃s,FR r=s:=⟨_,rfl⟩;obtain⟨pb,U⟩:∃x,BM l k=x:=⟨_,rfl⟩;rw[ag]at G Y;rw[U]at O q;have ay:=hV0 U;clear ag ai U
       cases pb
       ·have f:Ϣ (Bm l=6):=by
         have d:=q.o;rw[if_neg Ϥ,if_pos u,if_neg ϥ]at d;show Bm l=6;rw[F.o (by rw[d];decide),d]
        go_wp2_with (first
         |(go_at_call 112;refine(G.o _ (Ac A.o ϯ)).mono ?_;rintro e W ⟨rfl,z⟩;have y:=(j.alloc E _).trans (z.mono ϩ))
         |(go_at_call 228;refine(O.o _ y).mono ?_;rintro e wb ⟨rfl,I⟩))
        go_ret2
        exact⟨Ku f.o ϥ,bT y I⟩
       ·have f:Ϣ (Nu l k):=SG (by
         have d:=q.o;rw[if_neg Ϥ,if_pos u,if_pos rfl]at d;exact d)
        go_wp2_with (first
         |(go_at_call 112;refine(G.o _ (Ac A.o ϯ)).mono ?_;rintro e W ⟨rfl,z⟩;have y:=(j.alloc E _).trans (z.mono ϩ);have au:ϣ wr W:=ϯ.trans (z.mono Ϧ))
         |(go_at_call 228;refine(O.o _ y).mono ?_;rintro e wb ⟨rfl,I⟩;have S:=bT y I;have aa:=own_below N.o (bT au I))
         |(at_builtin;refine UK rfl (.tmp 43) (.tmp 45) rfl w.heap.size _ k _ rfl _ aa _ _ rfl rfl Ϥ S.size ?_;intro v' w1 aw av))
        go_roundw;exact⟨k+1,Ϥ,by go_num,by rw[Q.o,<-Y.o];exact aw,Yi S S.size aa av,λi p=>by
         rcases Nat.lt_or_ge i k with h|h
         ·exact M.o i h
         ·rw[show i=k by omega];exact f.o⟩
        simp[intOf];omega
      ·have a1:(Au r==0)=false:=by simpa using u
       have f:Ϣ (Bm l=Au r):=by
        have d:=q.o;rw[if_neg Ϥ,if_neg u]at d;show Bm l=Au r;rw[F.o (by rw[d];exact u),d]
       go_wp2_with (go_at_call 112;refine(G.o _ (Ac A.o ϯ)).mono ?_;rintro e W ⟨rfl,z⟩;have y:=(j.alloc E _).trans (z.mono ϩ))
       go_ret2
       exact⟨Ku f.o u,y⟩
   ·have af:k=n:=Ϥ;have HT:Ϣ (l.take k=l):=take_of_length_le (by rw[t.o];omega);have Z:Ϣ (Bf l):=⟨by rw[t.o];omega,λi p=>M.o i (by rw[t.o]at p;omega)⟩;obtain⟨ad,aq,ax,_⟩:=Kr N.o;subst ax;go_wp2
    go_ret2
    exact⟨.inl ⟨Adr Z.o,Z.o,ad,aq,Afa (af.trans t.o.symm),UN (by have h:=N.o;rw[HT.o,af]at h;rw[t.o];exact h)⟩,j⟩
def keyed(kv:KV):Prop:=∀p∈kv,∃r,rowOk r/\encR r=p.1
structure Gp(kv:KV):Prop where
 up:rising kv
 len:kv.length<=4096
 cnt:∀p∈kv,1<=p.2/\p.2<=1073741824
 key:keyed kv
theorem before_total:∀(a b:List UInt8),bytesBefore a b=false->a≠b->bytesBefore b a=true
 |[],[],_,h=>absurd rfl h
 |[],_::_,h,_=>by simp[bytesBefore]at h
 |_::_,[],_,_=>by simp[bytesBefore]
 |a::x,b::y,h,hne=>by
  rw[bytesBefore]at h⊢;by_cases e:a=b
  ·subst e;have j:x≠y:=λe=>hne (by rw[e]);have c:bytesBefore x y=false:=by simpa using h
   simp[before_total x y c j]
  ·have c:¬a<b:=by
    intro f;simp[f]at h
   have d:b<a:=by
    rw[UInt8.lt_iff_toNat_lt]at c⊢;have:a.toNat≠b.toNat:=λh=>e (UInt8.toNat_inj.1 h);omega
   simp[d]
theorem mem_ins(x:List UInt8×Int)(l:KV):∀p,p∈insK x l↔p=x\/p∈l:=by
 induction l with
 |nil=>intro p;simp[insK]
 |cons y r ih=>
  intro p;rw[insK];split
  ·simp
  ·rw[mem_cons,ih p,mem_cons]
   constructor
   ·rintro (h|h|h)
    ·exact .inr (.inl h)
    ·exact .inl h
    ·exact .inr (.inr h)
   ·rintro (h|h|h)
    ·exact .inr (.inl h)
    ·exact .inl h
    ·exact .inr (.inr h)
theorem Adt(x:List UInt8×Int)(l:KV):(insK x l).length=l.length+1:=by
 induction l with
 |nil=>rfl
 |cons y r ih=>
  rw[insK];split
  ·rfl
  ·rw[length_cons,ih,length_cons]
theorem UP{x:List UInt8×Int}{l:KV}(h:rising l)(j:∀p∈l,p.1≠x.1):rising (insK x l):=by
 induction l with
 |nil=>exact pairwise_singleton _ _
 |cons y r ih=>
  have f:=pairwise_cons.1 h;rw[insK];split
  ·rename_i d;refine pairwise_cons.2 ⟨?_,h⟩;intro p c;rcases mem_cons.1 c with e|c
   ·rw[e];exact d
   ·exact before_trans d (f.1 p c)
  ·rename_i d;refine pairwise_cons.2 ⟨?_,ih f.2 (λp c=>j p (mem_cons_of_mem _ c))⟩;intro p c;rcases(mem_ins x r p).1 c with e|c
   ·rw[e];exact before_total _ _ (by simpa using d) (λe=>j y (mem_cons_self ..) e.symm)
   ·exact f.1 p c
theorem ME{c:KV}{p:List UInt8×Int}:p∈JG c k↔p∈c/\p.1≠k:=by
 unfold JG;rw[mem_filter];simp
theorem Nv{c:KV}(h:rising c)(k:List UInt8):rising (JG c k):=List.Pairwise.filter _ h
theorem WH(c:KV)(k:List UInt8):(JG c k).length<=c.length:=length_filter_le _ _
theorem UQ{c:KV}(h:rising c)(k:List UInt8)(n:Int):rising (Kk c k n):=UP (Nv h k) (λp d=>(ME.1 d).2)
theorem mem_put{c:KV}{n:Int}{p:List UInt8×Int}:p∈Kk c k n↔p=(k,n)\/(p∈c/\p.1≠k):=by
 unfold Kk;rw[mem_ins,ME]
theorem SI{c:KV}(h:EP c k≠0):(k,EP c k)∈c:=by
 unfold EP at *
 cases e:c.find? (λp=>p.1==k)with
 |none=>rw[e]at h;exact absurd rfl h
 |some p=>
  dsimp only;have d:=mem_of_find?_eq_some e;have f:=find?_some e;have j:p.1=k:=by simpa using f
  rw[<-j];exact d
theorem UR{c:KV}(h:EP c k≠0):(JG c k).length<c.length:=by
 have d:=SI h;unfold JG;rw[length_filter_lt_length_iff_exists];exact⟨_,d,Ϧ⟩
theorem Adu{c:KV}{n:Int}:(Kk c k n).length=(JG c k).length+1:=by unfold Kk;rw[Adt]
theorem Yj{c:KV}(h:keyed c)(k:List UInt8):keyed (JG c k):=λp d=>h p (ME.1 d).1
theorem Yk{c:KV}(h:keyed c)(f:rowOk r)(n:Int):keyed (Kk c (encR r) n):=λp d=>by
 rcases mem_put.1 d with e|e
 ·subst e;exact⟨r,f,rfl⟩
 ·exact h p e.1
theorem AaF{c:KV}(h:Gp c)(k:List UInt8):0<=EP c k/\EP c k<=1073741824:=by
 by_cases e:EP c k=0
 ·omega
 ·have:=h.cnt _ (SI e);exact⟨Ϥ,this.2⟩
theorem AaG{c:KV}(h:Gp c)(j:rowOk r)(n:Int):Gp (UG c (encR r) n):=by
 unfold UG;split
 ·exact h
 ·split
  ·exact h
  ·split
   ·exact⟨Nv h.up _,Nat.le_trans (WH _ _) h.len,λp d=>h.cnt p (ME.1 d).1,Yj h.key _⟩
   ·split
    ·exact h
    ·rename_i l m q f;refine⟨UQ h.up _ _,?_,?_,Yk h.key j _⟩
     ·rw[Adu];have t:=h.len;by_cases e:EP c (encR r)=0
      ·have:=WH c (encR r);have s:c.length≠4096:=λh=>f ⟨e,h⟩;omega
      ·have:=UR e;omega
     ·intro p d;rcases mem_put.1 d with e|e
      ·subst e;exact⟨Ϫ,Ϫ⟩
      ·exact h.cnt p e.1
theorem Yl{f:KV}(h:keyed f):∃out:List Cnt,Be out=f/\∀c∈out,rowOk c.r:=by
 induction f with
 |nil=>exact⟨[],rfl,λc d=>by cases d⟩
 |cons p r ih=>
  obtain⟨out,l,m⟩:=ih (λq u=>h q (mem_cons_of_mem _ u));obtain⟨j,s,t⟩:=h p (mem_cons_self ..);refine⟨⟨j,p.2⟩::out,?_,?_⟩
  ·show(encR j,p.2)::Be out=p::r;rw[l,t]
  ·intro c d;rcases mem_cons.1 d with e|d
   ·rw[e];exact s
   ·exact m c d
theorem Ph{a b:List Cel}(ha:rowOk a)(d:rowOk b)(h:bytesBefore (encR a) (encR b)=true):AJ a b<0:=by
 have f:=P0 a b ha.2 d.2;have c:=I8 (encR a) (encR b);rw[EC]at h;rw[Gy,h,if_pos rfl]at c;omega
theorem AaH(h:rowOk r):Bq r:=λc d=>(h.2 c d).2
theorem AN{α:Type} [Inhabited α]{l:List α}{i:Nat}(h:i<l.length):l.getD i ϰ∈l:=by simp[gDe,h]
theorem SL{out:List Cnt}{c:Cnt}(h:c∈out):(encR c.r,c.n)∈Be out:=mem_map.2 ⟨c,h,rfl⟩
theorem Ym{out:List Cnt}(h:Gp (Be out))(f:∀c∈out,rowOk c.r):Ez out/\Cc out:=by
 refine⟨⟨by have:=h.len;rw[Ks]at this;exact this,?_⟩,?_⟩
 ·intro i j;have m:=AN j;have d:=h.cnt _ (SL m);refine⟨IZ (f _ m),d.1,d.2,λx=>?_⟩;have u:=AN (l:=out) (i:=i - 1) Ϥ;refine Ph (f _ u) (f _ m) ?_;have p:=h.up;unfold rising Be at p;rw[pairwise_map,pairwise_iff_getElem]at p;have:=p (i - 1) i Ϥ j Ϥ;have q:out[i - 1]=out.getD (i - 1) ϰ:=by simp[gDe,show i - 1<out.length by omega]
  have s:out[i]=out.getD i ϰ:=by simp[gDe,j]
  rw[q,s]at this;exact this
 ·intro c d;have t:=h.cnt _ (SL d);have y:=(f c d).1;dsimp only at t;exact⟨AaH (f c d),Ϥ,Ϥ,Ϥ⟩
theorem Hd{v:List Cnt}(j:Cc v)(h:Ez v):∀c∈v,rowOk c.r:=by
 intro c f;obtain⟨i,d,rfl⟩:=getElem_of_mem f;have:=QF j d (h.2 i d);simpa[gDe,d]using this
theorem Yn{v:List Cnt}(l:Cc v)(h:Ez v):Gp (Be v):=by
 refine⟨Yc l h,by rw[Ks];exact h.1,?_,?_⟩
 ·intro p f;obtain⟨c,d,rfl⟩:=mem_map.1 f;obtain⟨i,j,rfl⟩:=getElem_of_mem d;have:=h.2 i j;simp only[Fe,gDe,gEe j,Option.getD_some]at this;exact⟨this.2.1,this.2.2.1⟩
 ·intro p f;obtain⟨c,d,rfl⟩:=mem_map.1 f;exact⟨c.r,Hd l h c d,rfl⟩
theorem AaI{a b:List Cnt}(ha:∀c∈a,rowOk c.r)(p:∀c∈b,rowOk c.r)(h:Be a=Be b):a=b:=by
 induction a generalizing b with
 |nil=>cases b with
  |nil=>rfl
  |cons d s=>cases h
 |cons c r ih=>cases b with
  |nil=>cases h
  |cons d s=>
   have l:(encR c.r,c.n)=(encR d.r,d.n)/\Be r=Be s:=List.cons.inj h;have f:=Prod.mk.inj l.1;have m:=ZS (ha c (mem_cons_self ..)).2 (p d (mem_cons_self ..)).2 f.1;rw[ih (λx j=>ha x (mem_cons_of_mem _ j)) (λx j=>p x (mem_cons_of_mem _ j)) l.2]
   cases c;cases d
   simp only at m f;rw[m,f.2]
def AfN(kv:KV)(c:Chg):KV:=UG kv (encR c.r) (Fq c.k)
def atK(kv:KV)(l:List Chg)(i:Nat):KV:=(l.take i).foldl AfN kv
def Kv(kv:KV)(l:List Chg)(i:Nat):Int:=Adi (atK kv l i) (encR (l.getD i ϰ).r) (Fq (l.getD i ϰ).k)
theorem SO(c:KV)(l:List Chg)(i:Nat)(h:i<l.length):atK c l (i+1)=UG (atK c l i) (encR (l.getD i ϰ).r) (Fq (l.getD i ϰ).k):=by
 unfold atK;rw[takeC l i h,foldl_append];rfl
theorem WJ{l:List Chg}(d:Gg l)(h:Bf l)(i:Nat)(c:i<l.length):rowOk (l.getD i ϰ).r:=Nq (h.2 i c).2.2.1 (AaD d i c).1
theorem WK{c:KV}(h:Gp c){l:List Chg}(f:Gg l)(d:Bf l)(i:Nat)(j:i<=l.length):Gp (atK c l i):=by
 induction i with
 |zero=>exact h
 |succ i ih=>
  rw[SO c l i Ϥ];exact AaG (ih Ϥ) (WJ f d i Ϥ) _
theorem Yo{d:KV}{x:Value}(h:Ei w B nn d):w.cell? ⟨B,i,none⟩≠some x:=by
 obtain⟨j,f,c,l,m,p⟩:=h;intro e;simp[World.cell?,c]at e
theorem QH{p:KV}{l:List Chg}(h:GV w ad l)(d:Ei w B nn p)(f:w.grownBy w' (some B)):GV w' ad l:=by
 intro i m;obtain⟨g,e,c⟩:=h i m;refine⟨g,e,f.cell c (λh=>?_)⟩;have j:g=B:=by simpa using h
 subst j;exact Yo d c
theorem Adv(k:Int): -1<=Fq k/\Fq k<=1:=by unfold Fq;split<;>omega
theorem AaJ{b c d:Int}(h:a=b)(k:c=d):Ending.returned (.tuple #[.slice none 0 0,.int .i64 a,.int .i64 c])= .returned (.tuple #[.slice none 0 0,.int .i64 b,.int .i64 d]):=by rw[h,k]
theorem Adw{a:Nat}(h:a=b):Ending.returned (.tuple #[.slice ad a cap,.int .i64 0,.int .i64 0])= .returned (.tuple #[.slice ad b cap,.int .i64 0,.int .i64 0]):=by rw[h]
theorem Adx(h:rowOk r):(encR r).length<=maxLen:=by
 have f:=D6 r (λc d=>(h.2 c d).1);have j:=h.1;unfold maxLen;omega
theorem AaK:(Tryz.prog.info? 217).map (λi=>(i.zero,i.size,i.bytes))=some (some (.agg #[.int .i64 0,.slice none 0 0]),2,32):=ϧ
def BF(l:List (Int×Value)):List Value:=l.flatMap λp=>[.int .i64 p.1,p.2]
theorem Yp(l:List (Int×Value)):(BF l).length=l.length * 2:=by
 induction l with
 |nil=>rfl
 |cons c r ih=>show([_,_]++BF r).length=_;rw[lAp,ih,length_cons];simp;omega
theorem US(l:List (Int×Value))(n:Int)(x:Value):BF (l++[(n,x)])=BF l++[.int .i64 n,x]:=by
 unfold BF;rw[flatMap_append];simp
theorem AaL(l:List (Int×Value))(i:Nat)(c:i<l.length):(BF l)[i * 2]? =some (.int .i64 (l.getD i (0,.bool false)).1)/\(BF l)[i * 2+1]? =some (l.getD i (0,.bool false)).2:=by
 induction l generalizing i with
 |nil=>exact absurd c (Nat.not_lt_zero i)
 |cons p r ih=>
  have e:BF (p::r)= .int .i64 p.1::p.2::BF r:=rfl;rw[e]
  cases i with
  |zero=>exact⟨rfl,rfl⟩
  |succ i=>
   have:=ih i (by simpa using c);rw[show(i+1) * 2=i * 2+1+1 by omega];simpa using this
end ch
namespace ch
open vl
theorem Afb:Tryz.prog.cellsOf 83=2:=ϧ
theorem AaM:Tryz.prog.cellsOf 80=1:=ϧ
section
variable {H : Type} {enc : TypeId × Value -> H} {w : Ϡ} {base : Nat} {spare : Nat -> Bool} {held : Bool}
theorem I3{v:Value}{y:DataW H×List MemPlace}{fuel:Nat}(h:DataW.trod enc Tryz.prog w base spare held fuel 80 [v]=some y):
 ∃a j cap r,v= .slice a j cap/\List.length (α:=Cel) r=j/\vl.rowAt w a r/\Bq r/\j<=9223372036854775807:=by
 rcases open_slice underlying80 h with⟨f,_⟩|⟨x,l,c,m,n,D,z,f,_⟩
 ·simp at f;subst f;obtain⟨r,q,s,t,u⟩:=open_row (a:=none) (len:=0) (cap:=0) (d:=y.1) (p:=y.2) ⟨fuel,h⟩;exact⟨_,_,_,r,rfl,q,s,t,u⟩
 ·simp at f;subst f;obtain⟨r,q,s,t,u⟩:=open_row (a:=some x) (len:=l) (cap:=c) (d:=y.1) (p:=y.2) ⟨fuel,h⟩;exact⟨_,_,_,r,rfl,q,s,t,u⟩
theorem SP{x:Addr}{h:List Value}{y:DataW H×List MemPlace}{fuel:Nat}(z:w.cells? base x 2=some h)(ht:DataW.trod enc Tryz.prog w base spare held fuel 83 h=some y):
 ∃(b d:Nat) (c:Cnt) (f:ϡ) (j:Nat),x=⟨b,d,none⟩/\Δ w b d (.slice f c.r.length j)/\vl.rowAt w f c.r/\Δ w b (d+1) (.int .i64 c.n)/\Bq c.r/\c.r.length<=ύ/\(-9223372036854775808<=c.n/\c.n<=9223372036854775807):=by
 obtain⟨_,D,s⟩:=World.cells?_some z;obtain⟨M,N,n,_,_,q,u⟩:=trod_struct2 underlying83 ht
 match h,D with
 |[a0,a1],_=>
  simp[AaM]at q;obtain⟨m,l,_,K⟩:=DataW.trod_int underlying3 u;simp[AaM,CR]at l;subst l;obtain⟨f,L,j,r,e0,A,F,I,E⟩:=I3 q;subst e0 A;obtain⟨b,d,J⟩:=x;have p:=s 0 Ϥ;have t:=s 1 Ϥ;have G:J=none:=by simpa[Addr.add]using World.cell?_spot p
  subst G;refine⟨b,d,⟨r,m⟩,f,j,rfl,?_,F,?_,I,E,bounds_i64 K⟩
  ·simpa[Addr.add]using p
  ·simpa[Addr.add]using t
theorem SQ{a:ϡ}{len cap:Nat}{d:DataW H}{p:List MemPlace}(h:DataW.Trod enc Tryz.prog w base spare held 40 (.slice a len cap) d p):
 ∃r:List Cnt,r.length=len/\viewAt w a r/\Cc r/\len<=9223372036854775807:=by
 obtain⟨fuel,Q⟩:=h;rcases open_slice underlying40 Q with⟨t,_⟩|⟨x,l,c,m,n,D,V,t,_,Z,R,S,_,I⟩
 ·simp[Value.cells]at t;obtain⟨rfl,rfl,rfl⟩:=t;exact⟨[],rfl,λi j=>absurd j (Nat.not_lt_zero i),(λc G=>by cases G),Ϥ⟩
 ·simp[Value.cells]at t;obtain⟨rfl,rfl,rfl⟩:=t;have aa:len<=m:=by rw[S];split<;>omega
  rw[Afb]at I;obtain⟨f,K⟩:=choose_lt (α:=Cnt) (n:=len) (p:=λi c=> ∃b q s u,x=⟨b,q,none⟩/\Δ w b (q+i * 2) (.slice s c.r.length u)/\vl.rowAt w s c.r/\Δ w b (q+i * 2+1) (.int .i64 c.n)/\Bq c.r/\c.r.length<=ύ/\(-9223372036854775808<=c.n/\c.n<=9223372036854775807)) (λi j=>by
   obtain⟨X,O,P⟩:=I i Ϥ;obtain⟨b,q,c,s,u,e,A,E,F,J⟩:=SP O P;obtain⟨Y,T,U⟩:=I 0 Ϥ;obtain⟨z,y,W,ab,ac,e0,_⟩:=SP T U;have N:x=⟨z,y,none⟩:=by simpa[Addr.add]using e0
   subst N;have M:(⟨z,y,none⟩:Addr).add (i * 2)=⟨z,y+i * 2,none⟩:=by unfold Addr.add;split<;>simp_all
   rw[M]at e
   cases e
   exact⟨c,b,y,s,u,rfl,A,E,F,J⟩)
  refine⟨(List.range len).map f,Ϧ,?_,?_,by unfold maxLen at R;omega⟩
  ·intro i j;have L:i<len:=by simpa using j
   obtain⟨b,q,s,u,rfl,A,E,F,_⟩:=K i L;have e:((List.range len).map f).getD i ϰ=f i:=by simp[gDe,L]
   rw[e];exact⟨b,q,s,u,rfl,A,E,F⟩
  ·intro c G;obtain⟨i,j,rfl⟩:=mem_map.1 G;obtain⟨_,_,_,_,_,_,_,_,J⟩:=K i (by simpa using j);exact J
end
end ch
end Go.Proofs.YtfkihidbnfkbaaaGreatDoor
