import Derived.Test.YtfkihidbnfkbaaaGreatDoorPv4
import Derived.Maps.Ext
import Derived.Deep.Onto
set_option linter.all false
set_option maxHeartbeats 8000000
set_option maxRecDepth 100000
open Go.ChangeShapes Go.WideShapes Go.ChangeAt Go.RowKit Go.Maps Go.WideAt Go.WideElems Go.WideMaps Go.Sort List
open Inhabited renaming default->ϰ
namespace Go.Proofs.YtfkihidbnfkbaaaGreatDoor
open Go.Proofs.Tryz
namespace ch
abbrev KV:=List (List UInt8×Int)
def insK(x:List UInt8×Int):KV->KV
 |[]=>[x]
 |y::r=>if bytesBefore x.1 y.1 then x::y::r else y::insK x r
def Iu(kv:KV)(k:List UInt8):KV:=kv.filter λp=> !(p.1==k)
def Jq(kv:KV)(k:List UInt8)(n:Int):KV:=insK (k,n) (Iu kv k)
def DF(kv:KV)(k:List UInt8):Int:=match kv.find? (λp=>p.1==k)with|some p=>p.2|none=>0
def ent(p:List UInt8×Int):Lit×DataW Unit:=(.string p.1,.lit (.int .i64 p.2))
def toD(kv:KV):DataW Unit:=.map (kv.map ent)
theorem Zf(x:List UInt8×Int)(l:KV):(insK x l).map ent=DataW.insert (ent x) (l.map ent):=by
 induction l with
 |nil=>rfl
 |cons y r ih=>
  rw[insK,map_cons,DataW.insert];have e:(ent x).1.before (ent y).1=bytesBefore x.1 y.1:=rfl;rw[e];split
  ·rfl
  ·rw[map_cons,ih]
theorem Tr(l:KV)(k:List UInt8):(Iu l k).map ent=(l.map ent).filter λp=> !p.1.sameKey (.string k):=by
 unfold Iu;rw[filter_map];rfl
theorem OA(a:KV)(k:List UInt8)(n:Int):(toD a).put (.string k) (.lit (.int .i64 n))=toD (Jq a k n):=by
 unfold toD Jq;rw[Zf,Tr];rfl
theorem Zg(a:KV)(k:List UInt8):(toD a).del (.string k)=toD (Iu a k):=by
 unfold toD;rw[Tr];rfl
theorem Aa4(a:KV)(k:List UInt8):(toD a).atKey (.string k) (.lit (.int .i64 0))= .lit (.int .i64 (DF a k)):=by
 unfold toD DataW.atKey DF;simp only[find?_map];have e:((λp:Lit×DataW Unit=>p.1.sameKey (.string k))∘ent)=λp=>p.1==k:=rfl;rw[e]
 cases a.find? (λp=>p.1==k)<;>rfl
theorem Jr(a:KV):Maps.size (toD a)=a.length:=by
 unfold toD;rw[Maps.size_eq,lMp]
theorem law:Keyed Tryz.prog 9:=string_keyed underlying9
theorem Mq(w:Ϙ):(zeroValue 3).run Tryz.prog w= .ok (.int .i64 0) w:=ϟ
def Df(w:World)(B nn:Nat)(kv:KV):Prop:=w.ownsMap Tryz.prog 9 (plainElem (H:=Unit) Tryz.prog 3) B nn (toD kv)
theorem Gc{a:KV}{k:List UInt8}{c:Int}(h:(toD a).atKey (.string k) (.lit (.int .i64 0))= .lit (.int .i64 c)):c=DF a k:=by
 rw[Aa4]at h;injection h with h
 injection h with _ h
 exact h.symm
def Zh(kv:KV)(k:List UInt8)(n:Int):Int:=
 if DF kv k+n<0 then 9 else if 1073741824<DF kv k+n then 2 else if DF kv k+n=0 then 0 else if DF kv k=0/\kv.length=4096 then 2 else 0
def Sb(kv:KV)(k:List UInt8)(n:Int):KV:=
 if DF kv k+n<0 then kv else if 1073741824<DF kv k+n then kv else if DF kv k+n=0 then Iu kv k else if DF kv k=0/\kv.length=4096 then kv else Jq kv k (DF kv k+n)
theorem Zi(B nn:Nat)(f:KV)(k:ByteArray)(n:Int)(w:Ϙ)(D:Df w B nn f)(j:k.size<=maxLen)(E:nn<maxLen)
 (I: -1152921504606846976<=DF f k.data.toList) (J:DF f k.data.toList<=1152921504606846976) (P: -1152921504606846976<=n) (Q:n<=1152921504606846976) (O:f.length<=1152921504606846976):
 η 163 #[.map (some B),.string k,.int .i64 n] w λe w'=>e= .returned (.int .i64 (Zh f k.data.toList n))/\Df w' B (nn+1) (Sb f k.data.toList n)/\w.grownBy w' (some B):=by
 have b:=hqz D;obtain⟨h,y⟩:∃h,DF f k.data.toList=h:=⟨_,rfl⟩;have p:=hqz y;rw[y]at I J;unfold Zh Sb;rw[y];clear y D;by_cases u:h+n<0
 ·rw[if_pos u,if_pos u];go_enter func163,ntmps163;go_wp2_with (at_lookup;refine wpList_lookup_own_int _ rfl (.tmp 9) (.tmp 10) 223 rfl 9 3 .i64 law underlying223 underlying3 (Mq _) B nn _ rfl b.o _ (.string k.data.toList) rfl (keyOf_string_mk underlying9 j) ?_;intro c a t;have d:c=h:=(Gc a).trans p.o;clear a;subst d);go_ret;exact⟨rfl,b.o.mono Ϝ,World.grownBy.refl _ _⟩
 ·rw[if_neg u,if_neg u];by_cases x:1073741824<h+n
  ·rw[if_pos x,if_pos x];go_enter func163,ntmps163;go_wp2_with (at_lookup;refine wpList_lookup_own_int _ rfl (.tmp 9) (.tmp 10) 223 rfl 9 3 .i64 law underlying223 underlying3 (Mq _) B nn _ rfl b.o _ (.string k.data.toList) rfl (keyOf_string_mk underlying9 j) ?_;intro c a t;have d:c=h:=(Gc a).trans p.o;clear a;subst d);go_ret;exact⟨rfl,b.o.mono Ϝ,World.grownBy.refl _ _⟩
  ·rw[if_neg x,if_neg x];by_cases l:h+n=0
   ·rw[if_pos l,if_pos l];have F:(h+n==0)=true:=by rw[beq_iff_eq];exact l
    have N:Ϛ (h+n=0):=l;clear l;go_enter func163,ntmps163;go_wp2_with (first
     |(at_lookup;refine wpList_lookup_own_int _ rfl (.tmp 9) (.tmp 10) 223 rfl 9 3 .i64 law underlying223 underlying3 (Mq _) B nn _ rfl b.o _ (.string k.data.toList) rfl (keyOf_string_mk underlying9 j) ?_;intro c a t;have d:c=h:=(Gc a).trans p.o;clear a;subst d)
     |(at_delete;refine wpList_delete_own _ rfl (.tmp 24) (.tmp 25) 223 9 rfl 3 law underlying223 _ B nn _ rfl b.o _ (.string k.data.toList) rfl (keyOf_string_mk underlying9 j) ?_;intro w1 m L))
    go_ret;exact⟨rfl,by rw[Zg]at m;exact m.mono Ϝ,L.grown⟩
   ·rw[if_neg l,if_neg l];have F:(h+n==0)=false:=by rw[beq_eq_false_iff_ne];exact l
    by_cases q:h=0
    ·have G:(h==0)=true:=by rw[beq_iff_eq];exact q
     have A:Ϛ (h=0):=q;clear q;have K:=λM=>b.o.len underlying223 M;simp only[Jr]at K;by_cases s:f.length=4096
     ·have H:((f.length:Int)==4096)=true:=by rw[beq_iff_eq];omega
      rw[if_pos ⟨A.o,s⟩,if_pos ⟨A.o,s⟩];clear s;go_enter func163,ntmps163;go_wp2_with (first
       |(at_lookup;refine wpList_lookup_own_int _ rfl (.tmp 9) (.tmp 10) 223 rfl 9 3 .i64 law underlying223 underlying3 (Mq _) B nn _ rfl b.o _ (.string k.data.toList) rfl (keyOf_string_mk underlying9 j) ?_;intro c a t;have d:c=h:=(Gc a).trans p.o;clear a;subst d))
      go_ret;exact⟨rfl,b.o.mono Ϝ,World.grownBy.refl _ _⟩
     ·have H:((f.length:Int)==4096)=false:=by rw[beq_eq_false_iff_ne];omega
      rw[if_neg (λh=>s h.2),if_neg (λh=>s h.2)];go_enter func163,ntmps163;go_wp2_with (first
       |(at_lookup;refine wpList_lookup_own_int _ rfl (.tmp 9) (.tmp 10) 223 rfl 9 3 .i64 law underlying223 underlying3 (Mq _) B nn _ rfl b.o _ (.string k.data.toList) rfl (keyOf_string_mk underlying9 j) ?_;intro c a t;have d:c=h:=(Gc a).trans p.o;clear a;subst d)
       |(at_mapUpdate;refine wpList_mapUpdate_own _ rfl (.tmp 34) (.tmp 35) (.tmp 36) 223 rfl 9 3 law underlying223 _ B nn _ rfl b.o E _ _ (.string k.data.toList) rfl rfl (keyOf_string_mk underlying9 j) _ [] (plainElem_int underlying3 (WalkArith.wf_i64 Ϝ)) ?_;intro w1 m z))
      go_ret;exact⟨rfl,by rw[OA]at m;exact m,z⟩
    ·have G:(h==0)=false:=by rw[beq_eq_false_iff_ne];exact q
     rw[if_neg (λh=>q h.1),if_neg (λh=>q h.1)];go_enter func163,ntmps163;go_wp2_with (first
      |(at_lookup;refine wpList_lookup_own_int _ rfl (.tmp 9) (.tmp 10) 223 rfl 9 3 .i64 law underlying223 underlying3 (Mq _) B nn _ rfl b.o _ (.string k.data.toList) rfl (keyOf_string_mk underlying9 j) ?_;intro c a t;have d:c=h:=(Gc a).trans p.o;clear a;subst d)
      |(at_mapUpdate;refine wpList_mapUpdate_own _ rfl (.tmp 34) (.tmp 35) (.tmp 36) 223 rfl 9 3 law underlying223 _ B nn _ rfl b.o E _ _ (.string k.data.toList) rfl rfl (keyOf_string_mk underlying9 j) _ [] (plainElem_int underlying3 (WalkArith.wf_i64 Ϝ)) ?_;intro w1 m z))
     go_ret;exact⟨rfl,by rw[OA]at m;exact m,z⟩
end ch
namespace ch
def rising(kv:KV):Prop:=kv.Pairwise λp q=>bytesBefore p.1 q.1=true
theorem Dw:∀(a b:List UInt8),bytesBefore a b=decide (a<b)
 |[],[]=>by simp[bytesBefore]
 |[],_::_=>by simp[bytesBefore]
 |_::_,[]=>by simp[bytesBefore]
 |a::x,b::y=>by
  rw[bytesBefore,Dw x y];simp only[cons_lt_cons_iff];by_cases c:a<b<;>by_cases d:a=b<;>by_cases f:x<y<;>simp[c,d,f]
theorem Ky(a:KV):strKeys (toD a)=a.map (·.1):=by
 show(a.map ent).map (λp=>strOf p.1)=a.map (·.1);rw[map_map];rfl
theorem Qr{a:KV}(d:rising a){c:List (List UInt8)}(h:c.Perm (strKeys (toD a))):c.mergeSort (λx y=>decide (x<=y))=a.map (·.1):=by
 have e:=mergeSort_of_perm h;rw[Ky]at e;refine e.trans ?_;refine mergeSort_of_pairwise ?_;rw[pairwise_map];refine d.imp ?_;intro p q b;rw[Dw]at b;exact decide_eq_true (List.le_of_lt (of_decide_eq_true b))
theorem Xp(B:Nat)(w:Ϙ):η 267 #[.map (some B)] w λe w'=>e= .returned (.func (.func 292) #[] #[μ w])/\w'=w.alloc (.cells #[.map (some B)] 223):=
 callsIn_wide.1 (Tryz.maps_Keys_267 (some B) w)
theorem Sc(B nn:Nat)(a:KV)(w:Ϙ)(l:Df w B nn a)(m:rising a)(q:a.length<=1000000):
 η 266 #[.func (.func 292) #[] #[μ w]] (w.alloc (.cells #[.map (some B)] 223))
  λe w'=>(∃v,e= .returned v/\w'.ownsRow (w.heap.size+1) 9 1 v a.length ((a.map (·.1)).map encStr))/\Below (w.heap.size+1) (ξ w #[.map (some B)] 223) w':=by
 have h:=Tryz.slices_Sorted_keys_266_267 B nn (toD a) (plainElem (H:=Unit) Tryz.prog 3) w l (by rw[Jr];unfold maxLen;omega) (by rw[Jr];omega);refine(callsIn_wide.1 h).mono ?_;rintro e w' ⟨v,p,f,d,b,s,c⟩;have j:p.length=a.length:=by rw[d.length_eq,Ky,lMp]
 rw[Qr m d,j]at b;simp only[World.size_alloc]at b c;exact⟨⟨v,f,b⟩,c⟩
end ch
namespace ch
variable {w : Ϙ} {B nn : Nat}
theorem Cc{w':Ϙ}{c:KV}(h:Df w B nn c)(p:ϛ w w'):Df w' B nn c:=by
 obtain⟨f,d,a,j,l,m⟩:=h;have b:B<w.heap.size:=by
  rcases Nat.lt_or_ge B w.heap.size with b|q
  ·exact b
  ·rw[Array.getElem?_eq_none q]at a;cases a
 exact⟨f,d,by rw[p.block B b];exact a,j,l,m⟩
theorem Dn{a:KV}(h:Df w B nn a)(o:Obj):Df (w.alloc o) B nn a:=Cc h (bR.alloc nR o)
theorem Li{d:KV}(h:Df w B nn d):B<w.heap.size:=by
 obtain⟨j,f,a,l,m,p⟩:=h;rcases Nat.lt_or_ge B w.heap.size with c|b
 ·exact c
 ·rw[Array.getElem?_eq_none b]at a;cases a
theorem EV:∀(a b:List UInt8),Op.bytesLess a b=decide (a<b)
 |[],[]=>by simp[Op.bytesLess]
 |_::_,[]=>by simp[Op.bytesLess]
 |[],_::_=>by simp[Op.bytesLess]
 |a::x,b::y=>by
  rw[Op.bytesLess,EV x y];simp only[cons_lt_cons_iff];by_cases c:a<b<;>by_cases d:a=b<;>by_cases f:x<y<;>simp[c,d,f]
end ch
namespace ch
open vl
variable {w w' w1 w2 : Ϙ} {k : List UInt8} {n : Int} {B C base g size : Nat} {r : List Cel} {e : TypeId} {v : Value} {xs : List Value} {o row : Option Nat}
structure Cnt where
 r:List Cel
 n:Int
instance:Inhabited Cnt:=⟨⟨[],0⟩⟩
def viewAt(w:World)(a:Option Addr)(v:List Cnt):Prop:=
 ∀i,i<v.length->∃b off ra rc,a=some ⟨b,off,none⟩/\Δ w b (off+i * 2) (.slice ra (v.getD i ϰ).r.length rc)/\vl.rowAt w ra (v.getD i ϰ).r/\Δ w b (off+i * 2+1) (.int .i64 (v.getD i ϰ).n)
def Cd(v:List Cnt):Prop:=∀c∈v,Cb c.r/\c.r.length<=χ/\(-9223372036854775808<=c.n/\c.n<=9223372036854775807)
theorem Ke{v:List Cnt}(h:Cd v)(k:Nat)(a:k<v.length):Cb (v.getD k ϰ).r/\(v.getD k ϰ).r.length<=χ/\(-9223372036854775808<=(v.getD k ϰ).n/\(v.getD k ϰ).n<=9223372036854775807):=
 h _ (by simp[gDe,a])
theorem BJ{a:ϙ}{v:List Cnt}(h:viewAt w a v)(c:ϛ w w'):viewAt w' a v:=by
 intro i d;obtain⟨b,o,f,j,e,l,m,p⟩:=h i d;exact⟨b,o,f,j,e,cLz c l,Ac m c,cLz c p⟩
def Gd(v:List Cnt)(i:Nat):Prop:=
 AD (v.getD i ϰ).r=0/\1<=(v.getD i ϰ).n/\(v.getD i ϰ).n<=1073741824/\(0<i->Bc (v.getD (i - 1) ϰ).r (v.getD i ϰ).r<0)
def Eb(v:List Cnt):Prop:=v.length<=4096/\∀i,i<v.length->Gd v i
instance(v:List Cnt)(i:Nat):Decidable (Gd v i):=by unfold Gd;infer_instance
instance(v:List Cnt):Decidable (Eb v):=by unfold Eb;infer_instance
def A4(v:List Cnt):Int:=if 4096<v.length then 2 else if Eb v then 0 else 1
theorem OC{v:List Cnt}(h:4096<v.length):A4 v=2:=by unfold A4;rw[if_pos h]
theorem Sd{v:List Cnt}(h:Eb v):A4 v=0:=by
 have a:=h.1;unfold A4;rw[if_neg Ϝ,if_pos h]
theorem Qs{v:List Cnt}(a:¬4096<v.length)(i:Nat)(b:i<v.length)(h:¬Gd v i):A4 v=1:=by
 unfold A4;rw[if_neg a,if_neg (λc=>h (c.2 i b))]
def AM(v:List Cnt):KV:=v.map λc=>(encR c.r,c.n)
theorem UJ{a:KV}(h:∀p∈a,bytesBefore p.1 k=true):Jq a k n=a++[(k,n)]:=by
 have d:Iu a k=a:=by
  unfold Iu;rw[filter_eq_self];intro p c;have b:=h p c;by_cases e:p.1=k
  ·rw[e,Dw]at b;exact absurd (of_decide_eq_true b) (List.lt_irrefl k)
  ·simpa using e
 unfold Jq;rw[d];clear d
 induction a with
 |nil=>rfl
 |cons y r ih=>
  rw[insK];have b:=h y (mem_cons_self ..);have f:bytesBefore k y.1=false:=by
   rw[Dw]at b⊢;exact decide_eq_false (List.lt_asymm (of_decide_eq_true b))
  rw[f,if_neg ϝ,ih (λp c=>h p (mem_cons_of_mem _ c))];rfl
theorem UK(v:List Cnt)(c:Cnt):AM (v++[c])=AM v++[(encR c.r,c.n)]:=by simp[AM]
theorem Ts(v:List Cnt)(k:Nat)(h:k<v.length):v.take (k+1)=v.take k++[v.getD k ϰ]:=by
 rw[take_succ_eq_append_getElem h];simp[gDe,h]
theorem MY{a b:List Cel}(ha:rowOk a)(j:rowOk b)(h:Bc a b<0):bytesBefore (encR a) (encR b)=true:=by
 have f:=Nl a b ha.2 j.2;have c:=IX (encR a) (encR b);rw[Dw];rw[f]at c;rw[c]at h;split at h
 ·rename_i d;rw[EV]at d;exact d
 ·split at h<;>omega
theorem OD{v:List Cnt}{i:Nat}(f:Cd v)(d:i<v.length)(h:Gd v i):rowOk (v.getD i ϰ).r:=by
 have a:=h.1;unfold AD at a;split at a
 ·cases a
 ·rename_i j;exact⟨Ϝ,λc b=>⟨GM a c b,(Ke f i d).1 c b⟩⟩
theorem before_trans{a b c:List UInt8}(d:bytesBefore a b=true)(f:bytesBefore b c=true):bytesBefore a c=true:=by
 rw[Dw]at *;exact decide_eq_true (List.lt_trans (of_decide_eq_true d) (of_decide_eq_true f))
theorem NG{v:List Cnt}(d:Cd v)(k:Nat)(f:k<v.length)(h:∀i,i<=k->Gd v i):∀i,i<k->bytesBefore (encR (v.getD i ϰ).r) (encR (v.getD k ϰ).r)=true:=by
 induction k with
 |zero=>intro i b;exact absurd b (Nat.not_lt_zero i)
 |succ k ih=>
  intro i b;have c:bytesBefore (encR (v.getD k ϰ).r) (encR (v.getD (k+1) ϰ).r)=true:=by
   have a:=h (k+1) nR;exact MY (OD d Ϝ (h k Ϝ)) (OD d f a) (by have:=a.2.2.2 Ϝ;simpa using this)
  rcases Nat.lt_succ_iff_lt_or_eq.1 b with a|a
  ·exact before_trans (ih Ϝ (λj l=>h j Ϝ) i a) c
  ·rw[a];exact c
theorem Aa5{v:List Cnt}(j:Cd v)(k:Nat)(f:k<v.length)(h:∀i,i<=k->Gd v i):∀p∈AM (v.take k),bytesBefore p.1 (encR (v.getD k ϰ).r)=true:=by
 intro p a;unfold AM at a;obtain⟨c,b,rfl⟩:=mem_map.1 a;obtain⟨i,d,rfl⟩:=getElem_of_mem b;rw[length_take]at d;have e:(v.take k)[i]'(by rw[length_take];omega)=v.getD i ϰ:=by
  rw[getElem_take];simp[gDe,show i<v.length by omega]
 rw[e];exact NG j k f h i Ϝ
theorem Zj{v:List Cnt}(b:Cd v)(k:Nat)(a:k<v.length)(h:∀i,i<=k->Gd v i):Jq (AM (v.take k)) (encR (v.getD k ϰ).r) (v.getD k ϰ).n=AM (v.take (k+1)):=by
 rw[UJ (Aa5 b k a h),Ts v k a,UK]
theorem UL{v:List Cnt}(l:Cd v)(h:Eb v):rising (AM v):=by
 unfold rising AM;rw[pairwise_map,pairwise_iff_getElem];intro i j d a f;have b:v[i]=v.getD i ϰ:=by simp[gDe,d]
 have c:v[j]=v.getD j ϰ:=by simp[gDe,a]
 rw[b,c];exact NG l j a (λm p=>h.2 m Ϝ) i f
theorem Xq(n:Int)(w:Ϙ):(Instr.makeMap 223 (some (.int .i64 n))).run Tryz.prog w= .ok (.map (some w.heap.size)) (w.alloc (.map #[] 0)):=by
 unfold Instr.makeMap;simp[run_underlying underlying223,go_sem,asInt,Result.andThen]
theorem UM(w:Ϙ):Df (w.alloc (.map #[] 0)) w.heap.size 0 []:=World.ownsMap_made _ _ _ _
theorem Qt{nn:Nat}{a:KV}(h:w'.ownsMap Tryz.prog 9 (plainElem (H:=Unit) Tryz.prog 3) B (nn+1) ((toD a).put (.string k) (.lit (.int .i64 n)))):Df w' B (nn+1) (Jq a k n):=by
 rw[OA]at h;exact h
theorem Mr(h:AD r=0)(b:Cb r):rowOk r:=by
 unfold AD at h;split at h
 ·cases h
 ·rename_i d;exact⟨Ϝ,λc a=>⟨GM h c a,b c a⟩⟩
theorem UN{p:Nat->Prop}{j:Nat}(h:∀i,i<j->p i)(b:p j):∀i,i<=j->p i:=λi c=>by
 rcases Nat.lt_or_ge i j with a|a
 ·exact h i a
 ·rw[show i=j by omega];exact b
theorem Bt(x:Int):IntKind.i64.wrap x=(x+9223372036854775808) % 18446744073709551616 - 9223372036854775808:=by
 simp only[IntKind.wrap,IntKind.signed,IntKind.bits];simp;split<;>omega
def UO(v:List Cnt)(base:Nat)(e:Ending)(w':World):Prop:=
 (A4 v=0/\Eb v/\∃B,e= .returned (.tuple #[.map (some B),.int .i64 0])/\base<=B/\Df w' B v.length (AM v))\/
 (A4 v≠0/\e= .returned (.tuple #[.map none,.int .i64 (A4 v)]))
theorem Js{a b:Int}(h:a=b):Ending.returned (.tuple #[.map none,.int .i64 a])= .returned (.tuple #[.map none,.int .i64 b]):=by rw[h]
attribute [local go_sem ↓] Go.wp_at_zero Go.wp_at_succ
theorem Ms(a:ϙ)(cap:Nat)(v:List Cnt)(w:Ϙ)(hv:viewAt w a v)(W:Cd v)(hl:v.length<=χ):
 η 161 #[.slice a v.length cap] w λe w'=>UO v w.heap.size e w'/\ϛ w w':=by
 obtain⟨n,hn⟩:∃n,v.length=n:=⟨_,rfl⟩;have G:=hqz hn;rw[hn]at hl⊢;clear hn;have bh:=Xq;by_cases h4:4096<n
 ·have f:Ϛ (A4 v=2):=OC (by rw[G.o];exact h4);go_enter func161,ntmps161;go_wp2
  go_ret2
  exact⟨.inr ⟨by rw[f.o];decide,Js f.o.symm⟩,bR⟩
 ·go_enter func161,ntmps161;go_wp2
  go_loopw [17] (λi wr=> ∃k:Nat,k<=n/\i= .int .i64 k/\Df wr w.heap.size k (AM (v.take k))/\ϛ w wr/\(∀i,i<k->Gd v i)) (λi _=>n - (intOf i).toNat)
  case atStart=>exact⟨0,Ϝ,rfl,UM w,ϧ,λi O=>absurd O (Nat.not_lt_zero i)⟩
  case round=>
   obtain⟨k,hk,rfl,ag,u,ar⟩:=hrel;have I:=hqz ag;have HA:=hqz ar;have P:=u.size;have bc:=Li ag;clear ag ar;by_cases a6:k<n
   ·have R:k<v.length:=by rw[G.o];exact a6
    obtain⟨b,o,q,y,e,x1,x2,x3⟩:=hv k R;subst e;obtain⟨aa,ab,a1,a2⟩:=Ke W k R;have Z:=cLz u x1;have q3:=cLz u x3;have D:Ϛ (vl.rowAt wr q (v.getD k ϰ).r):=Ac x2 u;have i1:(0:Int)<=(k:Int):=Ϝ;have i2:(k:Int)<(n:Int):=Ϝ;have S:Ϛ (¬Gd v k->A4 v=1):=Qs (by rw[G.o];exact h4) k R;have U:Ϛ ((∀i,i<=k->Gd v i)->Jq (AM (v.take k)) (encR (v.getD k ϰ).r) (v.getD k ϰ).n=AM (v.take (k+1))):=Zj W k R;have aq:Ϛ (Gd v k->rowOk (v.getD k ϰ).r):=λh=>OD W R h;have F:Ϛ (Gd v k↔AD (v.getD k ϰ).r=0/\1<=(v.getD k ϰ).n/\(v.getD k ϰ).n<=1073741824/\(0<k->Bc (v.getD (k - 1) ϰ).r (v.getD k ϰ).r<0)):=Iff.rfl;obtain⟨⟨r,m⟩,a4⟩:∃c,v.getD k ϰ=c:=⟨_,rfl⟩;rw[a4]at Z q3 D U aq F aa ab a1 a2;dsimp only at Z q3 D U aq F aa ab a1 a2;clear x1 x2 x3;obtain⟨E,V⟩:∃l,r.length=l:=⟨_,rfl⟩;rw[V]at Z;have K:Ϛ (∀w,vl.rowAt w q r->CT 112 #[.slice q E y] w (θ w (.tuple #[.string (EI r),.int .i64 (AD r)]))):=by
     subst V;exact λw h=>Ja q y r w h aa ab
    by_cases Q:AD r=0
    ·by_cases e2:m<1
     ·have f:Ϛ (A4 v=1):=S.o (λh=>by have:=(F.o.1 h).2.1;omega);go_wp2_with (go_at_call 112;refine(K.o _ (Ac D.o ϧ)).mono ?_;rintro e p ⟨rfl,d⟩;have L:=cLz d (a:=⟨wr,0,none⟩) (v:=.slice q E y) Ϡ;have N:=cLz d (a:=⟨wr,1,none⟩) (v:=.int .i64 m) Ϡ;have t:=(u.alloc P _).trans (d.mono ϡ);have J:=Cc (Dn I.o _) d;have A:ϛ wr p:=ϧ.trans (d.mono Ϟ))
      go_ret2
      exact⟨.inr ⟨by rw[f.o];decide,Js f.o.symm⟩,t⟩
     ·have a8:decide (m<1)=false:=decide_eq_false e2;by_cases e3:1073741824<m
      ·have f:Ϛ (A4 v=1):=S.o (λh=>by have:=(F.o.1 h).2.2.1;omega);go_wp2_with (go_at_call 112;refine(K.o _ (Ac D.o ϧ)).mono ?_;rintro e p ⟨rfl,d⟩;have L:=cLz d (a:=⟨wr,0,none⟩) (v:=.slice q E y) Ϡ;have N:=cLz d (a:=⟨wr,1,none⟩) (v:=.int .i64 m) Ϡ;have t:=(u.alloc P _).trans (d.mono ϡ);have J:=Cc (Dn I.o _) d;have A:ϛ wr p:=ϧ.trans (d.mono Ϟ))
       go_ret2
       exact⟨.inr ⟨by rw[f.o];decide,Js f.o.symm⟩,t⟩
      ·have a9:decide (1073741824<m)=false:=decide_eq_false e3;have ai:rowOk r:=Mr Q aa;have ao:Ϛ ((EI r).data.toList=encR r):=I7 ai;have an:Ϛ ((EI r).size<=maxLen):=Nat.le_trans (Pm ai) Ϧ;obtain⟨ks,aw⟩:∃s,EI r=s:=⟨_,rfl⟩;rw[aw]at K ao an;have ap:Ϛ (keyOf Tryz.prog 9 (.string ks)=some (.string (encR r))):=by
        have h:=keyOf_string_mk underlying9 an.o;rw[ao.o]at h;exact h
       clear aw ai;by_cases e4:k=0
       ·subst e4;simp only[Nat.zero_mul,Nat.add_zero]at Z q3;have f:Ϛ (Gd v 0):=F.o.2 ⟨Q,Ϝ,Ϝ,λh=>absurd h Ϝ⟩;go_wp2_with (go_at_call 112;refine(K.o _ (Ac D.o ϧ)).mono ?_;rintro e p ⟨rfl,d⟩;have L:=cLz d (a:=⟨wr,0,none⟩) (v:=.slice q E y) Ϡ;have N:=cLz d (a:=⟨wr,1,none⟩) (v:=.int .i64 m) Ϡ;have t:=(u.alloc P _).trans (d.mono ϡ);have J:=Cc (Dn I.o _) d;have A:ϛ wr p:=ϧ.trans (d.mono Ϟ))
        go_quiet (fail)
        have ac:Df (p.drewN nq) w.heap.size 0 (AM (v.take 0)):=J;have ax:=below_drewN t nq;go_wp2_with (at_mapUpdate;refine wpList_mapUpdate_own _ rfl (.tmp 54) (.tmp 55) (.tmp 57) 223 rfl 9 3 law underlying223 _ w.heap.size 0 _ rfl ac Ϧ _ _ (.string (encR r)) rfl rfl ap.o _ [] (plainElem_int underlying3 (WalkArith.wf_i64 Ϝ)) ?_;intro w1 aj ah);go_roundw
        case rel=>exact⟨0+1,Ϝ,by go_num,by rw[<-U.o (λi O=>by rw[show i=0 by omega];exact f.o)];exact Qt aj,ax.grown ah ax.size (λj hj=>by cases hj;exact Nat.le_refl _),λi O=>by rw[show i=0 by omega];exact f.o⟩
        case measure=>simp[intOf];omega
       ·obtain⟨j,rfl⟩:∃j,k=j+1:=⟨k - 1,Ϝ⟩;have av:j<v.length:=by rw[G.o];omega
        obtain⟨b',o',H,Y,e',y1,y2,y3⟩:=hv j av
        cases e'
        have X:=cLz u y1;have ae:Ϛ (vl.rowAt wr H (v.getD j ϰ).r):=Ac y2 u;obtain⟨a0,am,_,_⟩:=Ke W j av;have T:Ϛ (Gd v (j+1)↔AD r=0/\1<=m/\m<=1073741824/\(Bc (v.getD j ϰ).r r<0)):=by
         show Gd v (j+1)↔_;rw[F.o];simp
        obtain⟨M,az⟩:∃c,(v.getD j ϰ).r=c:=⟨_,rfl⟩;rw[az]at X ae T a0 am;clear y1 y2 y3 az F e4;obtain⟨pl,ak⟩:∃l,M.length=l:=⟨_,rfl⟩;rw[ak]at X;have KR:Ϛ (∀w,vl.rowAt w H M->vl.rowAt w q r->CT 220 #[.slice H pl Y,.slice q E y] w (θ w (.int .i64 (Bc M r)))):=by
         subst ak V;exact λw h h'=>WB H q Y y M r w h h' am ab
        have bd:(0:Int)<((j:Int)+1):=Ϝ;have be:((j:Int))<(n:Int):=Ϝ;have bg:(0:Int)<=(j:Int):=Ϝ;have bi:IntKind.i64.wrap ((j:Int)+1 - 1)=(j:Int):=by rw[Bt];omega
        have bj:IntKind.i64.wrap (j:Int)=(j:Int):=by rw[Bt];omega
        obtain⟨cc,au⟩:∃c,Bc M r=c:=⟨_,rfl⟩;rw[au]at KR T;clear au ak V a0 am;by_cases e5:0<=cc
        ·have f:Ϛ (A4 v=1):=S.o (λh=>by have:=(T.o.1 h).2.2.2;omega);go_wp2_with (go_at_call 112;refine(K.o _ (Ac D.o ϧ)).mono ?_;rintro e p ⟨rfl,d⟩;have L:=cLz d (a:=⟨wr,0,none⟩) (v:=.slice q E y) Ϡ;have N:=cLz d (a:=⟨wr,1,none⟩) (v:=.int .i64 m) Ϡ;have t:=(u.alloc P _).trans (d.mono ϡ);have J:=Cc (Dn I.o _) d;have A:ϛ wr p:=ϧ.trans (d.mono Ϟ));have al:=cLz A X;have ad:Ϛ (vl.rowAt p.drew H M):=Ac ae.o A.drew;have af:Ϛ (vl.rowAt p.drew q r):=Ac D.o A.drew
         go_region_held3 (λw'=>Δ w' b (o+j * 2) (.slice H pl Y)/\Δ w' wr 0 (.slice q E y)) (first|go_keep|exact⟨cLz z al,cLz z L⟩)
          (first|(go_at_call 220;refine(KR.o p.drew ad.o af.o).mono ?_;rintro e wq ⟨rfl,z⟩))
         all_goals
          go_wp2
          go_ret2
          exact⟨.inr ⟨by rw[f.o];decide,Js f.o.symm⟩,by first|exact bT t z|exact t.drew.trans (z.mono t.size)⟩
        ·have f:Ϛ (Gd v (j+1)):=T.o.2 ⟨Q,Ϝ,Ϝ,Ϝ⟩;have ba:¬0<=cc:=e5;go_wp2_with (go_at_call 112;refine(K.o _ (Ac D.o ϧ)).mono ?_;rintro e p ⟨rfl,d⟩;have L:=cLz d (a:=⟨wr,0,none⟩) (v:=.slice q E y) Ϡ;have N:=cLz d (a:=⟨wr,1,none⟩) (v:=.int .i64 m) Ϡ;have t:=(u.alloc P _).trans (d.mono ϡ);have J:=Cc (Dn I.o _) d;have A:ϛ wr p:=ϧ.trans (d.mono Ϟ));have al:=cLz A X;have ad:Ϛ (vl.rowAt p.drew H M):=Ac ae.o A.drew;have af:Ϛ (vl.rowAt p.drew q r):=Ac D.o A.drew
         go_region_held3 (λw'=>Δ w' b (o+j * 2) (.slice H pl Y)/\Δ w' wr 0 (.slice q E y)) (first|go_keep|exact⟨cLz z al,cLz z L⟩)
          (first|(go_at_call 220;refine(KR.o p.drew ad.o af.o).mono ?_;rintro e wq ⟨rfl,z⟩))
         all_goals
          have ay:ϛ w wq:=by first|exact bT t z|exact t.drew.trans (z.mono t.size)
          have bb:=cLz z N;have ac:Df p.drew w.heap.size (j+1) (AM (v.take (j+1))):=J;have a3:=Cc ac z;go_wp2_with (at_mapUpdate;refine wpList_mapUpdate_own _ rfl (.tmp 54) (.tmp 55) (.tmp 57) 223 rfl 9 3 law underlying223 _ w.heap.size (j+1) _ rfl a3 Ϧ _ _ (.string (encR r)) rfl rfl ap.o _ [] (plainElem_int underlying3 (WalkArith.wf_i64 Ϝ)) ?_;intro w1 aj ah);go_roundw
          case rel=>exact⟨j+1+1,Ϝ,by go_num,by rw[<-U.o (UN HA.o f.o)];exact Qt aj,ay.grown ah ay.size (λx hx=>by cases hx;exact Nat.le_refl _),λi O=>by
           rcases Nat.lt_or_ge i (j+1)with h|h
           ·exact HA.o i h
           ·rw[show i=j+1 by omega];exact f.o⟩
          case measure=>simp[intOf];omega
    ·have a7:(AD r==0)=false:=by simpa using Q
     have f:Ϛ (A4 v=1):=S.o (λh=>Q (F.o.1 h).1);go_wp2_with (go_at_call 112;refine(K.o _ (Ac D.o ϧ)).mono ?_;rintro e p ⟨rfl,d⟩;have L:=cLz d (a:=⟨wr,0,none⟩) (v:=.slice q E y) Ϡ;have N:=cLz d (a:=⟨wr,1,none⟩) (v:=.int .i64 m) Ϡ;have t:=(u.alloc P _).trans (d.mono ϡ);have J:=Cc (Dn I.o _) d;have A:ϛ wr p:=ϧ.trans (d.mono Ϟ))
     go_ret2
     exact⟨.inr ⟨by rw[f.o];decide,Js f.o.symm⟩,t⟩
   ·have a5:k=n:=Ϝ;have HT:Ϛ (v.take k=v):=take_of_length_le (by rw[G.o];omega);have HO:Ϛ (Eb v):=⟨by rw[G.o];omega,λi O=>HA.o i (by rw[G.o]at O;omega)⟩;go_wp2
    go_ret2
    exact⟨.inl ⟨Sd HO.o,HO.o,w.heap.size,rfl,Nat.le_refl _,by have h:=I.o;rw[HT.o,a5]at h;rw[G.o];exact h⟩,u⟩
theorem Kl:(Tryz.prog.info? 83).map (λi=>(i.zero,i.size,i.bytes))=some (some (.agg #[.slice none 0 0,.int .i64 0]),2,32):=ϟ
theorem F8(r:List Cel)(k:ByteArray)(w:Ϙ)(h:rowOk r)(j:encR r=k.data.toList)(l:k.size<=maxLen):
 η 231 #[.string k] w λe w'=>(∃a b,e= .returned (.slice a r.length b)/\AA w' w (.slice a r.length b) r)/\ϛ w w':=by
 obtain⟨n,d⟩:∃n,r.length=n:=⟨_,rfl⟩;have c:=Ly k r w l h j;rw[d]at c⊢;clear d;go_enter func231,ntmps231;go_wp2_with fail;refine c.mono ?_;rintro e w1 ⟨⟨a,b,rfl,m⟩,f⟩;go_wp2;go_ret;exact⟨⟨a,b,rfl,m⟩,f⟩
theorem own_below{n:Nat}(h:w.ownsRow base e size v n xs)(m:ϛ w w'):w'.ownsRow base e size v n xs:=by
 refine⟨h.1,?_⟩;rcases h.2 with f|⟨g,c,d,q,j,a,l⟩
 ·exact .inl f
 ·have b:g<w.heap.size:=by
   rcases Nat.lt_or_ge g w.heap.size with b|p
   ·exact b
   ·rw[Array.getElem?_eq_none p]at a;cases a
  exact .inr ⟨g,c,d,q,j,by rw[m.block g b];exact a,l⟩
def flat(l:List (Value×Int)):List Value:=l.flatMap λp=>[p.1,.int .i64 p.2]
theorem Hm(l:List (Value×Int))(x:Value)(n:Int):flat (l++[(x,n)])=flat l++[x,.int .i64 n]:=by
 unfold flat;rw[flatMap_append];simp
theorem Xr{L:Array Oper}{o:Oper}{a:Act}{K:Act->World->Prop}{Q:Exit->Act->World->Prop}{E:Prop}(t:o.guard=none)(s x:Operand)
 (A:o.op= .call {callee:=.builtin .append,args:=#[s,x],argTypes:=#[40,40]})
 (base:Nat) (v:Value) (l:List (Value×Int)) (n:Int) (ad:ϙ) (d cap:Nat) (w1:Ϙ) (b:Nat) (O:l.length=b) (z:w1.ownsRow base 83 2 v b (flat l)) (N:b<=1000000) (M:base<=w1.heap.size)
 (D:a.eval s=v) (F:a.eval x= .slice (τ w1) 1 1)
 (h:∀g c w2,w2.ownsRow base 83 2 (.slice (τ g) (b+1) c) (b+1) (flat (l++[(.slice ad d cap,n)]))->(w1.alloc (.cells #[.slice ad d cap,.int .i64 n] 83)).grownBy w2 v.ownBlock->(v.ownBlock=some g\/g=w1.heap.size+1)->g<w2.heap.size->K (a.put o.dst (.slice (τ g) (b+1) c)) w2):
 if Region.wanted o (yielded L a.tmps)=true then Oper.wp Tryz.prog o a (ξ w1 #[.slice ad d cap,.int .i64 n] 83) K Q else E:=by
 obtain⟨J,y,G,H,I⟩:=info_parts Kl;refine step_append_lies _ t s x 40 A base 83 J (.agg #[.slice none 0 0,.int .i64 0]) 2 32 underlying40 y G H I rfl ϝ v b (flat l) D
  (z.alloc _) ⟨w1,0,none⟩ 1 1 [.slice ad d cap,.int .i64 n] F rfl (cell_two_new _ _ _ _) (by intro u f;simp at f;rcases f with rfl|rfl<;>rfl) ϝ Ϧ Ϝ ϡ (w1.heap.size+1) Ϟ ?_
 intro g c w2 j m p q;exact h g c w2 (by rw[Hm];exact j) m p q
theorem Qu{o:Obj}(b:(w1.alloc o).grownBy w2 row)(a:Δ w1 C 0 v)(d:row≠some C):Δ w2 C 0 v:=by
 have c:=bLt _ _ a;refine b.cell ?_ (λh=>d h.symm);rw[World.cell?_alloc_lt]
 ·exact a
 ·exact c
theorem Mt{o:Obj}(d:(w1.alloc o).grownBy w2 row)(b:Δ w1 C 0 v)(l:row≠some C)(c:Ξ w1 C 0):Ξ w2 C 0:=by
 have f:=bLt _ _ b;have j:C<w1.heap.size:=f;rw[d.frozen_far ⟨C,0,none⟩ ϡ (λh=>l h.symm)];have a:=((Below.refl w1.heap.size w1).alloc nR o).frozen (p:=⟨C,0,none⟩) j;exact a.trans c
theorem Xs(C base:Nat)(k:ByteArray)(n:Int)(v:Value)(l:List (Value×Int))(r:List Cel)(w:Ϙ)(E:Δ w C 0 v)(Q:Ξ w C 0)
 (u:w.ownsRow base 83 2 v l.length (flat l)) (D:v.ownBlock≠some C) (G:l.length<=1000000) (O:base<=w.heap.size) (V:rowOk r) (R:encR r=k.data.toList) (S:k.size<=maxLen):
 η 230 #[.string k,.int .i64 n,μ C] w λe w'=>e= .returned (.tuple #[])/\∃w1 w2 a b g d,
  Below w.drew.heap.size w.drew w1/\AA w1 w (.slice a r.length b) r/\w2.ownsRow base 83 2 (.slice (τ g) (l.length+1) d) (l.length+1) (flat (l++[(.slice a r.length b,n)]))/\
  (w1.alloc (.cells #[.slice a r.length b,.int .i64 n] 83)).grownBy w2 v.ownBlock/\(v.ownBlock=some g\/g=w1.heap.size+1)/\w'=w2.setCell ⟨C,0,none⟩ (.slice (τ g) (l.length+1) d):=by
 have P:=bLt _ _ E;have h:=F8 r k w.drew V R S;obtain⟨A,y⟩:∃x,r.length=x:=⟨_,rfl⟩;have m:=hqz y;rw[y]at h;obtain⟨z,t⟩:∃x,l.length=x:=⟨_,rfl⟩;have j:=hqz t;rw[t]at u G;obtain⟨f,F,H,I,J⟩:=info_parts Kl;have W:Ϛ (Tryz.prog.info? 83=some f/\f.zero=some (.agg #[.slice none 0 0,.int .i64 0])/\f.size=2/\f.bytes=32):=⟨F,H,I,J⟩;have K:Ϛ (CT 231 #[.string k] w.drew λe w'=>(∃a b,e= .returned (.slice a A b)/\AA w' w.drew.heap.size (.slice a A b) r)/\Below w.drew.heap.size w.drew w'):=h;have L:Ϛ (w.drew.ownsRow base 83 2 v z (flat l)):=u.drew;clear h y t F H I J u;go_enter func230,ntmps230;go_wp2
 go_region_law (first
  |(refine Xr (by rfl) (.tmp 5) (.tmp 10) (by rfl) base v l n a A b w1 z j.o M.o G (Nat.le_trans O c.size) (by rfl) (by rfl) ?_;intro g d w2 U s N aa;have Y:Δ w2 C 0 v:=Qu s q D;have Z:Ξ w2 C 0:=Mt s q D ((c.frozen (p:=⟨C,0,none⟩) P).trans Q))
  |(go_simp;go_at_call 231;refine K.o.mono ?_;rintro e w1 ⟨⟨a,b,rfl,T⟩,c⟩;have q:Δ w1 C 0 v:=cLz c E;have X:∀o,Δ (w1.alloc o) C 0 v:=λo=>cLz (bR.alloc nR o) q;have M:Ϛ (w1.ownsRow base 83 2 v z (flat l)):=own_below L.o c))
 all_goals
  go_wp2
  go_end0
  refine⟨rfl,w1,w2,a,b,g,d,c,?_,?_,?_,N,?_⟩
  ·rw[m.o];exact T
  ·rw[j.o,m.o];exact U
  ·rw[m.o];exact s
  ·rw[j.o]
theorem As{n:Nat}(h:w.ownsRow base e size v n xs)(l:∀g,v.ownBlock=some g->w'.heap[g]? =w.heap[g]?):w'.ownsRow base e size v n xs:=by
 refine⟨h.1,?_⟩;rcases h.2 with d|⟨g,b,c,a,f,m,j⟩
 ·exact .inl d
 ·exact .inr ⟨g,b,c,a,f,by rw[l g (by rw[a];rfl)];exact m,j⟩
structure fr(C:Nat)(o:Option Nat)(w w':World):Prop where
 os:w'.os=w.os
 tape:w'.tape=w.tape
 output:w'.output=w.output
 size:w.heap.size<=w'.heap.size
 block:∀b,b<w.heap.size->b≠C->o≠some b->w'.heap[b]? =w.heap[b]?
theorem Xt{a:Ϙ}(h:Below B a w)(k:fr C o w w')(f:B<=C)(c:∀b,o=some b->B<=b)(d:B<=w.heap.size):Below B a w':=
 h.trans ⟨k.os,k.tape,k.output,k.size,λb j=>k.block b Ϝ Ϝ (λe=>by have:=c b e;omega)⟩
theorem Xu(h:ϛ w w'):fr C o w w':=⟨h.os,h.tape,h.output,h.size,λb a _ _=>h.block b a⟩
theorem Qv{a:Option Nat}(h:fr C o w w1)(k:fr C a w1 w2)(l:a=o\/∃g,a=some g/\w.heap.size<=g):fr C o w w2:=
 ⟨k.os.trans h.os,k.tape.trans h.tape,k.output.trans h.output,Nat.le_trans h.size k.size,λb d c f=>by
  have j:=h.block b d c f;rw[<-j];refine k.block b (Nat.lt_of_lt_of_le d h.size) c ?_;rcases l with rfl|⟨g,rfl,m⟩
  ·exact f
  ·intro e;cases e;omega⟩
theorem Zk(h:fr C o w w'){p:Addr}(c:p.block<w.heap.size)(a:p.block≠C)(b:o≠some p.block):w'.cell? p=w.cell? p:=cOb (w:=w) (h.block p.block c a b)
structure VS(w:World)(C base:Nat)(v:Value)(out:List Cnt):Prop where
 cell:Δ w C 0 v
 frz:Ξ w C 0
 apart:v.ownBlock≠some C
 low:base<=w.heap.size
 rows:∃l:List (Value×Int),l.length=out.length/\w.ownsRow base 83 2 v l.length (flat l)/\∀i,i<out.length->
  (l.getD i (.bool false,0)).2=(out.getD i ϰ).n/\∃ad cap,(l.getD i (.bool false,0)).1= .slice ad (out.getD i ϰ).r.length cap/\AA w base (.slice ad (out.getD i ϰ).r.length cap) (out.getD i ϰ).r/\
   ∀g,(Value.slice ad (out.getD i ϰ).r.length cap).ownBlock=some g->g≠C/\v.ownBlock≠some g
theorem A5{n:Nat}(h:w.ownsRow base e size v n xs)(a:v.ownBlock=some g):base<=g/\g<w.heap.size:=World.ownsRow.lt h g a
theorem Jt{α:Type}(l:List α)(x d:α)(i:Nat)(h:i<l.length):(l++[x]).getD i d=l.getD i d:=by
 simp only[gDe,getElem?_append_left h]
theorem Ju{α:Type}(l:List α)(x d:α)(i:Nat)(h:i=l.length):(l++[x]).getD i d=x:=by
 subst h;simp[gDe]
theorem Zl{out:List Cnt}{l:List (Value×Int)}{ad:ϙ}{cap cap2:Nat}(h:VS w C base v out)
 (U:l.length=out.length) (V:w.ownsRow base 83 2 v l.length (flat l)) (W:∀i,i<out.length->
 (l.getD i (.bool false,0)).2=(out.getD i ϰ).n/\∃ad cap,(l.getD i (.bool false,0)).1= .slice ad (out.getD i ϰ).r.length cap/\AA w base (.slice ad (out.getD i ϰ).r.length cap) (out.getD i ϰ).r/\
  ∀g,(Value.slice ad (out.getD i ϰ).r.length cap).ownBlock=some g->g≠C/\v.ownBlock≠some g)
 (d:Below w.drew.heap.size w.drew w1) (y:AA w1 w (.slice ad r.length cap) r) (X:w2.ownsRow base 83 2 (.slice (τ g) (l.length+1) cap2) (l.length+1) (flat (l++[(.slice ad r.length cap,n)])))
 (f:(w1.alloc (.cells #[.slice ad r.length cap,.int .i64 n] 83)).grownBy w2 v.ownBlock) (q:v.ownBlock=some g\/g=w1.heap.size+1):
 VS (φ w2 C 0 (.slice (τ g) (l.length+1) cap2)) C base (.slice (τ g) (l.length+1) cap2) (out++[⟨r,n⟩])/\fr C v.ownBlock w (φ w2 C 0 (.slice (τ g) (l.length+1) cap2)):=by
 have P:C<w.heap.size:=bLt _ _ h.cell;have Y:w.heap.size<=w1.heap.size:=d.size;have Z:w1.heap.size+1<=w2.heap.size:=by have:=f.size;simpa using this
 have G:Δ w1 C 0 v:=cLz d h.cell;have R:Ξ w1 C 0:=(d.frozen (p:=⟨C,0,none⟩) P).trans h.frz;have Q:=Qu f G h.apart;have S:=Mt f G h.apart R;have K:∀b,v.ownBlock=some b->base<=b/\b<w.heap.size:=λb a=>A5 V a;have H:g≠C:=by
  rcases q with c|c
  ·intro e;subst e;exact h.apart c
  ·omega
 have F:∀b,b<w1.heap.size->b≠C->v.ownBlock≠some b->(w2.setCell ⟨C,0,none⟩ (.slice (τ g) (l.length+1) cap2)).heap[b]? =w1.heap[b]? :=λb a u x=>by
  rw[Below.heap_setCell _ _ _ b u,f.block b ϡ (λe=>x e.symm)];exact Below.heap_alloc _ _ b a
 have t:fr C v.ownBlock w (φ w2 C 0 (.slice (τ g) (l.length+1) cap2)):=by
  have j:=(((d.mono (Nat.zero_le _)).alloc (Nat.zero_le _) (.cells #[.slice ad r.length cap,.int .i64 n] 83)).grown f (Nat.zero_le _) (λ_ _=>Nat.zero_le _)).setCell (p:=⟨C,0,none⟩) (Nat.zero_le _) (.slice (τ g) (l.length+1) cap2);exact⟨j.os,j.tape,j.output,j.size,λb a u x=>(F b Ϝ u x).trans (d.block b a)⟩
 refine⟨⟨World.cell?_setCell_same _ _ _ Q,by rw[World.frozen?_setCell];exact S,λe=>H (by cases e;rfl),Nat.le_trans h.low t.size,?_⟩,t⟩;refine⟨l++[(.slice ad r.length cap,n)],by rw[lAp,lAp,U];rfl,?_,?_⟩
 ·rw[lAp];refine As X (λb a=>?_);have:b=g:=by cases a;rfl
  subst this;exact Below.heap_setCell _ _ _ b H
 ·intro i I;rw[lAp]at I;by_cases J:i<out.length
  ·rw[Jt out _ _ i J,Jt l _ _ i Ϝ];obtain⟨N,L,M,O,m,D⟩:=W i J;refine⟨N,L,M,O,?_,?_⟩
   ·refine As m (λb a=>?_);obtain⟨z,A⟩:=D b a;exact t.block b (A5 m a).2 z A
   ·intro b a;obtain⟨z,A⟩:=D b a;refine⟨z,λe=>?_⟩;have s:g=b:=by cases e;rfl
    subst s;rcases q with c|c
    ·exact A c
    ·have:=(A5 m a).2;omega
  ·have T:i=out.length:=by simp at I;omega
   rw[Ju out _ _ i T,Ju l _ _ i Ϝ];refine⟨rfl,ad,cap,rfl,?_,?_⟩
   ·refine As (World.ownsRow.mono y h.low) (λb a=>?_);have E:=A5 y a;exact F b E.2 Ϝ (λe=>by have:=(K b e).2;omega)
   ·intro b a;have E:=A5 y a;refine⟨Ϝ,λe=>?_⟩;have s:g=b:=by cases e;rfl
    subst s;rcases q with c|c
    ·have:=(K g c).2;omega
    ·omega
end ch
namespace ch
open vl
variable {w w' : Ϙ} {C base : Nat} {v : Value}
theorem UP(l:List UInt8):encStr l= .string ⟨l.toArray⟩:=rfl
theorem Jv{e:TypeId}{size:Nat}{n:Nat}{xs:List Value}(h:w.ownsRow base e size v n xs):∃a b,v= .slice a n b/\(0<n->∃g,a=some ⟨g,0,none⟩):=by
 rcases h.2 with⟨rfl,c⟩|⟨g,b,d,rfl,_⟩
 ·exact⟨none,0,by rw[c],λh=>absurd c Ϝ⟩
 ·exact⟨_,_,rfl,λ_=>⟨g,rfl⟩⟩
theorem Xv{a:KV}{g cap:Nat}(h:w.ownsRow base 9 1 (.slice (τ g) a.length cap) a.length ((a.map (·.1)).map encStr))(i:Nat)(c:i<a.length):Δ w g i (.string ⟨(a.getD i ([],0)).1.toArray⟩):=by
 have b:=World.ownsRow.cells h (g:=g) rfl i (.string ⟨(a.getD i ([],0)).1.toArray⟩) (by
  simp only[map_map,getElem?_map,gEe c,Option.map_some,Function.comp,gDe,Option.getD_some,UP])
 have e:(⟨g,0,none⟩:Addr).add i=⟨g,i,none⟩:=by unfold Addr.add;split<;>simp_all
 rw[e]at b;exact b
theorem Jw(v:List Cnt):(AM v).length=v.length:=by simp[AM]
theorem Zm(v:List Cnt)(i:Nat)(a:i<v.length):(AM v).getD i ([],0)=(encR (v.getD i ϰ).r,(v.getD i ϰ).n):=by
 simp[AM,gDe,a]
theorem Zn{a:KV}(m:rising a)(i:Nat)(f:i<a.length):DF a (a.getD i ([],0)).1=(a.getD i ([],0)).2:=by
 induction a generalizing i with
 |nil=>exact absurd f (Nat.not_lt_zero i)
 |cons p r ih=>
  cases i with
  |zero=>simp[DF]
  |succ i=>
   have b:=pairwise_cons.1 m;have h:i<r.length:=by simpa using f
   have e:(p::r).getD (i+1) ([],0)=r.getD i ([],0):=rfl;rw[e];have j:r.getD i ([],0)∈r:=by simp[gDe,h]
   have l:¬p.1=(r.getD i ([],0)).1:=λe=>by
    have c:=b.1 _ j;rw[e,Dw]at c;exact absurd (of_decide_eq_true c) (List.lt_irrefl _)
   have d:=ih b.2 i h;unfold DF at d⊢;rw[find?_cons_of_neg (by simpa using l)];exact d
theorem Zo{B nn:Nat}{o:Option Nat}{a:KV}(h:Df w B nn a)(k:fr C o w w')(m:B≠C)(q:o≠some B):Df w' B nn a:=by
 have p:=Li h;obtain⟨c,b,d,f,j,l⟩:=h;exact⟨c,b,by rw[k.block B p m q];exact d,f,j,l⟩
theorem Xw{out:List Cnt}(h:VS w C base v out)(a:ϛ w w'):VS w' C base v out:=by
 have u:C<w.heap.size:=bLt _ _ h.cell;obtain⟨l,q,s,t⟩:=h.rows;refine⟨cLz a h.cell,(a.frozen (p:=⟨C,0,none⟩) u).trans h.frz,h.apart,Nat.le_trans h.low a.size,l,q,own_below s a,λi x=>?_⟩;obtain⟨d,b,c,f,j,m⟩:=t i x;exact⟨d,b,c,f,own_below j a,m⟩
theorem Xx(v:List Cnt)(k:Nat)(h:k<v.length)(r:List Cel)(n:Int)(e:v.getD k ϰ=⟨r,n⟩):v.take (k+1)=v.take k++[⟨r,n⟩]:=by rw[Ts v k h,e]
theorem UQ(B nn:Nat)(out:List Cnt)(C base:Nat)(d:Value)(w:Ϙ)(P:Df w B nn (AM out))(hr:rising (AM out))(an:∀c∈out,rowOk c.r)(a9:out.length<=100000)
 (t:VS w C base d []) (a3:B≠C) (a4:d.ownBlock≠some B):
 η 229 #[.map (some B),.func (.func 230) #[] #[μ C]] w λe w'=>e= .returned (.tuple #[])/\∃v,VS w' C base v out/\fr C d.ownBlock w w':=by
 have T:=hqz P;have U:=hqz hr;have W:=hqz t;have az:=hqz an;have bg:=Li P;have bh:C<w.heap.size:=bLt _ _ t.cell;clear P hr t an;have ag:=Jw out;obtain⟨n,D⟩:∃n,out.length=n:=⟨_,rfl⟩;have G:=hqz D;have A:Ϛ ((AM out).length=n):=by show(AM out).length=n;rw[ag,D]
 rw[D]at a9;clear ag D;go_enter func229,ntmps229;go_wp2_with fail;refine(Xp B _).mono ?_;rintro e w' ⟨rfl,rfl⟩;go_wp2_with fail;refine(Sc B nn (AM out) w T.o U.o (by rw[A.o];omega)).mono ?_;rintro e w1 ⟨⟨v,rfl,Q⟩,aa⟩;obtain⟨ks,kc,t,ah⟩:=Jv Q;rw[A.o]at t ah;subst t;have a1:=hqz Q;have J:ϛ w w1:=ϧ.trans (aa.mono Ϝ);have bi:w.heap.size+1<=w1.heap.size:=by have:=aa.size;simpa using this
 clear Q;have am:∀b,d.ownBlock=some b->b<w.heap.size:=λb hb=>by
  obtain⟨l,_,q,_⟩:=W.o.rows;exact(A5 q hb).2
 have ay:=hqz am;have a2:Ϛ (VS w1 C base d []):=Xw W.o J;have ax:Ϛ (Df w1 B nn (AM out)):=Cc T.o J;clear am;go_wp2
 go_loopw [10] (λi wr=> ∃(k:Nat) (v:Value),k<=n/\i= .int .i64 k/\VS wr C base v (out.take k)/\fr C d.ownBlock w1 wr/\(v.ownBlock=d.ownBlock\/∃g,v.ownBlock=some g/\w1.heap.size<=g)) (λi _=>n - (intOf i).toNat)
 case atStart=>exact⟨0,d,Ϝ,rfl,a2.o,⟨rfl,rfl,rfl,Nat.le_refl _,λ_ _ _ _=>rfl⟩,.inl rfl⟩
 case round=>
  obtain⟨k,v,hk,rfl,ap,ae,ao⟩:=hrel;have f:=hqz ap;have u:=hqz ae;have X:=hqz ao;clear ap ae ao;by_cases al:k<n
  ·obtain⟨y,a7⟩:=ah Ϝ;subst a7;have N:k<out.length:=by rw[G.o];exact al
   have af:k<(AM out).length:=by rw[A.o];exact al
   have E:=a1.o;rw[<-A.o]at E;have a6:=A5 E (g:=y) rfl;have ac:=Xv E k af;have z:Δ wr y k (.string ⟨((AM out).getD k ([],0)).1.toArray⟩):=(Zk u.o (p:=⟨y,k,none⟩) a6.2 (show y≠C by omega) (λe=>by have:=ay.o y e;omega)).trans ac;have aq:Ϛ (Df wr B nn (AM out)):=Zo ax.o u.o a3 a4;have j:=Zn U.o k af;have s:rowOk (out.getD k ϰ).r:=az.o _ (by simp[gDe,N]);rw[Zm out k N]at z j;dsimp only at z j;obtain⟨⟨r,m⟩,L⟩:∃c,out.getD k ϰ=c:=⟨_,rfl⟩;have H:Ϛ (out.take (k+1)=out.take k++[⟨r,m⟩]):=Xx out k N r m L;rw[L]at z j s;dsimp only at z j s;have a0:=hqz s;have a5:=DC r (λc K=>(s.2 c K).1);have bc:=s.1;obtain⟨a,M⟩:∃x,(⟨(encR r).toArray⟩:ByteArray)=x:=⟨_,rfl⟩;have F:Ϛ (encR r=a.data.toList):=by show encR r=a.data.toList;rw[<-M]
   have R:Ϛ (a.size<=maxLen):=by
    show a.size<=maxLen;rw[<-AE,<-F.o];unfold maxLen;omega
   rw[M]at z;have ar:Ϛ (DF (AM out) a.data.toList=m):=by show DF (AM out) a.data.toList=m;rw[<-F.o];exact j
   clear L M j s a5 bc ac E;obtain⟨l,O,aj,ak⟩:=f.o.rows;have av:=hqz O;have S:=hqz aj;have aw:=hqz ak;have ai:l.length<=1000000:=by rw[O,length_take,G.o];omega
   have au:=hqz ai;clear O aj ak ai;have i1:(0:Int)<=(k:Int):=Ϝ;have i2:(k:Int)<(n:Int):=Ϝ;go_wp2_with (first
    |(at_lookup;refine wpList_lookup_own_int _ rfl (.tmp 16) (.tmp 17) 223 rfl 9 3 .i64 law underlying223 underlying3 (Mq _) B nn _ rfl aq.o _ (.string a.data.toList) rfl (keyOf_string_mk underlying9 R.o) ?_;intro c Y bm;have K:c=m:=(Gc Y).trans ar.o;clear Y;subst K)
    |(go_at_call 230;refine(Xs C base a _ v l r wr f.o.cell f.o.frz S.o f.o.apart au.o f.o.low a0.o F.o R.o).mono ?_;rintro e w9 ⟨rfl,w2,w3,ad,bd,g,be,ab,ba,bb,a8,Z,rfl⟩))
   have V:=Zl f.o av.o S.o aw.o ab ba bb a8 Z;have bk:=u.o.size;have bj:wr.heap.size<=w2.heap.size:=ab.size;go_roundw
   case rel=>exact⟨k+1,_,Ϝ,by go_num,by rw[H.o];exact V.1,Qv u.o V.2 X.o,by
    rcases Z with I|I
    ·rcases X.o with q|⟨g',q,h3⟩
     ·exact .inl (by rw[<-q,I];rfl)
     ·exact .inr ⟨g,rfl,by rw[I]at q;cases q;exact h3⟩
    ·exact .inr ⟨g,rfl,Ϝ⟩⟩
   case measure=>simp[intOf];omega
  ·have H:Ϛ (out.take k=out):=take_of_length_le (by rw[G.o];omega);go_wp2
   go_end0
   exact⟨rfl,v,by have h:=f.o;rw[H.o]at h;exact h,Qv (Xu J) u.o (.inl rfl)⟩
theorem Zp(l:List (Value×Int))(i:Nat)(a:i<l.length):(flat l)[i * 2]? =some (l.getD i (.bool false,0)).1/\(flat l)[i * 2+1]? =some (.int .i64 (l.getD i (.bool false,0)).2):=by
 induction l generalizing i with
 |nil=>exact absurd a (Nat.not_lt_zero i)
 |cons p r ih=>
  have e:flat (p::r)=p.1:: .int .i64 p.2::flat r:=rfl;rw[e]
  cases i with
  |zero=>exact⟨rfl,rfl⟩
  |succ i=>
   have:=ih i (by simpa using a);rw[show(i+1) * 2=i * 2+1+1 by omega];simpa using this
theorem addr_add(g j:Nat):((⟨g,0,none⟩:Addr).add j)=⟨g,0+j,none⟩:=by unfold Addr.add;split<;>simp_all
theorem Aa6{out:List Cnt}(h:VS w C base v out):∃a b,v= .slice a out.length b:=by
 obtain⟨l,c,d,j⟩:=h.rows;obtain⟨a,b,f,_⟩:=Jv d;exact⟨a,b,by rw[f,c]⟩
end ch
namespace ch
open vl
variable {i n : Nat}
theorem ob{b c x:Nat}(h:(Value.slice (τ b) n c).ownBlock=some x):x=b:=by cases h;rfl
structure Chg where
 k:Int
 r:List Cel
instance:Inhabited Chg:=⟨⟨0,[]⟩⟩
def EL(w:World)(a:Option Addr)(l:List Chg):Prop:=
 ∀i,i<l.length->∃b off ra rc,a=some ⟨b,off,none⟩/\Δ w b (off+i * 2) (.int .i64 (l.getD i ϰ).k)/\Δ w b (off+i * 2+1) (.slice ra (l.getD i ϰ).r.length rc)/\vl.rowAt w ra (l.getD i ϰ).r
def EN(l:List Chg):Prop:=∀c∈l,Cb c.r/\c.r.length<=χ/\(-9223372036854775808<=c.k/\c.k<=9223372036854775807)
theorem Xy{l:List Chg}(h:EN l)(k:Nat)(a:k<l.length):Cb (l.getD k ϰ).r/\(l.getD k ϰ).r.length<=χ/\(-9223372036854775808<=(l.getD k ϰ).k/\(l.getD k ϰ).k<=9223372036854775807):=
 h _ (by simp[gDe,a])
theorem Jy{w w':Ϙ}{a:ϙ}{l:List Chg}(h:EL w a l)(c:ϛ w w'):EL w' a l:=by
 intro i d;obtain⟨b,o,f,j,e,m,p,q⟩:=h i d;exact⟨b,o,f,j,e,cLz c m,cLz c p,Ac q c⟩
def Bu(l:List Chg)(i:Nat):Bool:=
 if (l.getD i ϰ).k=3 then decide (i+1<l.length)&&decide ((l.getD (i+1) ϰ).k=4)else if (l.getD i ϰ).k=4 then decide (0<i)&&decide ((l.getD (i - 1) ϰ).k=3)else true
def F2(l:List Chg)(i:Nat):Int:=
 if (l.getD i ϰ).k<1\/4<(l.getD i ϰ).k then 4 else if AD (l.getD i ϰ).r=0 then(if Bu l i then 0 else 6)else AD (l.getD i ϰ).r
def first(f:Nat->Int):Nat->Int
 |0=>0
 |n+1=>if first f n=0 then f n else first f n
theorem Mu{f:Nat->Int}(h:∀i,i<n->f i=0):first f n=0:=by
 induction n with
 |zero=>rfl
 |succ n ih=>rw[first,ih (λi a=>h i Ϝ),if_pos rfl,h n Ϝ]
theorem Xz{f:Nat->Int}{k:Nat}(n:Nat)(h:∀i,i<k->f i=0)(a:f k≠0)(b:k<n):first f n=f k:=by
 induction n with
 |zero=>exact absurd b (Nat.not_lt_zero k)
 |succ n ih=>
  rw[first];by_cases e:k=n
  ·subst e;rw[Mu h,if_pos rfl]
  ·rw[ih Ϝ,if_neg a]
def AV(l:List Chg):Int:=if 4096<l.length then 2 else first (F2 l) l.length
def Mv(l:List Chg)(i:Nat):Prop:=1<=(l.getD i ϰ).k/\(l.getD i ϰ).k<=4/\AD (l.getD i ϰ).r=0/\Bu l i=true
theorem Qw{l:List Chg}(h:F2 l i=0):Mv l i:=by
 unfold F2 at h;split at h
 ·cases h
 ·rename_i c;split at h
  ·rename_i a;split at h
   ·rename_i b;exact⟨Ϝ,Ϝ,a,b⟩
   ·cases h
  ·contradiction
theorem NH{l:List Chg}(h:Mv l i):F2 l i=0:=by
 obtain⟨c,d,a,b⟩:=h;unfold F2;rw[if_neg Ϝ,if_pos a,if_pos b]
def Cs(l:List Chg):Prop:=l.length<=4096/\∀i,i<l.length->Mv l i
theorem Zq{l:List Chg}(h:Cs l):AV l=0:=by
 have:=h.1;unfold AV;rw[if_neg Ϝ,Mu (λi a=>NH (h.2 i a))]
def FX(w:World)(ad:Option Addr)(l:List Chg):Prop:=
 ∀i,i<l.length->∃g,ad=some ⟨g,0,none⟩/\Δ w g i (.string ⟨(encR (l.getD i ϰ).r).toArray⟩)
theorem Aa{a b:Bool}(h:a=b):Ending.returned (.bool a)= .returned (.bool b):=by rw[h]
def Ec(k:Int):Int:=if k=1\/k=4 then 1 else -1
theorem Qx(k:Int)(w:Ϙ):η 164 #[.int .i64 k] w λe w'=>e= .returned (.int .i64 (Ec k))/\w'=w:=by
 by_cases a:k=1
 ·subst a;go_enter func164,ntmps164;go_wp2;go_ret;exact⟨rfl,rfl⟩
 ·have c:(k==1)=false:=by simpa using a
  by_cases b:k=4
  ·subst b;go_enter func164,ntmps164;go_wp2;go_ret;exact⟨rfl,rfl⟩
  ·have d:(k==4)=false:=by simpa using b
   have e:Ec k= -1:=by unfold Ec;rw[if_neg Ϝ]
   rw[e];go_enter func164,ntmps164;go_wp2;go_ret;exact⟨rfl,rfl⟩
theorem Se(a:ϙ)(cap:Nat)(l:List Chg)(i:Nat)(w:Ϙ)(u:EL w a l)(R:EN l)(J:l.length<=1000000)(z:i<l.length):
 η 228 #[.slice a l.length cap,.int .i64 i] w (θ w (.bool (Bu l i))):=by
 obtain⟨b,o,Y,rc,e,E,K,L⟩:=u i z;subst e;have c:Ϛ (Bu l i=if (l.getD i ϰ).k=3 then decide (i+1<l.length)&&decide ((l.getD (i+1) ϰ).k=4)else if (l.getD i ϰ).k=4 then decide (0<i)&&decide ((l.getD (i - 1) ϰ).k=3)else true):=rfl;have s:Ϛ (∀j,j<l.length->Δ w b (o+j * 2) (.int .i64 (l.getD j ϰ).k)):=λj H=>by
  obtain⟨M,X,Z,aa,F,q,y2,y3⟩:=u j H
  cases F
  exact q
 obtain⟨k,A⟩:∃k,(l.getD i ϰ).k=k:=⟨_,rfl⟩;rw[A]at E c;clear A u K L;obtain⟨n,D⟩:∃n,l.length=n:=⟨_,rfl⟩;rw[D]at J z c s⊢;clear D;have V:(0:Int)<=(i:Int):=Ϝ;have W:(i:Int)<(n:Int):=Ϝ;have S:IntKind.i64.wrap ((i:Int)+1)=(i:Int)+1:=by rw[Bt];omega
 by_cases t:k=3
 ·subst t;by_cases f:i+1<n
  ·have q:=s.o (i+1) f;obtain⟨h,p⟩:∃k,(l.getD (i+1) ϰ).k=k:=⟨_,rfl⟩;rw[p]at q c;have x:(i:Int)+1<(n:Int):=Ϝ;have m:decide (h=4)=(h==4):=by rw[Bool.eq_iff_iff];simp
   have d:Ϛ (Bu l i=(h==4)):=by show Bu l i=_;rw[c.o,if_pos rfl,decide_eq_true f,m];rfl
   clear c p m;go_enter func228,ntmps228;go_wp2;go_ret;exact⟨Aa d.o.symm,by first|exact bR|exact bR.drew⟩
  ·have x:¬(i:Int)+1<(n:Int):=Ϝ;have d:Ϛ (Bu l i=false):=by show Bu l i=_;rw[c.o,if_pos rfl,decide_eq_false f];rfl
   clear c;go_enter func228,ntmps228;go_wp2;go_ret;exact⟨Aa d.o.symm,by first|exact bR|exact bR.drew⟩
 ·have N:(k==3)=false:=by simpa using t
  by_cases f:k=4
  ·subst f;by_cases y:0<i
   ·obtain⟨j,rfl⟩:∃j,i=j+1:=⟨i - 1,Ϝ⟩;have q:=s.o j Ϝ;have I:(j+1:Nat) - 1=j:=Ϝ;rw[I]at c;obtain⟨h,p⟩:∃k,(l.getD j ϰ).k=k:=⟨_,rfl⟩;rw[p]at q c;have m:decide (h=3)=(h==3):=by rw[Bool.eq_iff_iff];simp
    have d:Ϛ (Bu l (j+1)=(h==3)):=by show Bu l (j+1)=_;rw[c.o,if_neg ϝ,if_pos rfl,decide_eq_true y,m];rfl
    have O:(0:Int)<((j:Int)+1):=Ϝ;have P:((j:Int))<(n:Int):=Ϝ;have Q:(0:Int)<=(j:Int):=Ϝ;have T:IntKind.i64.wrap ((j:Int)+1 - 1)=(j:Int):=by rw[Bt];omega
    have U:IntKind.i64.wrap (j:Int)=(j:Int):=by rw[Bt];omega
    clear c p m;go_enter func228,ntmps228;go_wp2;go_ret;exact⟨Aa d.o.symm,by first|exact bR|exact bR.drew⟩
   ·have G:i=0:=Ϝ;subst G;have d:Ϛ (Bu l 0=false):=by show Bu l 0=_;rw[c.o,if_neg ϝ,if_pos rfl,decide_eq_false y];rfl
    clear c;simp only[Nat.zero_mul,Nat.add_zero]at E;go_enter func228,ntmps228;go_wp2;go_ret;exact⟨Aa d.o.symm,by first|exact bR|exact bR.drew⟩
  ·have x:(k==4)=false:=by simpa using f
   have d:Ϛ (Bu l i=true):=by show Bu l i=_;rw[c.o,if_neg t,if_neg f]
   clear c;go_enter func228,ntmps228;go_wp2;go_ret;exact⟨Aa d.o.symm,by first|exact bR|exact bR.drew⟩
end ch
end Go.Proofs.YtfkihidbnfkbaaaGreatDoor
