import Derived.Test.YtfkihidbnfkbaaaGreatDoorPb3
import Derived.Maps.Ext
import Derived.Deep.Onto
set_option linter.all false
set_option maxHeartbeats 8000000
set_option maxRecDepth 100000
open Go.ChangeShapes Go.WideShapes Go.ChangeAt Go.RowKit Go.Maps Go.WideAt Go.WideElems Go.WideMaps Go.Sort List
open Inhabited renaming default->ϰ
namespace Go.Proofs.YtfkihidbnfkbaaaGreatDoor
open Go.Proofs.Tryz
namespace ch
abbrev KV:=List (List UInt8×Int)
def insK(x:List UInt8×Int):KV->KV
 |[]=>[x]
 |y::r=>if bytesBefore x.1 y.1 then x::y::r else y::insK x r
def IP(kv:KV)(k:List UInt8):KV:=kv.filter λp=> !(p.1==k)
def Jv(kv:KV)(k:List UInt8)(n:Int):KV:=insK (k,n) (IP kv k)
def DU(kv:KV)(k:List UInt8):Int:=match kv.find? (λp=>p.1==k)with|some p=>p.2|none=>0
def ent(p:List UInt8×Int):Lit×DataW Unit:=(.string p.1,.lit (.int .i64 p.2))
def toD(kv:KV):DataW Unit:=.map (kv.map ent)
theorem AaY(x:List UInt8×Int)(l:KV):(insK x l).map ent=DataW.insert (ent x) (l.map ent):=by
 induction l with
 |nil=>rfl
 |cons y r ih=>
  rw[insK,map_cons,DataW.insert];have e:(ent x).1.before (ent y).1=bytesBefore x.1 y.1:=rfl;rw[e];split
  ·rfl
  ·rw[map_cons,ih]
theorem UB(l:KV)(k:List UInt8):(IP l k).map ent=(l.map ent).filter λp=> !p.1.sameKey (.string k):=by
 unfold IP;rw[filter_map];rfl
theorem Ps(a:KV)(k:List UInt8)(n:Int):(toD a).put (.string k) (.lit (.int .i64 n))=toD (Jv a k n):=by
 unfold toD Jv;rw[AaY,UB];rfl
theorem AaZ(a:KV)(k:List UInt8):(toD a).del (.string k)=toD (IP a k):=by
 unfold toD;rw[UB];rfl
theorem Adm(a:KV)(k:List UInt8):(toD a).atKey (.string k) (.lit (.int .i64 0))= .lit (.int .i64 (DU a k)):=by
 unfold toD DataW.atKey DU;simp only[find?_map];have e:((λp:Lit×DataW Unit=>p.1.sameKey (.string k))∘ent)=λp=>p.1==k:=rfl;rw[e]
 cases a.find? (λp=>p.1==k)<;>rfl
theorem Jw(a:KV):Maps.size (toD a)=a.length:=by
 unfold toD;rw[Maps.size_eq,lMp]
theorem law:Keyed Tryz.prog 9:=string_keyed underlying9
theorem Mo(w:ϙ):(zeroValue 3).run Tryz.prog w= .ok (.int .i64 0) w:=Ϡ
def Dr(w:World)(B nn:Nat)(kv:KV):Prop:=w.ownsMap Tryz.prog 9 (plainElem (H:=Unit) Tryz.prog 3) B nn (toD kv)
theorem Gw{a:KV}{k:List UInt8}{c:Int}(h:(toD a).atKey (.string k) (.lit (.int .i64 0))= .lit (.int .i64 c)):c=DU a k:=by
 rw[Adm]at h;injection h with h
 injection h with _ h
 exact h.symm
def Aba(kv:KV)(k:List UInt8)(n:Int):Int:=
 if DU kv k+n<0 then 9 else if 1073741824<DU kv k+n then 2 else if DU kv k+n=0 then 0 else if DU kv k=0/\kv.length=4096 then 2 else 0
def SS(kv:KV)(k:List UInt8)(n:Int):KV:=
 if DU kv k+n<0 then kv else if 1073741824<DU kv k+n then kv else if DU kv k+n=0 then IP kv k else if DU kv k=0/\kv.length=4096 then kv else Jv kv k (DU kv k+n)
theorem Abb(B nn:Nat)(f:KV)(k:ByteArray)(n:Int)(w:ϙ)(D:Dr w B nn f)(j:k.size<=maxLen)(E:nn<maxLen)
 (I: -1152921504606846976<=DU f k.data.toList) (J:DU f k.data.toList<=1152921504606846976) (P: -1152921504606846976<=n) (Q:n<=1152921504606846976) (O:f.length<=1152921504606846976):
 η 163 #[.map (some B),.string k,.int .i64 n] w λe w'=>e= .returned (.int .i64 (Aba f k.data.toList n))/\Dr w' B (nn+1) (SS f k.data.toList n)/\w.grownBy w' (some B):=by
 have b:=hqz D;obtain⟨h,y⟩:∃h,DU f k.data.toList=h:=⟨_,rfl⟩;have p:=hqz y;rw[y]at I J;unfold Aba SS;rw[y];clear y D;by_cases u:h+n<0
 ·rw[if_pos u,if_pos u];go_enter func163,ntmps163;go_wp2_with (at_lookup;refine wpList_lookup_own_int _ rfl (.tmp 9) (.tmp 10) 223 rfl 9 3 .i64 law underlying223 underlying3 (Mo _) B nn _ rfl b.o _ (.string k.data.toList) rfl (keyOf_string_mk underlying9 j) ?_;intro c a t;have d:c=h:=(Gw a).trans p.o;clear a;subst d);go_ret;exact⟨rfl,b.o.mono ϝ,World.grownBy.refl _ _⟩
 ·rw[if_neg u,if_neg u];by_cases x:1073741824<h+n
  ·rw[if_pos x,if_pos x];go_enter func163,ntmps163;go_wp2_with (at_lookup;refine wpList_lookup_own_int _ rfl (.tmp 9) (.tmp 10) 223 rfl 9 3 .i64 law underlying223 underlying3 (Mo _) B nn _ rfl b.o _ (.string k.data.toList) rfl (keyOf_string_mk underlying9 j) ?_;intro c a t;have d:c=h:=(Gw a).trans p.o;clear a;subst d);go_ret;exact⟨rfl,b.o.mono ϝ,World.grownBy.refl _ _⟩
  ·rw[if_neg x,if_neg x];by_cases l:h+n=0
   ·rw[if_pos l,if_pos l];have F:(h+n==0)=true:=by rw[beq_iff_eq];exact l
    have N:ϛ (h+n=0):=l;clear l;go_enter func163,ntmps163;go_wp2_with (first
     |(at_lookup;refine wpList_lookup_own_int _ rfl (.tmp 9) (.tmp 10) 223 rfl 9 3 .i64 law underlying223 underlying3 (Mo _) B nn _ rfl b.o _ (.string k.data.toList) rfl (keyOf_string_mk underlying9 j) ?_;intro c a t;have d:c=h:=(Gw a).trans p.o;clear a;subst d)
     |(at_delete;refine wpList_delete_own _ rfl (.tmp 24) (.tmp 25) 223 9 rfl 3 law underlying223 _ B nn _ rfl b.o _ (.string k.data.toList) rfl (keyOf_string_mk underlying9 j) ?_;intro w1 m L))
    go_ret;exact⟨rfl,by rw[AaZ]at m;exact m.mono ϝ,L.grown⟩
   ·rw[if_neg l,if_neg l];have F:(h+n==0)=false:=by rw[beq_eq_false_iff_ne];exact l
    by_cases q:h=0
    ·have G:(h==0)=true:=by rw[beq_iff_eq];exact q
     have A:ϛ (h=0):=q;clear q;have K:=λM=>b.o.len underlying223 M;simp only[Jw]at K;by_cases s:f.length=4096
     ·have H:((f.length:Int)==4096)=true:=by rw[beq_iff_eq];omega
      rw[if_pos ⟨A.o,s⟩,if_pos ⟨A.o,s⟩];clear s;go_enter func163,ntmps163;go_wp2_with (first
       |(at_lookup;refine wpList_lookup_own_int _ rfl (.tmp 9) (.tmp 10) 223 rfl 9 3 .i64 law underlying223 underlying3 (Mo _) B nn _ rfl b.o _ (.string k.data.toList) rfl (keyOf_string_mk underlying9 j) ?_;intro c a t;have d:c=h:=(Gw a).trans p.o;clear a;subst d))
      go_ret;exact⟨rfl,b.o.mono ϝ,World.grownBy.refl _ _⟩
     ·have H:((f.length:Int)==4096)=false:=by rw[beq_eq_false_iff_ne];omega
      rw[if_neg (λh=>s h.2),if_neg (λh=>s h.2)];go_enter func163,ntmps163;go_wp2_with (first
       |(at_lookup;refine wpList_lookup_own_int _ rfl (.tmp 9) (.tmp 10) 223 rfl 9 3 .i64 law underlying223 underlying3 (Mo _) B nn _ rfl b.o _ (.string k.data.toList) rfl (keyOf_string_mk underlying9 j) ?_;intro c a t;have d:c=h:=(Gw a).trans p.o;clear a;subst d)
       |(at_mapUpdate;refine wpList_mapUpdate_own _ rfl (.tmp 34) (.tmp 35) (.tmp 36) 223 rfl 9 3 law underlying223 _ B nn _ rfl b.o E _ _ (.string k.data.toList) rfl rfl (keyOf_string_mk underlying9 j) _ [] (plainElem_int underlying3 (WalkArith.wf_i64 ϝ)) ?_;intro w1 m z))
      go_ret;exact⟨rfl,by rw[Ps]at m;exact m,z⟩
    ·have G:(h==0)=false:=by rw[beq_eq_false_iff_ne];exact q
     rw[if_neg (λh=>q h.1),if_neg (λh=>q h.1)];go_enter func163,ntmps163;go_wp2_with (first
      |(at_lookup;refine wpList_lookup_own_int _ rfl (.tmp 9) (.tmp 10) 223 rfl 9 3 .i64 law underlying223 underlying3 (Mo _) B nn _ rfl b.o _ (.string k.data.toList) rfl (keyOf_string_mk underlying9 j) ?_;intro c a t;have d:c=h:=(Gw a).trans p.o;clear a;subst d)
      |(at_mapUpdate;refine wpList_mapUpdate_own _ rfl (.tmp 34) (.tmp 35) (.tmp 36) 223 rfl 9 3 law underlying223 _ B nn _ rfl b.o E _ _ (.string k.data.toList) rfl rfl (keyOf_string_mk underlying9 j) _ [] (plainElem_int underlying3 (WalkArith.wf_i64 ϝ)) ?_;intro w1 m z))
     go_ret;exact⟨rfl,by rw[Ps]at m;exact m,z⟩
end ch
namespace ch
def rising(kv:KV):Prop:=kv.Pairwise λp q=>bytesBefore p.1 q.1=true
theorem DD:∀(a b:List UInt8),bytesBefore a b=decide (a<b)
 |[],[]=>by simp[bytesBefore]
 |[],_::_=>by simp[bytesBefore]
 |_::_,[]=>by simp[bytesBefore]
 |a::x,b::y=>by
  rw[bytesBefore,DD x y];simp only[cons_lt_cons_iff];by_cases c:a<b<;>by_cases d:a=b<;>by_cases f:x<y<;>simp[c,d,f]
theorem Lu(a:KV):strKeys (toD a)=a.map (·.1):=by
 show(a.map ent).map (λp=>strOf p.1)=a.map (·.1);rw[map_map];rfl
theorem QB{a:KV}(d:rising a){c:List (List UInt8)}(h:c.Perm (strKeys (toD a))):c.mergeSort (λx y=>decide (x<=y))=a.map (·.1):=by
 have e:=mergeSort_of_perm h;rw[Lu]at e;refine e.trans ?_;refine mergeSort_of_pairwise ?_;rw[pairwise_map];refine d.imp ?_;intro p q b;rw[DD]at b;exact decide_eq_true (List.le_of_lt (of_decide_eq_true b))
theorem Y8(B:Nat)(w:ϙ):η 267 #[.map (some B)] w λe w'=>e= .returned (.func (.func 292) #[] #[μ w])/\w'=w.alloc (.cells #[.map (some B)] 223):=
 callsIn_wide.1 (Tryz.maps_Keys_267 (some B) w)
theorem SU(B nn:Nat)(a:KV)(w:ϙ)(l:Dr w B nn a)(m:rising a)(q:a.length<=1000000):
 η 266 #[.func (.func 292) #[] #[μ w]] (w.alloc (.cells #[.map (some B)] 223))
  λe w'=>(∃v,e= .returned v/\w'.ownsRow (w.heap.size+1) 9 1 v a.length ((a.map (·.1)).map encStr))/\Below (w.heap.size+1) (ξ w #[.map (some B)] 223) w':=by
 have h:=Tryz.slices_Sorted_keys_266_267 B nn (toD a) (plainElem (H:=Unit) Tryz.prog 3) w l (by rw[Jw];unfold maxLen;omega) (by rw[Jw];omega);refine(callsIn_wide.1 h).mono ?_;rintro e w' ⟨v,p,f,d,b,s,c⟩;have j:p.length=a.length:=by rw[d.length_eq,Lu,lMp]
 rw[QB m d,j]at b;simp only[World.size_alloc]at b c;exact⟨⟨v,f,b⟩,c⟩
end ch
namespace ch
variable {w : ϙ} {B nn : Nat}
theorem Cd{w':ϙ}{c:KV}(h:Dr w B nn c)(p:Ϝ w w'):Dr w' B nn c:=by
 obtain⟨f,d,a,j,l,m⟩:=h;have b:B<w.heap.size:=by
  rcases Nat.lt_or_ge B w.heap.size with b|q
  ·exact b
  ·rw[Array.getElem?_eq_none q]at a;cases a
 exact⟨f,d,by rw[p.block B b];exact a,j,l,m⟩
theorem D6{a:KV}(h:Dr w B nn a)(o:Obj):Dr (w.alloc o) B nn a:=Cd h (bR.alloc nR o)
theorem LJ{d:KV}(h:Dr w B nn d):B<w.heap.size:=by
 obtain⟨j,f,a,l,m,p⟩:=h;rcases Nat.lt_or_ge B w.heap.size with c|b
 ·exact c
 ·rw[Array.getElem?_eq_none b]at a;cases a
theorem F0:∀(a b:List UInt8),Op.bytesLess a b=decide (a<b)
 |[],[]=>by simp[Op.bytesLess]
 |_::_,[]=>by simp[Op.bytesLess]
 |[],_::_=>by simp[Op.bytesLess]
 |a::x,b::y=>by
  rw[Op.bytesLess,F0 x y];simp only[cons_lt_cons_iff];by_cases c:a<b<;>by_cases d:a=b<;>by_cases f:x<y<;>simp[c,d,f]
end ch
namespace ch
open vl
variable {w w' w1 w2 : ϙ} {k : List UInt8} {n : Int} {B C base g size : Nat} {r : List Cel} {e : TypeId} {v : Value} {xs : List Value} {o row : Option Nat}
structure Cnt where
 r:List Cel
 n:Int
instance:Inhabited Cnt:=⟨⟨[],0⟩⟩
def viewAt(w:World)(a:Option Addr)(v:List Cnt):Prop:=
 ∀i,i<v.length->∃b off ra rc,a=some ⟨b,off,none⟩/\Δ w b (off+i * 2) (.slice ra (v.getD i ϰ).r.length rc)/\vl.rowAt w ra (v.getD i ϰ).r/\Δ w b (off+i * 2+1) (.int .i64 (v.getD i ϰ).n)
def BJ(v:List Cnt):Prop:=∀c∈v,B9 c.r/\c.r.length<=χ/\(-9223372036854775808<=c.n/\c.n<=9223372036854775807)
theorem Kx{v:List Cnt}(h:BJ v)(k:Nat)(a:k<v.length):B9 (v.getD k ϰ).r/\(v.getD k ϰ).r.length<=χ/\(-9223372036854775808<=(v.getD k ϰ).n/\(v.getD k ϰ).n<=9223372036854775807):=
 h _ (by simp[gDe,a])
theorem Bg{a:Ϛ}{v:List Cnt}(h:viewAt w a v)(c:Ϝ w w'):viewAt w' a v:=by
 intro i d;obtain⟨b,o,f,j,e,l,m,p⟩:=h i d;exact⟨b,o,f,j,e,cLz c l,Ab m c,cLz c p⟩
def FW(v:List Cnt)(i:Nat):Prop:=
 A5 (v.getD i ϰ).r=0/\1<=(v.getD i ϰ).n/\(v.getD i ϰ).n<=1073741824/\(0<i->AX (v.getD (i - 1) ϰ).r (v.getD i ϰ).r<0)
def DV(v:List Cnt):Prop:=v.length<=4096/\∀i,i<v.length->FW v i
instance(v:List Cnt)(i:Nat):Decidable (FW v i):=by unfold FW;infer_instance
instance(v:List Cnt):Decidable (DV v):=by unfold DV;infer_instance
def Ar(v:List Cnt):Int:=if 4096<v.length then 2 else if DV v then 0 else 1
theorem Pt{v:List Cnt}(h:4096<v.length):Ar v=2:=by unfold Ar;rw[if_pos h]
theorem SV{v:List Cnt}(h:DV v):Ar v=0:=by
 have a:=h.1;unfold Ar;rw[if_neg ϝ,if_pos h]
theorem QC{v:List Cnt}(a:¬4096<v.length)(i:Nat)(b:i<v.length)(h:¬FW v i):Ar v=1:=by
 unfold Ar;rw[if_neg a,if_neg (λc=>h (c.2 i b))]
def AJ(v:List Cnt):KV:=v.map λc=>(encR c.r,c.n)
theorem Wb{a:KV}(h:∀p∈a,bytesBefore p.1 k=true):Jv a k n=a++[(k,n)]:=by
 have d:IP a k=a:=by
  unfold IP;rw[filter_eq_self];intro p c;have b:=h p c;by_cases e:p.1=k
  ·rw[e,DD]at b;exact absurd (of_decide_eq_true b) (List.lt_irrefl k)
  ·simpa using e
 unfold Jv;rw[d];clear d
 induction a with
 |nil=>rfl
 |cons y r ih=>
  rw[insK];have b:=h y (mem_cons_self ..);have f:bytesBefore k y.1=false:=by
   rw[DD]at b⊢;exact decide_eq_false (List.lt_asymm (of_decide_eq_true b))
  rw[f,if_neg Ϟ,ih (λp c=>h p (mem_cons_of_mem _ c))];rfl
theorem Wc(v:List Cnt)(c:Cnt):AJ (v++[c])=AJ v++[(encR c.r,c.n)]:=by simp[AJ]
theorem UC(v:List Cnt)(k:Nat)(h:k<v.length):v.take (k+1)=v.take k++[v.getD k ϰ]:=by
 rw[take_succ_eq_append_getElem h];simp[gDe,h]
theorem NW{a b:List Cel}(ha:rowOk a)(j:rowOk b)(h:AX a b<0):bytesBefore (encR a) (encR b)=true:=by
 have f:=Om a b ha.2 j.2;have c:=Kb (encR a) (encR b);rw[DD];rw[f]at c;rw[c]at h;split at h
 ·rename_i d;rw[F0]at d;exact d
 ·split at h<;>omega
theorem Pu{v:List Cnt}{i:Nat}(f:BJ v)(d:i<v.length)(h:FW v i):rowOk (v.getD i ϰ).r:=by
 have a:=h.1;unfold A5 at a;split at a
 ·cases a
 ·rename_i j;exact⟨ϝ,λc b=>⟨H3 a c b,(Kx f i d).1 c b⟩⟩
theorem before_trans{a b c:List UInt8}(d:bytesBefore a b=true)(f:bytesBefore b c=true):bytesBefore a c=true:=by
 rw[DD]at *;exact decide_eq_true (List.lt_trans (of_decide_eq_true d) (of_decide_eq_true f))
theorem Oq{v:List Cnt}(d:BJ v)(k:Nat)(f:k<v.length)(h:∀i,i<=k->FW v i):∀i,i<k->bytesBefore (encR (v.getD i ϰ).r) (encR (v.getD k ϰ).r)=true:=by
 induction k with
 |zero=>intro i b;exact absurd b (Nat.not_lt_zero i)
 |succ k ih=>
  intro i b;have c:bytesBefore (encR (v.getD k ϰ).r) (encR (v.getD (k+1) ϰ).r)=true:=by
   have a:=h (k+1) nR;exact NW (Pu d ϝ (h k ϝ)) (Pu d f a) (by have:=a.2.2.2 ϝ;simpa using this)
  rcases Nat.lt_succ_iff_lt_or_eq.1 b with a|a
  ·exact before_trans (ih ϝ (λj l=>h j ϝ) i a) c
  ·rw[a];exact c
theorem Adn{v:List Cnt}(j:BJ v)(k:Nat)(f:k<v.length)(h:∀i,i<=k->FW v i):∀p∈AJ (v.take k),bytesBefore p.1 (encR (v.getD k ϰ).r)=true:=by
 intro p a;unfold AJ at a;obtain⟨c,b,rfl⟩:=mem_map.1 a;obtain⟨i,d,rfl⟩:=getElem_of_mem b;rw[length_take]at d;have e:(v.take k)[i]'(by rw[length_take];omega)=v.getD i ϰ:=by
  rw[getElem_take];simp[gDe,show i<v.length by omega]
 rw[e];exact Oq j k f h i ϝ
theorem Abc{v:List Cnt}(b:BJ v)(k:Nat)(a:k<v.length)(h:∀i,i<=k->FW v i):Jv (AJ (v.take k)) (encR (v.getD k ϰ).r) (v.getD k ϰ).n=AJ (v.take (k+1)):=by
 rw[Wb (Adn b k a h),UC v k a,Wc]
theorem Wd{v:List Cnt}(l:BJ v)(h:DV v):rising (AJ v):=by
 unfold rising AJ;rw[pairwise_map,pairwise_iff_getElem];intro i j d a f;have b:v[i]=v.getD i ϰ:=by simp[gDe,d]
 have c:v[j]=v.getD j ϰ:=by simp[gDe,a]
 rw[b,c];exact Oq l j a (λm p=>h.2 m ϝ) i f
theorem Y9(n:Int)(w:ϙ):(Instr.makeMap 223 (some (.int .i64 n))).run Tryz.prog w= .ok (.map (some w.heap.size)) (w.alloc (.map #[] 0)):=by
 unfold Instr.makeMap;simp[run_underlying underlying223,go_sem,asInt,Result.andThen]
theorem We(w:ϙ):Dr (w.alloc (.map #[] 0)) w.heap.size 0 []:=World.ownsMap_made _ _ _ _
theorem QD{nn:Nat}{a:KV}(h:w'.ownsMap Tryz.prog 9 (plainElem (H:=Unit) Tryz.prog 3) B (nn+1) ((toD a).put (.string k) (.lit (.int .i64 n)))):Dr w' B (nn+1) (Jv a k n):=by
 rw[Ps]at h;exact h
theorem Mp(h:A5 r=0)(b:B9 r):rowOk r:=by
 unfold A5 at h;split at h
 ·cases h
 ·rename_i d;exact⟨ϝ,λc a=>⟨H3 h c a,b c a⟩⟩
theorem Wg{p:Nat->Prop}{j:Nat}(h:∀i,i<j->p i)(b:p j):∀i,i<=j->p i:=λi c=>by
 rcases Nat.lt_or_ge i j with a|a
 ·exact h i a
 ·rw[show i=j by omega];exact b
theorem Co(x:Int):IntKind.i64.wrap x=(x+9223372036854775808) % 18446744073709551616 - 9223372036854775808:=by
 simp only[IntKind.wrap,IntKind.signed,IntKind.bits];simp;split<;>omega
def Wh(v:List Cnt)(base:Nat)(e:Ending)(w':World):Prop:=
 (Ar v=0/\DV v/\∃B,e= .returned (.tuple #[.map (some B),.int .i64 0])/\base<=B/\Dr w' B v.length (AJ v))\/
 (Ar v≠0/\e= .returned (.tuple #[.map none,.int .i64 (Ar v)]))
theorem Jy{a b:Int}(h:a=b):Ending.returned (.tuple #[.map none,.int .i64 a])= .returned (.tuple #[.map none,.int .i64 b]):=by rw[h]
attribute [local go_sem ↓] Go.wp_at_zero Go.wp_at_succ
theorem Mq(a:Ϛ)(cap:Nat)(v:List Cnt)(w:ϙ)(hv:viewAt w a v)(V:BJ v)(hl:v.length<=χ):
 η 161 #[.slice a v.length cap] w λe w'=>Wh v w.heap.size e w'/\Ϝ w w':=by
 obtain⟨n,hn⟩:∃n,v.length=n:=⟨_,rfl⟩;have G:=hqz hn;rw[hn]at hl⊢;clear hn;have bg:=Y9;by_cases h4:4096<n
 ·have f:ϛ (Ar v=2):=Pt (by rw[G.o];exact h4);go_enter func161,ntmps161;go_wp2
  go_ret2
  exact⟨.inr ⟨by rw[f.o];decide,Jy f.o.symm⟩,bR⟩
 ·go_enter func161,ntmps161;go_wp2
  go_loopw [17] (λi wr=> ∃k:Nat,k<=n/\i= .int .i64 k/\Dr wr w.heap.size k (AJ (v.take k))/\Ϝ w wr/\(∀i,i<k->FW v i)) (λi _=>n - (intOf i).toNat)
  case atStart=>exact⟨0,ϝ,rfl,We w,Ϩ,λi N=>absurd N (Nat.not_lt_zero i)⟩
  case round=>
   obtain⟨k,hk,rfl,af,u,aq⟩:=hrel;have I:=hqz af;have HA:=hqz aq;have O:=u.size;have bb:=LJ af;clear af aq;by_cases a5:k<n
   ·have Q:k<v.length:=by rw[G.o];exact a5
    obtain⟨b,o,q,y,e,x1,x2,x3⟩:=hv k Q;subst e;obtain⟨Z,aa,a0,a1⟩:=Kx V k Q;have Y:=cLz u x1;have q3:=cLz u x3;have D:ϛ (vl.rowAt wr q (v.getD k ϰ).r):=Ab x2 u;have i1:(0:Int)<=(k:Int):=ϝ;have i2:(k:Int)<(n:Int):=ϝ;have R:ϛ (¬FW v k->Ar v=1):=QC (by rw[G.o];exact h4) k Q;have T:ϛ ((∀i,i<=k->FW v i)->Jv (AJ (v.take k)) (encR (v.getD k ϰ).r) (v.getD k ϰ).n=AJ (v.take (k+1))):=Abc V k Q;have ap:ϛ (FW v k->rowOk (v.getD k ϰ).r):=λh=>Pu V Q h;have F:ϛ (FW v k↔A5 (v.getD k ϰ).r=0/\1<=(v.getD k ϰ).n/\(v.getD k ϰ).n<=1073741824/\(0<k->AX (v.getD (k - 1) ϰ).r (v.getD k ϰ).r<0)):=Iff.rfl;obtain⟨⟨r,m⟩,a3⟩:∃c,v.getD k ϰ=c:=⟨_,rfl⟩;rw[a3]at Y q3 D T ap F Z aa a0 a1;dsimp only at Y q3 D T ap F Z aa a0 a1;clear x1 x2 x3;obtain⟨E,U⟩:∃l,r.length=l:=⟨_,rfl⟩;rw[U]at Y;have K:ϛ (∀w,vl.rowAt w q r->CT 112 #[.slice q E y] w (θ w (.tuple #[.string (EY r),.int .i64 (A5 r)]))):=by
     subst U;exact λw h=>Iy q y r w h Z aa
    by_cases P:A5 r=0
    ·by_cases e2:m<1
     ·have f:ϛ (Ar v=1):=R.o (λh=>by have:=(F.o.1 h).2.1;omega);go_wp2_with (go_at_call 112;refine(K.o _ (Ab D.o Ϩ)).mono ?_;rintro e p ⟨rfl,d⟩;have L:=cLz d (a:=⟨wr,0,none⟩) (v:=.slice q E y) ϡ;have M:=cLz d (a:=⟨wr,1,none⟩) (v:=.int .i64 m) ϡ;have t:=(u.alloc O _).trans (d.mono Ϣ);have J:=Cd (D6 I.o _) d;have A:Ϝ wr p:=Ϩ.trans (d.mono ϟ))
      go_ret2
      exact⟨.inr ⟨by rw[f.o];decide,Jy f.o.symm⟩,t⟩
     ·have a7:decide (m<1)=false:=decide_eq_false e2;by_cases e3:1073741824<m
      ·have f:ϛ (Ar v=1):=R.o (λh=>by have:=(F.o.1 h).2.2.1;omega);go_wp2_with (go_at_call 112;refine(K.o _ (Ab D.o Ϩ)).mono ?_;rintro e p ⟨rfl,d⟩;have L:=cLz d (a:=⟨wr,0,none⟩) (v:=.slice q E y) ϡ;have M:=cLz d (a:=⟨wr,1,none⟩) (v:=.int .i64 m) ϡ;have t:=(u.alloc O _).trans (d.mono Ϣ);have J:=Cd (D6 I.o _) d;have A:Ϝ wr p:=Ϩ.trans (d.mono ϟ))
       go_ret2
       exact⟨.inr ⟨by rw[f.o];decide,Jy f.o.symm⟩,t⟩
      ·have a8:decide (1073741824<m)=false:=decide_eq_false e3;have ah:rowOk r:=Mp P Z;have an:ϛ ((EY r).data.toList=encR r):=Jo ah;have am:ϛ ((EY r).size<=maxLen):=Nat.le_trans (Q0 ah) ϧ;obtain⟨ks,av⟩:∃s,EY r=s:=⟨_,rfl⟩;rw[av]at K an am;have ao:ϛ (keyOf Tryz.prog 9 (.string ks)=some (.string (encR r))):=by
        have h:=keyOf_string_mk underlying9 am.o;rw[an.o]at h;exact h
       clear av ah;by_cases e4:k=0
       ·subst e4;simp only[Nat.zero_mul,Nat.add_zero]at Y q3;have f:ϛ (FW v 0):=F.o.2 ⟨P,ϝ,ϝ,λh=>absurd h ϝ⟩;go_wp2_with (go_at_call 112;refine(K.o _ (Ab D.o Ϩ)).mono ?_;rintro e p ⟨rfl,d⟩;have L:=cLz d (a:=⟨wr,0,none⟩) (v:=.slice q E y) ϡ;have M:=cLz d (a:=⟨wr,1,none⟩) (v:=.int .i64 m) ϡ;have t:=(u.alloc O _).trans (d.mono Ϣ);have J:=Cd (D6 I.o _) d;have A:Ϝ wr p:=Ϩ.trans (d.mono ϟ))
        go_quiet (fail)
        have ab:Dr (p.drewN nq) w.heap.size 0 (AJ (v.take 0)):=J;have aw:=below_drewN t nq;go_wp2_with (at_mapUpdate;refine wpList_mapUpdate_own _ rfl (.tmp 54) (.tmp 55) (.tmp 57) 223 rfl 9 3 law underlying223 _ w.heap.size 0 _ rfl ab ϧ _ _ (.string (encR r)) rfl rfl ao.o _ [] (plainElem_int underlying3 (WalkArith.wf_i64 ϝ)) ?_;intro w1 ai ag);go_roundw
        case rel=>exact⟨0+1,ϝ,by go_num,by rw[<-T.o (λi N=>by rw[show i=0 by omega];exact f.o)];exact QD ai,aw.grown ag aw.size (λj hj=>by cases hj;exact Nat.le_refl _),λi N=>by rw[show i=0 by omega];exact f.o⟩
        case measure=>simp[intOf];omega
       ·obtain⟨j,rfl⟩:∃j,k=j+1:=⟨k - 1,ϝ⟩;have au:j<v.length:=by rw[G.o];omega
        obtain⟨b',o',H,X,e',y1,y2,y3⟩:=hv j au
        cases e'
        have W:=cLz u y1;have ad:ϛ (vl.rowAt wr H (v.getD j ϰ).r):=Ab y2 u;obtain⟨az,al,_,_⟩:=Kx V j au;have S:ϛ (FW v (j+1)↔A5 r=0/\1<=m/\m<=1073741824/\(AX (v.getD j ϰ).r r<0)):=by
         show FW v (j+1)↔_;rw[F.o];simp
        obtain⟨pr,ay⟩:∃c,(v.getD j ϰ).r=c:=⟨_,rfl⟩;rw[ay]at W ad S az al;clear y1 y2 y3 ay F e4;obtain⟨pl,aj⟩:∃l,pr.length=l:=⟨_,rfl⟩;rw[aj]at W;have KR:ϛ (∀w,vl.rowAt w H pr->vl.rowAt w q r->CT 220 #[.slice H pl X,.slice q E y] w (θ w (.int .i64 (AX pr r)))):=by
         subst aj U;exact λw h h'=>RO H q X y pr r w h h' al aa
        have bc:(0:Int)<((j:Int)+1):=ϝ;have bd:((j:Int))<(n:Int):=ϝ;have be:(0:Int)<=(j:Int):=ϝ;have bh:IntKind.i64.wrap ((j:Int)+1 - 1)=(j:Int):=by rw[Co];omega
        have bi:IntKind.i64.wrap (j:Int)=(j:Int):=by rw[Co];omega
        obtain⟨cc,ar⟩:∃c,AX pr r=c:=⟨_,rfl⟩;rw[ar]at KR S;clear ar aj U az al;by_cases e5:0<=cc
        ·have f:ϛ (Ar v=1):=R.o (λh=>by have:=(S.o.1 h).2.2.2;omega);go_wp2_with (go_at_call 112;refine(K.o _ (Ab D.o Ϩ)).mono ?_;rintro e p ⟨rfl,d⟩;have L:=cLz d (a:=⟨wr,0,none⟩) (v:=.slice q E y) ϡ;have M:=cLz d (a:=⟨wr,1,none⟩) (v:=.int .i64 m) ϡ;have t:=(u.alloc O _).trans (d.mono Ϣ);have J:=Cd (D6 I.o _) d;have A:Ϝ wr p:=Ϩ.trans (d.mono ϟ));have ak:=cLz A W;have ac:ϛ (vl.rowAt p.drew H pr):=Ab ad.o A.drew;have ae:ϛ (vl.rowAt p.drew q r):=Ab D.o A.drew
         go_region_held3 (λw'=>Δ w' b (o+j * 2) (.slice H pl X)/\Δ w' wr 0 (.slice q E y)) (first|go_keep|exact⟨cLz z ak,cLz z L⟩)
          (first|(go_at_call 220;refine(KR.o p.drew ac.o ae.o).mono ?_;rintro e wq ⟨rfl,z⟩))
         all_goals
          go_wp2
          go_ret2
          exact⟨.inr ⟨by rw[f.o];decide,Jy f.o.symm⟩,by first|exact bT t z|exact t.drew.trans (z.mono t.size)⟩
        ·have f:ϛ (FW v (j+1)):=S.o.2 ⟨P,ϝ,ϝ,ϝ⟩;have a9:¬0<=cc:=e5;go_wp2_with (go_at_call 112;refine(K.o _ (Ab D.o Ϩ)).mono ?_;rintro e p ⟨rfl,d⟩;have L:=cLz d (a:=⟨wr,0,none⟩) (v:=.slice q E y) ϡ;have M:=cLz d (a:=⟨wr,1,none⟩) (v:=.int .i64 m) ϡ;have t:=(u.alloc O _).trans (d.mono Ϣ);have J:=Cd (D6 I.o _) d;have A:Ϝ wr p:=Ϩ.trans (d.mono ϟ));have ak:=cLz A W;have ac:ϛ (vl.rowAt p.drew H pr):=Ab ad.o A.drew;have ae:ϛ (vl.rowAt p.drew q r):=Ab D.o A.drew
         go_region_held3 (λw'=>Δ w' b (o+j * 2) (.slice H pl X)/\Δ w' wr 0 (.slice q E y)) (first|go_keep|exact⟨cLz z ak,cLz z L⟩)
          (first|(go_at_call 220;refine(KR.o p.drew ac.o ae.o).mono ?_;rintro e wq ⟨rfl,z⟩))
         all_goals
          have ax:Ϝ w wq:=by first|exact bT t z|exact t.drew.trans (z.mono t.size)
          have ba:=cLz z M;have ab:Dr p.drew w.heap.size (j+1) (AJ (v.take (j+1))):=J;have a2:=Cd ab z;go_wp2_with (at_mapUpdate;refine wpList_mapUpdate_own _ rfl (.tmp 54) (.tmp 55) (.tmp 57) 223 rfl 9 3 law underlying223 _ w.heap.size (j+1) _ rfl a2 ϧ _ _ (.string (encR r)) rfl rfl ao.o _ [] (plainElem_int underlying3 (WalkArith.wf_i64 ϝ)) ?_;intro w1 ai ag);go_roundw
          case rel=>exact⟨j+1+1,ϝ,by go_num,by rw[<-T.o (Wg HA.o f.o)];exact QD ai,ax.grown ag ax.size (λx hx=>by cases hx;exact Nat.le_refl _),λi N=>by
           rcases Nat.lt_or_ge i (j+1)with h|h
           ·exact HA.o i h
           ·rw[show i=j+1 by omega];exact f.o⟩
          case measure=>simp[intOf];omega
    ·have a6:(A5 r==0)=false:=by simpa using P
     have f:ϛ (Ar v=1):=R.o (λh=>P (F.o.1 h).1);go_wp2_with (go_at_call 112;refine(K.o _ (Ab D.o Ϩ)).mono ?_;rintro e p ⟨rfl,d⟩;have L:=cLz d (a:=⟨wr,0,none⟩) (v:=.slice q E y) ϡ;have M:=cLz d (a:=⟨wr,1,none⟩) (v:=.int .i64 m) ϡ;have t:=(u.alloc O _).trans (d.mono Ϣ);have J:=Cd (D6 I.o _) d;have A:Ϝ wr p:=Ϩ.trans (d.mono ϟ))
     go_ret2
     exact⟨.inr ⟨by rw[f.o];decide,Jy f.o.symm⟩,t⟩
   ·have a4:k=n:=ϝ;have HT:ϛ (v.take k=v):=take_of_length_le (by rw[G.o];omega);have HO:ϛ (DV v):=⟨by rw[G.o];omega,λi N=>HA.o i (by rw[G.o]at N;omega)⟩;go_wp2
    go_ret2
    exact⟨.inl ⟨SV HO.o,HO.o,w.heap.size,rfl,Nat.le_refl _,by have h:=I.o;rw[HT.o,a4]at h;rw[G.o];exact h⟩,u⟩
theorem Lv:(Tryz.prog.info? 83).map (λi=>(i.zero,i.size,i.bytes))=some (some (.agg #[.slice none 0 0,.int .i64 0]),2,32):=Ϡ
theorem FX(r:List Cel)(k:ByteArray)(w:ϙ)(h:rowOk r)(j:encR r=k.data.toList)(l:k.size<=maxLen):
 η 231 #[.string k] w λe w'=>(∃a b,e= .returned (.slice a r.length b)/\AA w' w (.slice a r.length b) r)/\Ϝ w w':=by
 obtain⟨n,d⟩:∃n,r.length=n:=⟨_,rfl⟩;have c:=Qz k r w l h j;rw[d]at c⊢;clear d;go_enter func231,ntmps231;go_wp2_with fail;refine c.mono ?_;rintro e w1 ⟨⟨a,b,rfl,m⟩,f⟩;go_wp2;go_ret;exact⟨⟨a,b,rfl,m⟩,f⟩
theorem own_below{n:Nat}(h:w.ownsRow base e size v n xs)(m:Ϝ w w'):w'.ownsRow base e size v n xs:=by
 refine⟨h.1,?_⟩;rcases h.2 with f|⟨g,c,d,q,j,a,l⟩
 ·exact .inl f
 ·have b:g<w.heap.size:=by
   rcases Nat.lt_or_ge g w.heap.size with b|p
   ·exact b
   ·rw[Array.getElem?_eq_none p]at a;cases a
  exact .inr ⟨g,c,d,q,j,by rw[m.block g b];exact a,l⟩
def flat(l:List (Value×Int)):List Value:=l.flatMap λp=>[p.1,.int .i64 p.2]
theorem Da(l:List (Value×Int))(x:Value)(n:Int):flat (l++[(x,n)])=flat l++[x,.int .i64 n]:=by
 unfold flat;rw[flatMap_append];simp
theorem YA{L:Array Oper}{o:Oper}{a:Act}{K:Act->World->Prop}{Q:Exit->Act->World->Prop}{E:Prop}(t:o.guard=none)(s x:Operand)
 (A:o.op= .call {callee:=.builtin .append,args:=#[s,x],argTypes:=#[40,40]})
 (base:Nat) (v:Value) (l:List (Value×Int)) (n:Int) (ad:Ϛ) (d cap:Nat) (w1:ϙ) (b:Nat) (O:l.length=b) (z:w1.ownsRow base 83 2 v b (flat l)) (N:b<=1000000) (M:base<=w1.heap.size)
 (D:a.eval s=v) (F:a.eval x= .slice (τ w1) 1 1)
 (h:∀g c w2,w2.ownsRow base 83 2 (.slice (τ g) (b+1) c) (b+1) (flat (l++[(.slice ad d cap,n)]))->(w1.alloc (.cells #[.slice ad d cap,.int .i64 n] 83)).grownBy w2 v.ownBlock->(v.ownBlock=some g\/g=w1.heap.size+1)->g<w2.heap.size->K (a.put o.dst (.slice (τ g) (b+1) c)) w2):
 if Region.wanted o (yielded L a.tmps)=true then Oper.wp Tryz.prog o a (ξ w1 #[.slice ad d cap,.int .i64 n] 83) K Q else E:=by
 obtain⟨J,y,G,H,I⟩:=info_parts Lv;refine step_append_lies _ t s x 40 A base 83 J (.agg #[.slice none 0 0,.int .i64 0]) 2 32 underlying40 y G H I rfl Ϟ v b (flat l) D
  (z.alloc _) ⟨w1,0,none⟩ 1 1 [.slice ad d cap,.int .i64 n] F rfl (cell_two_new _ _ _ _) (by intro u f;simp at f;rcases f with rfl|rfl<;>rfl) Ϟ ϧ ϝ Ϣ (w1.heap.size+1) ϟ ?_
 intro g c w2 j m p q;exact h g c w2 (by rw[Da];exact j) m p q
theorem QE{o:Obj}(b:(w1.alloc o).grownBy w2 row)(a:Δ w1 C 0 v)(d:row≠some C):Δ w2 C 0 v:=by
 have c:=bLt _ _ a;refine b.cell ?_ (λh=>d h.symm);rw[World.cell?_alloc_lt]
 ·exact a
 ·exact c
theorem Mr{o:Obj}(d:(w1.alloc o).grownBy w2 row)(b:Δ w1 C 0 v)(l:row≠some C)(c:Ξ w1 C 0):Ξ w2 C 0:=by
 have f:=bLt _ _ b;have j:C<w1.heap.size:=f;rw[d.frozen_far ⟨C,0,none⟩ Ϣ (λh=>l h.symm)];have a:=((Below.refl w1.heap.size w1).alloc nR o).frozen (p:=⟨C,0,none⟩) j;exact a.trans c
theorem YB(C base:Nat)(k:ByteArray)(n:Int)(v:Value)(l:List (Value×Int))(r:List Cel)(w:ϙ)(E:Δ w C 0 v)(Q:Ξ w C 0)
 (u:w.ownsRow base 83 2 v l.length (flat l)) (D:v.ownBlock≠some C) (G:l.length<=1000000) (O:base<=w.heap.size) (V:rowOk r) (R:encR r=k.data.toList) (S:k.size<=maxLen):
 η 230 #[.string k,.int .i64 n,μ C] w λe w'=>e= .returned (.tuple #[])/\∃w1 w2 a b g d,
  Below w.drew.heap.size w.drew w1/\AA w1 w (.slice a r.length b) r/\w2.ownsRow base 83 2 (.slice (τ g) (l.length+1) d) (l.length+1) (flat (l++[(.slice a r.length b,n)]))/\
  (w1.alloc (.cells #[.slice a r.length b,.int .i64 n] 83)).grownBy w2 v.ownBlock/\(v.ownBlock=some g\/g=w1.heap.size+1)/\w'=w2.setCell ⟨C,0,none⟩ (.slice (τ g) (l.length+1) d):=by
 have P:=bLt _ _ E;have h:=FX r k w.drew V R S;obtain⟨A,y⟩:∃x,r.length=x:=⟨_,rfl⟩;have m:=hqz y;rw[y]at h;obtain⟨z,t⟩:∃x,l.length=x:=⟨_,rfl⟩;have j:=hqz t;rw[t]at u G;obtain⟨f,F,H,I,J⟩:=info_parts Lv;have W:ϛ (Tryz.prog.info? 83=some f/\f.zero=some (.agg #[.slice none 0 0,.int .i64 0])/\f.size=2/\f.bytes=32):=⟨F,H,I,J⟩;have K:ϛ (CT 231 #[.string k] w.drew λe w'=>(∃a b,e= .returned (.slice a A b)/\AA w' w.drew.heap.size (.slice a A b) r)/\Below w.drew.heap.size w.drew w'):=h;have L:ϛ (w.drew.ownsRow base 83 2 v z (flat l)):=u.drew;clear h y t F H I J u;go_enter func230,ntmps230;go_wp2
 go_region_law (first
  |(refine YA (by rfl) (.tmp 5) (.tmp 10) (by rfl) base v l n a A b w1 z j.o M.o G (Nat.le_trans O c.size) (by rfl) (by rfl) ?_;intro g d w2 U s N aa;have Y:Δ w2 C 0 v:=QE s q D;have Z:Ξ w2 C 0:=Mr s q D ((c.frozen (p:=⟨C,0,none⟩) P).trans Q))
  |(go_simp;go_at_call 231;refine K.o.mono ?_;rintro e w1 ⟨⟨a,b,rfl,T⟩,c⟩;have q:Δ w1 C 0 v:=cLz c E;have X:∀o,Δ (w1.alloc o) C 0 v:=λo=>cLz (bR.alloc nR o) q;have M:ϛ (w1.ownsRow base 83 2 v z (flat l)):=own_below L.o c))
 all_goals
  go_wp2
  go_end0
  refine⟨rfl,w1,w2,a,b,g,d,c,?_,?_,?_,N,?_⟩
  ·rw[m.o];exact T
  ·rw[j.o,m.o];exact U
  ·rw[m.o];exact s
  ·rw[j.o]
theorem A4{n:Nat}(h:w.ownsRow base e size v n xs)(l:∀g,v.ownBlock=some g->w'.heap[g]? =w.heap[g]?):w'.ownsRow base e size v n xs:=by
 refine⟨h.1,?_⟩;rcases h.2 with d|⟨g,b,c,a,f,m,j⟩
 ·exact .inl d
 ·exact .inr ⟨g,b,c,a,f,by rw[l g (by rw[a];rfl)];exact m,j⟩
structure fr(C:Nat)(o:Option Nat)(w w':World):Prop where
 os:w'.os=w.os
 tape:w'.tape=w.tape
 output:w'.output=w.output
 size:w.heap.size<=w'.heap.size
 block:∀b,b<w.heap.size->b≠C->o≠some b->w'.heap[b]? =w.heap[b]?
theorem YC{a:ϙ}(h:Below B a w)(k:fr C o w w')(f:B<=C)(c:∀b,o=some b->B<=b)(d:B<=w.heap.size):Below B a w':=
 h.trans ⟨k.os,k.tape,k.output,k.size,λb j=>k.block b ϝ ϝ (λe=>by have:=c b e;omega)⟩
theorem YD(h:Ϝ w w'):fr C o w w':=⟨h.os,h.tape,h.output,h.size,λb a _ _=>h.block b a⟩
theorem QF{a:Option Nat}(h:fr C o w w1)(k:fr C a w1 w2)(l:a=o\/∃g,a=some g/\w.heap.size<=g):fr C o w w2:=
 ⟨k.os.trans h.os,k.tape.trans h.tape,k.output.trans h.output,Nat.le_trans h.size k.size,λb d c f=>by
  have j:=h.block b d c f;rw[<-j];refine k.block b (Nat.lt_of_lt_of_le d h.size) c ?_;rcases l with rfl|⟨g,rfl,m⟩
  ·exact f
  ·intro e;cases e;omega⟩
theorem Abd(h:fr C o w w'){p:Addr}(c:p.block<w.heap.size)(a:p.block≠C)(b:o≠some p.block):w'.cell? p=w.cell? p:=cOb (w:=w) (h.block p.block c a b)
structure VS(w:World)(C base:Nat)(v:Value)(out:List Cnt):Prop where
 cell:Δ w C 0 v
 frz:Ξ w C 0
 apart:v.ownBlock≠some C
 low:base<=w.heap.size
 rows:∃l:List (Value×Int),l.length=out.length/\w.ownsRow base 83 2 v l.length (flat l)/\∀i,i<out.length->
  (l.getD i (.bool false,0)).2=(out.getD i ϰ).n/\∃ad cap,(l.getD i (.bool false,0)).1= .slice ad (out.getD i ϰ).r.length cap/\AA w base (.slice ad (out.getD i ϰ).r.length cap) (out.getD i ϰ).r/\
   ∀g,(Value.slice ad (out.getD i ϰ).r.length cap).ownBlock=some g->g≠C/\v.ownBlock≠some g
theorem AE{n:Nat}(h:w.ownsRow base e size v n xs)(a:v.ownBlock=some g):base<=g/\g<w.heap.size:=World.ownsRow.lt h g a
theorem Jz{α:Type}(l:List α)(x d:α)(i:Nat)(h:i<l.length):(l++[x]).getD i d=l.getD i d:=by
 simp only[gDe,getElem?_append_left h]
theorem J0{α:Type}(l:List α)(x d:α)(i:Nat)(h:i=l.length):(l++[x]).getD i d=x:=by
 subst h;simp[gDe]
theorem Abe{out:List Cnt}{l:List (Value×Int)}{ad:Ϛ}{cap cap2:Nat}(h:VS w C base v out)
 (U:l.length=out.length) (V:w.ownsRow base 83 2 v l.length (flat l)) (W:∀i,i<out.length->
 (l.getD i (.bool false,0)).2=(out.getD i ϰ).n/\∃ad cap,(l.getD i (.bool false,0)).1= .slice ad (out.getD i ϰ).r.length cap/\AA w base (.slice ad (out.getD i ϰ).r.length cap) (out.getD i ϰ).r/\
  ∀g,(Value.slice ad (out.getD i ϰ).r.length cap).ownBlock=some g->g≠C/\v.ownBlock≠some g)
 (d:Below w.drew.heap.size w.drew w1) (y:AA w1 w (.slice ad r.length cap) r) (X:w2.ownsRow base 83 2 (.slice (τ g) (l.length+1) cap2) (l.length+1) (flat (l++[(.slice ad r.length cap,n)])))
 (f:(w1.alloc (.cells #[.slice ad r.length cap,.int .i64 n] 83)).grownBy w2 v.ownBlock) (q:v.ownBlock=some g\/g=w1.heap.size+1):
 VS (φ w2 C 0 (.slice (τ g) (l.length+1) cap2)) C base (.slice (τ g) (l.length+1) cap2) (out++[⟨r,n⟩])/\fr C v.ownBlock w (φ w2 C 0 (.slice (τ g) (l.length+1) cap2)):=by
 have P:C<w.heap.size:=bLt _ _ h.cell;have Y:w.heap.size<=w1.heap.size:=d.size;have Z:w1.heap.size+1<=w2.heap.size:=by have:=f.size;simpa using this
 have G:Δ w1 C 0 v:=cLz d h.cell;have R:Ξ w1 C 0:=(d.frozen (p:=⟨C,0,none⟩) P).trans h.frz;have Q:=QE f G h.apart;have S:=Mr f G h.apart R;have K:∀b,v.ownBlock=some b->base<=b/\b<w.heap.size:=λb a=>AE V a;have H:g≠C:=by
  rcases q with c|c
  ·intro e;subst e;exact h.apart c
  ·omega
 have F:∀b,b<w1.heap.size->b≠C->v.ownBlock≠some b->(w2.setCell ⟨C,0,none⟩ (.slice (τ g) (l.length+1) cap2)).heap[b]? =w1.heap[b]? :=λb a u x=>by
  rw[Below.heap_setCell _ _ _ b u,f.block b Ϣ (λe=>x e.symm)];exact Below.heap_alloc _ _ b a
 have t:fr C v.ownBlock w (φ w2 C 0 (.slice (τ g) (l.length+1) cap2)):=by
  have j:=(((d.mono (Nat.zero_le _)).alloc (Nat.zero_le _) (.cells #[.slice ad r.length cap,.int .i64 n] 83)).grown f (Nat.zero_le _) (λ_ _=>Nat.zero_le _)).setCell (p:=⟨C,0,none⟩) (Nat.zero_le _) (.slice (τ g) (l.length+1) cap2);exact⟨j.os,j.tape,j.output,j.size,λb a u x=>(F b ϝ u x).trans (d.block b a)⟩
 refine⟨⟨World.cell?_setCell_same _ _ _ Q,by rw[World.frozen?_setCell];exact S,λe=>H (by cases e;rfl),Nat.le_trans h.low t.size,?_⟩,t⟩;refine⟨l++[(.slice ad r.length cap,n)],by rw[lAp,lAp,U];rfl,?_,?_⟩
 ·rw[lAp];refine A4 X (λb a=>?_);have:b=g:=by cases a;rfl
  subst this;exact Below.heap_setCell _ _ _ b H
 ·intro i I;rw[lAp]at I;by_cases J:i<out.length
  ·rw[Jz out _ _ i J,Jz l _ _ i ϝ];obtain⟨N,L,M,O,m,D⟩:=W i J;refine⟨N,L,M,O,?_,?_⟩
   ·refine A4 m (λb a=>?_);obtain⟨z,A⟩:=D b a;exact t.block b (AE m a).2 z A
   ·intro b a;obtain⟨z,A⟩:=D b a;refine⟨z,λe=>?_⟩;have s:g=b:=by cases e;rfl
    subst s;rcases q with c|c
    ·exact A c
    ·have:=(AE m a).2;omega
  ·have T:i=out.length:=by simp at I;omega
   rw[J0 out _ _ i T,J0 l _ _ i ϝ];refine⟨rfl,ad,cap,rfl,?_,?_⟩
   ·refine A4 (World.ownsRow.mono y h.low) (λb a=>?_);have E:=AE y a;exact F b E.2 ϝ (λe=>by have:=(K b e).2;omega)
   ·intro b a;have E:=AE y a;refine⟨ϝ,λe=>?_⟩;have s:g=b:=by cases e;rfl
    subst s;rcases q with c|c
    ·have:=(K g c).2;omega
    ·omega
end ch
namespace ch
open vl
variable {w w' : ϙ} {C base : Nat} {v : Value}
theorem Wi(l:List UInt8):encStr l= .string ⟨l.toArray⟩:=rfl
theorem J2{e:TypeId}{size:Nat}{n:Nat}{xs:List Value}(h:w.ownsRow base e size v n xs):∃a b,v= .slice a n b/\(0<n->∃g,a=some ⟨g,0,none⟩):=by
 rcases h.2 with⟨rfl,c⟩|⟨g,b,d,rfl,_⟩
 ·exact⟨none,0,by rw[c],λh=>absurd c ϝ⟩
 ·exact⟨_,_,rfl,λ_=>⟨g,rfl⟩⟩
theorem YE{a:KV}{g cap:Nat}(h:w.ownsRow base 9 1 (.slice (τ g) a.length cap) a.length ((a.map (·.1)).map encStr))(i:Nat)(c:i<a.length):Δ w g i (.string ⟨(a.getD i ([],0)).1.toArray⟩):=by
 have b:=World.ownsRow.cells h (g:=g) rfl i (.string ⟨(a.getD i ([],0)).1.toArray⟩) (by
  simp only[map_map,getElem?_map,gEe c,Option.map_some,Function.comp,gDe,Option.getD_some,Wi])
 have e:(⟨g,0,none⟩:Addr).add i=⟨g,i,none⟩:=by unfold Addr.add;split<;>simp_all
 rw[e]at b;exact b
theorem J3(v:List Cnt):(AJ v).length=v.length:=by simp[AJ]
theorem Abf(v:List Cnt)(i:Nat)(a:i<v.length):(AJ v).getD i ([],0)=(encR (v.getD i ϰ).r,(v.getD i ϰ).n):=by
 simp[AJ,gDe,a]
theorem Abg{a:KV}(m:rising a)(i:Nat)(f:i<a.length):DU a (a.getD i ([],0)).1=(a.getD i ([],0)).2:=by
 induction a generalizing i with
 |nil=>exact absurd f (Nat.not_lt_zero i)
 |cons p r ih=>
  cases i with
  |zero=>simp[DU]
  |succ i=>
   have b:=pairwise_cons.1 m;have h:i<r.length:=by simpa using f
   have e:(p::r).getD (i+1) ([],0)=r.getD i ([],0):=rfl;rw[e];have j:r.getD i ([],0)∈r:=by simp[gDe,h]
   have l:¬p.1=(r.getD i ([],0)).1:=λe=>by
    have c:=b.1 _ j;rw[e,DD]at c;exact absurd (of_decide_eq_true c) (List.lt_irrefl _)
   have d:=ih b.2 i h;unfold DU at d⊢;rw[find?_cons_of_neg (by simpa using l)];exact d
theorem Abh{B nn:Nat}{o:Option Nat}{a:KV}(h:Dr w B nn a)(k:fr C o w w')(m:B≠C)(q:o≠some B):Dr w' B nn a:=by
 have p:=LJ h;obtain⟨c,b,d,f,j,l⟩:=h;exact⟨c,b,by rw[k.block B p m q];exact d,f,j,l⟩
theorem YF{out:List Cnt}(h:VS w C base v out)(a:Ϝ w w'):VS w' C base v out:=by
 have u:C<w.heap.size:=bLt _ _ h.cell;obtain⟨l,q,s,t⟩:=h.rows;refine⟨cLz a h.cell,(a.frozen (p:=⟨C,0,none⟩) u).trans h.frz,h.apart,Nat.le_trans h.low a.size,l,q,own_below s a,λi x=>?_⟩;obtain⟨d,b,c,f,j,m⟩:=t i x;exact⟨d,b,c,f,own_below j a,m⟩
theorem YG(v:List Cnt)(k:Nat)(h:k<v.length)(r:List Cel)(n:Int)(e:v.getD k ϰ=⟨r,n⟩):v.take (k+1)=v.take k++[⟨r,n⟩]:=by rw[UC v k h,e]
theorem Wj(B nn:Nat)(out:List Cnt)(C base:Nat)(d:Value)(w:ϙ)(P:Dr w B nn (AJ out))(hr:rising (AJ out))(an:∀c∈out,rowOk c.r)(a9:out.length<=100000)
 (t:VS w C base d []) (a3:B≠C) (a4:d.ownBlock≠some B):
 η 229 #[.map (some B),.func (.func 230) #[] #[μ C]] w λe w'=>e= .returned (.tuple #[])/\∃v,VS w' C base v out/\fr C d.ownBlock w w':=by
 have T:=hqz P;have U:=hqz hr;have W:=hqz t;have az:=hqz an;have bg:=LJ P;have bh:C<w.heap.size:=bLt _ _ t.cell;clear P hr t an;have ag:=J3 out;obtain⟨n,D⟩:∃n,out.length=n:=⟨_,rfl⟩;have G:=hqz D;have A:ϛ ((AJ out).length=n):=by show(AJ out).length=n;rw[ag,D]
 rw[D]at a9;clear ag D;go_enter func229,ntmps229;go_wp2_with fail;refine(Y8 B _).mono ?_;rintro e w' ⟨rfl,rfl⟩;go_wp2_with fail;refine(SU B nn (AJ out) w T.o U.o (by rw[A.o];omega)).mono ?_;rintro e w1 ⟨⟨v,rfl,Q⟩,aa⟩;obtain⟨ks,kc,t,ah⟩:=J2 Q;rw[A.o]at t ah;subst t;have a1:=hqz Q;have J:Ϝ w w1:=Ϩ.trans (aa.mono ϝ);have bi:w.heap.size+1<=w1.heap.size:=by have:=aa.size;simpa using this
 clear Q;have am:∀b,d.ownBlock=some b->b<w.heap.size:=λb hb=>by
  obtain⟨l,_,q,_⟩:=W.o.rows;exact(AE q hb).2
 have ay:=hqz am;have a2:ϛ (VS w1 C base d []):=YF W.o J;have ax:ϛ (Dr w1 B nn (AJ out)):=Cd T.o J;clear am;go_wp2
 go_loopw [10] (λi wr=> ∃(k:Nat) (v:Value),k<=n/\i= .int .i64 k/\VS wr C base v (out.take k)/\fr C d.ownBlock w1 wr/\(v.ownBlock=d.ownBlock\/∃g,v.ownBlock=some g/\w1.heap.size<=g)) (λi _=>n - (intOf i).toNat)
 case atStart=>exact⟨0,d,ϝ,rfl,a2.o,⟨rfl,rfl,rfl,Nat.le_refl _,λ_ _ _ _=>rfl⟩,.inl rfl⟩
 case round=>
  obtain⟨k,v,hk,rfl,ap,ae,ao⟩:=hrel;have f:=hqz ap;have u:=hqz ae;have X:=hqz ao;clear ap ae ao;by_cases al:k<n
  ·obtain⟨y,a7⟩:=ah ϝ;subst a7;have N:k<out.length:=by rw[G.o];exact al
   have af:k<(AJ out).length:=by rw[A.o];exact al
   have E:=a1.o;rw[<-A.o]at E;have a6:=AE E (g:=y) rfl;have ac:=YE E k af;have z:Δ wr y k (.string ⟨((AJ out).getD k ([],0)).1.toArray⟩):=(Abd u.o (p:=⟨y,k,none⟩) a6.2 (show y≠C by omega) (λe=>by have:=ay.o y e;omega)).trans ac;have aq:ϛ (Dr wr B nn (AJ out)):=Abh ax.o u.o a3 a4;have j:=Abg U.o k af;have s:rowOk (out.getD k ϰ).r:=az.o _ (by simp[gDe,N]);rw[Abf out k N]at z j;dsimp only at z j;obtain⟨⟨r,m⟩,L⟩:∃c,out.getD k ϰ=c:=⟨_,rfl⟩;have H:ϛ (out.take (k+1)=out.take k++[⟨r,m⟩]):=YG out k N r m L;rw[L]at z j s;dsimp only at z j s;have a0:=hqz s;have a5:=Dh r (λc K=>(s.2 c K).1);have bc:=s.1;obtain⟨a,M⟩:∃x,(⟨(encR r).toArray⟩:ByteArray)=x:=⟨_,rfl⟩;have F:ϛ (encR r=a.data.toList):=by show encR r=a.data.toList;rw[<-M]
   have R:ϛ (a.size<=maxLen):=by
    show a.size<=maxLen;rw[<-AL,<-F.o];unfold maxLen;omega
   rw[M]at z;have ar:ϛ (DU (AJ out) a.data.toList=m):=by show DU (AJ out) a.data.toList=m;rw[<-F.o];exact j
   clear L M j s a5 bc ac E;obtain⟨l,O,aj,ak⟩:=f.o.rows;have av:=hqz O;have S:=hqz aj;have aw:=hqz ak;have ai:l.length<=1000000:=by rw[O,length_take,G.o];omega
   have au:=hqz ai;clear O aj ak ai;have i1:(0:Int)<=(k:Int):=ϝ;have i2:(k:Int)<(n:Int):=ϝ;go_wp2_with (first
    |(at_lookup;refine wpList_lookup_own_int _ rfl (.tmp 16) (.tmp 17) 223 rfl 9 3 .i64 law underlying223 underlying3 (Mo _) B nn _ rfl aq.o _ (.string a.data.toList) rfl (keyOf_string_mk underlying9 R.o) ?_;intro c Y bm;have K:c=m:=(Gw Y).trans ar.o;clear Y;subst K)
    |(go_at_call 230;refine(YB C base a _ v l r wr f.o.cell f.o.frz S.o f.o.apart au.o f.o.low a0.o F.o R.o).mono ?_;rintro e w9 ⟨rfl,w2,w3,ad,bd,g,be,ab,ba,bb,a8,Z,rfl⟩))
   have V:=Abe f.o av.o S.o aw.o ab ba bb a8 Z;have bk:=u.o.size;have bj:wr.heap.size<=w2.heap.size:=ab.size;go_roundw
   case rel=>exact⟨k+1,_,ϝ,by go_num,by rw[H.o];exact V.1,QF u.o V.2 X.o,by
    rcases Z with I|I
    ·rcases X.o with q|⟨g',q,h3⟩
     ·exact .inl (by rw[<-q,I];rfl)
     ·exact .inr ⟨g,rfl,by rw[I]at q;cases q;exact h3⟩
    ·exact .inr ⟨g,rfl,ϝ⟩⟩
   case measure=>simp[intOf];omega
  ·have H:ϛ (out.take k=out):=take_of_length_le (by rw[G.o];omega);go_wp2
   go_end0
   exact⟨rfl,v,by have h:=f.o;rw[H.o]at h;exact h,QF (YD J) u.o (.inl rfl)⟩
theorem Abi(l:List (Value×Int))(i:Nat)(a:i<l.length):(flat l)[i * 2]? =some (l.getD i (.bool false,0)).1/\(flat l)[i * 2+1]? =some (.int .i64 (l.getD i (.bool false,0)).2):=by
 induction l generalizing i with
 |nil=>exact absurd a (Nat.not_lt_zero i)
 |cons p r ih=>
  have e:flat (p::r)=p.1:: .int .i64 p.2::flat r:=rfl;rw[e]
  cases i with
  |zero=>exact⟨rfl,rfl⟩
  |succ i=>
   have:=ih i (by simpa using a);rw[show(i+1) * 2=i * 2+1+1 by omega];simpa using this
theorem addr_add(g j:Nat):((⟨g,0,none⟩:Addr).add j)=⟨g,0+j,none⟩:=by unfold Addr.add;split<;>simp_all
theorem Ado{out:List Cnt}(h:VS w C base v out):∃a b,v= .slice a out.length b:=by
 obtain⟨l,c,d,j⟩:=h.rows;obtain⟨a,b,f,_⟩:=J2 d;exact⟨a,b,by rw[f,c]⟩
end ch
namespace ch
open vl
variable {i n : Nat}
theorem ob{b c x:Nat}(h:(Value.slice (τ b) n c).ownBlock=some x):x=b:=by cases h;rfl
structure Chg where
 k:Int
 r:List Cel
instance:Inhabited Chg:=⟨⟨0,[]⟩⟩
def Fh(w:World)(a:Option Addr)(l:List Chg):Prop:=
 ∀i,i<l.length->∃b off ra rc,a=some ⟨b,off,none⟩/\Δ w b (off+i * 2) (.int .i64 (l.getD i ϰ).k)/\Δ w b (off+i * 2+1) (.slice ra (l.getD i ϰ).r.length rc)/\vl.rowAt w ra (l.getD i ϰ).r
def Fi(l:List Chg):Prop:=∀c∈l,B9 c.r/\c.r.length<=χ/\(-9223372036854775808<=c.k/\c.k<=9223372036854775807)
theorem YH{l:List Chg}(h:Fi l)(k:Nat)(a:k<l.length):B9 (l.getD k ϰ).r/\(l.getD k ϰ).r.length<=χ/\(-9223372036854775808<=(l.getD k ϰ).k/\(l.getD k ϰ).k<=9223372036854775807):=
 h _ (by simp[gDe,a])
theorem J4{w w':ϙ}{a:Ϛ}{l:List Chg}(h:Fh w a l)(c:Ϝ w w'):Fh w' a l:=by
 intro i d;obtain⟨b,o,f,j,e,m,p,q⟩:=h i d;exact⟨b,o,f,j,e,cLz c m,cLz c p,Ab q c⟩
def B6(l:List Chg)(i:Nat):Bool:=
 if (l.getD i ϰ).k=3 then decide (i+1<l.length)&&decide ((l.getD (i+1) ϰ).k=4)else if (l.getD i ϰ).k=4 then decide (0<i)&&decide ((l.getD (i - 1) ϰ).k=3)else true
def FM(l:List Chg)(i:Nat):Int:=
 if (l.getD i ϰ).k<1\/4<(l.getD i ϰ).k then 4 else if A5 (l.getD i ϰ).r=0 then(if B6 l i then 0 else 6)else A5 (l.getD i ϰ).r
def first(f:Nat->Int):Nat->Int
 |0=>0
 |n+1=>if first f n=0 then f n else first f n
theorem Ms{f:Nat->Int}(h:∀i,i<n->f i=0):first f n=0:=by
 induction n with
 |zero=>rfl
 |succ n ih=>rw[first,ih (λi a=>h i ϝ),if_pos rfl,h n ϝ]
theorem YI{f:Nat->Int}{k:Nat}(n:Nat)(h:∀i,i<k->f i=0)(a:f k≠0)(b:k<n):first f n=f k:=by
 induction n with
 |zero=>exact absurd b (Nat.not_lt_zero k)
 |succ n ih=>
  rw[first];by_cases e:k=n
  ·subst e;rw[Ms h,if_pos rfl]
  ·rw[ih ϝ,if_neg a]
def AW(l:List Chg):Int:=if 4096<l.length then 2 else first (FM l) l.length
def Mt(l:List Chg)(i:Nat):Prop:=1<=(l.getD i ϰ).k/\(l.getD i ϰ).k<=4/\A5 (l.getD i ϰ).r=0/\B6 l i=true
theorem QG{l:List Chg}(h:FM l i=0):Mt l i:=by
 unfold FM at h;split at h
 ·cases h
 ·rename_i c;split at h
  ·rename_i a;split at h
   ·rename_i b;exact⟨ϝ,ϝ,a,b⟩
   ·cases h
  ·contradiction
theorem Ot{l:List Chg}(h:Mt l i):FM l i=0:=by
 obtain⟨c,d,a,b⟩:=h;unfold FM;rw[if_neg ϝ,if_pos a,if_pos b]
def Cx(l:List Chg):Prop:=l.length<=4096/\∀i,i<l.length->Mt l i
theorem Abj{l:List Chg}(h:Cx l):AW l=0:=by
 have:=h.1;unfold AW;rw[if_neg ϝ,Ms (λi a=>Ot (h.2 i a))]
def Gx(w:World)(ad:Option Addr)(l:List Chg):Prop:=
 ∀i,i<l.length->∃g,ad=some ⟨g,0,none⟩/\Δ w g i (.string ⟨(encR (l.getD i ϰ).r).toArray⟩)
theorem Aa{a b:Bool}(h:a=b):Ending.returned (.bool a)= .returned (.bool b):=by rw[h]
def Ep(k:Int):Int:=if k=1\/k=4 then 1 else -1
theorem QH(k:Int)(w:ϙ):η 164 #[.int .i64 k] w λe w'=>e= .returned (.int .i64 (Ep k))/\w'=w:=by
 by_cases a:k=1
 ·subst a;go_enter func164,ntmps164;go_wp2;go_ret;exact⟨rfl,rfl⟩
 ·have c:(k==1)=false:=by simpa using a
  by_cases b:k=4
  ·subst b;go_enter func164,ntmps164;go_wp2;go_ret;exact⟨rfl,rfl⟩
  ·have d:(k==4)=false:=by simpa using b
   have e:Ep k= -1:=by unfold Ep;rw[if_neg ϝ]
   rw[e];go_enter func164,ntmps164;go_wp2;go_ret;exact⟨rfl,rfl⟩
theorem SX(a:Ϛ)(cap:Nat)(l:List Chg)(i:Nat)(w:ϙ)(u:Fh w a l)(R:Fi l)(J:l.length<=1000000)(z:i<l.length):
 η 228 #[.slice a l.length cap,.int .i64 i] w (θ w (.bool (B6 l i))):=by
 obtain⟨b,o,Y,rc,e,E,K,L⟩:=u i z;subst e;have c:ϛ (B6 l i=if (l.getD i ϰ).k=3 then decide (i+1<l.length)&&decide ((l.getD (i+1) ϰ).k=4)else if (l.getD i ϰ).k=4 then decide (0<i)&&decide ((l.getD (i - 1) ϰ).k=3)else true):=rfl;have s:ϛ (∀j,j<l.length->Δ w b (o+j * 2) (.int .i64 (l.getD j ϰ).k)):=λj H=>by
  obtain⟨M,X,Z,aa,F,q,y2,y3⟩:=u j H
  cases F
  exact q
 obtain⟨k,A⟩:∃k,(l.getD i ϰ).k=k:=⟨_,rfl⟩;rw[A]at E c;clear A u K L;obtain⟨n,D⟩:∃n,l.length=n:=⟨_,rfl⟩;rw[D]at J z c s⊢;clear D;have V:(0:Int)<=(i:Int):=ϝ;have W:(i:Int)<(n:Int):=ϝ;have S:IntKind.i64.wrap ((i:Int)+1)=(i:Int)+1:=by rw[Co];omega
 by_cases t:k=3
 ·subst t;by_cases f:i+1<n
  ·have q:=s.o (i+1) f;obtain⟨h,p⟩:∃k,(l.getD (i+1) ϰ).k=k:=⟨_,rfl⟩;rw[p]at q c;have x:(i:Int)+1<(n:Int):=ϝ;have m:decide (h=4)=(h==4):=by rw[Bool.eq_iff_iff];simp
   have d:ϛ (B6 l i=(h==4)):=by show B6 l i=_;rw[c.o,if_pos rfl,decide_eq_true f,m];rfl
   clear c p m;go_enter func228,ntmps228;go_wp2;go_ret;exact⟨Aa d.o.symm,by first|exact bR|exact bR.drew⟩
  ·have x:¬(i:Int)+1<(n:Int):=ϝ;have d:ϛ (B6 l i=false):=by show B6 l i=_;rw[c.o,if_pos rfl,decide_eq_false f];rfl
   clear c;go_enter func228,ntmps228;go_wp2;go_ret;exact⟨Aa d.o.symm,by first|exact bR|exact bR.drew⟩
 ·have N:(k==3)=false:=by simpa using t
  by_cases f:k=4
  ·subst f;by_cases y:0<i
   ·obtain⟨j,rfl⟩:∃j,i=j+1:=⟨i - 1,ϝ⟩;have q:=s.o j ϝ;have I:(j+1:Nat) - 1=j:=ϝ;rw[I]at c;obtain⟨h,p⟩:∃k,(l.getD j ϰ).k=k:=⟨_,rfl⟩;rw[p]at q c;have m:decide (h=3)=(h==3):=by rw[Bool.eq_iff_iff];simp
    have d:ϛ (B6 l (j+1)=(h==3)):=by show B6 l (j+1)=_;rw[c.o,if_neg Ϟ,if_pos rfl,decide_eq_true y,m];rfl
    have O:(0:Int)<((j:Int)+1):=ϝ;have P:((j:Int))<(n:Int):=ϝ;have Q:(0:Int)<=(j:Int):=ϝ;have T:IntKind.i64.wrap ((j:Int)+1 - 1)=(j:Int):=by rw[Co];omega
    have U:IntKind.i64.wrap (j:Int)=(j:Int):=by rw[Co];omega
    clear c p m;go_enter func228,ntmps228;go_wp2;go_ret;exact⟨Aa d.o.symm,by first|exact bR|exact bR.drew⟩
   ·have G:i=0:=ϝ;subst G;have d:ϛ (B6 l 0=false):=by show B6 l 0=_;rw[c.o,if_neg Ϟ,if_pos rfl,decide_eq_false y];rfl
    clear c;simp only[Nat.zero_mul,Nat.add_zero]at E;go_enter func228,ntmps228;go_wp2;go_ret;exact⟨Aa d.o.symm,by first|exact bR|exact bR.drew⟩
  ·have x:(k==4)=false:=by simpa using f
   have d:ϛ (B6 l i=true):=by show B6 l i=_;rw[c.o,if_neg t,if_neg f]
   clear c;go_enter func228,ntmps228;go_wp2;go_ret;exact⟨Aa d.o.symm,by first|exact bR|exact bR.drew⟩
end ch
end Go.Proofs.YtfkihidbnfkbaaaGreatDoor
