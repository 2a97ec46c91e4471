import Derived.Test.YtfkihidbnfkbaaaGreatDoorPb3
import Derived.Test.YtfkihidbnfkbaaaGreatDoorPb4
set_option linter.all false
set_option maxHeartbeats 8000000
set_option maxRecDepth 100000
open Go.ChangeShapes Go.WideShapes Go.ChangeAt Go.RowKit Go.Shelf List
open Inhabited renaming default->ϰ
namespace Go.Proofs.YtfkihidbnfkbaaaGreatDoor
open Go.Proofs.Tryz
namespace vl
def reads(l:List UInt8)(c:Cel)(m:Nat):Prop:=∀(d:Cel) t,d.ok->d.wf->l=CM d++t->c=d/\m=(CM d).length
end vl
namespace bf
open vl
variable {w w' : ϙ} {i : Nat}
structure Ent where
 key:ByteArray
 time:Int
 seq:Int
 row:List Cel
 met:Bool
deriving DecidableEq
instance:Inhabited Ent:=⟨⟨⟨#[]⟩,0,0,[],false⟩⟩
structure ER(w:World)(e:EM)(x:Ent):Prop where
 key:e.key=x.key
 time:e.time=x.time
 seq:e.seq=x.seq
 met:e.met=x.met
 len:e.row.2.1=x.row.length
 row:vl.rowAt w e.row.1 x.row
theorem ER.below{e:EM}{x:Ent}(h:ER w e x)(b:Ϝ w w'):ER w' e x:=⟨h.key,h.time,h.seq,h.met,h.len,vl.Ab h.row b⟩
def ERs(w:World)(es:List EM)(l:List Ent):Prop:=es.length=l.length/\∀i,i<l.length->ER w (es.getD i ϰ) (l.getD i ϰ)
theorem ERs.below{es:List EM}{l:List Ent}(h:ERs w es l)(b:Ϝ w w'):ERs w' es l:=⟨h.1,λi c=>(h.2 i c).below b⟩
theorem Ab9(w:ϙ):ERs w [] []:=⟨rfl,λi b=>absurd b (Nat.not_lt_zero i)⟩
theorem Bc{α:Type}{l m:List α}{d:α}(h:i<l.length):(l++m).getD i d=l.getD i d:=by
 simp[gDe,getElem?_append_left h]
theorem AP{α:Type}{l m:List α}{d:α}(h:l.length<=i):(l++m).getD i d=m.getD (i - l.length) d:=by
 simp[gDe,getElem?_append_right h]
theorem AbA{es c:List EM}{l e:List Ent}(h:ERs w es l)(d:ERs w c e):ERs w (es++c) (l++e):=by
 refine⟨by rw[lAp,lAp,h.1,d.1],λi f=>?_⟩;rw[lAp]at f;by_cases b:i<l.length
 ·rw[Bc (by rw[h.1];exact b),Bc b];exact h.2 i b
 ·rw[AP (by rw[h.1];omega),AP ϝ,h.1];exact d.2 _ ϝ
def bl(b:ByteArray):List UInt8:=b.data.toList
theorem PG{a b:ByteArray}(h:bl a=bl b):a=b:=ByteArray.ext (Array.ext' h)
def ltP(a b:Ent):Prop:=bl a.key<bl b.key\/(a.key=b.key/\(a.time<b.time\/(a.time=b.time/\a.seq<b.seq)))
instance(a b:Ent):Decidable (ltP a b):=by unfold ltP;exact inferInstance
def Ea(a b:Ent):Prop:=a.key=b.key/\a.time=b.time/\a.seq=b.seq
instance(a b:Ent):Decidable (Ea a b):=by unfold Ea;exact inferInstance
def Ge(a b:Ent):Int:=if ltP a b then -1 else if Ea a b then 0 else 1
theorem F0:∀(a b:List UInt8),Op.bytesLess a b=decide (a<b)
 |[],[]=>by simp[Op.bytesLess]
 |_::_,[]=>by simp[Op.bytesLess]
 |[],_::_=>by simp[Op.bytesLess]
 |a::x,b::y=>by
  rw[Op.bytesLess,F0 x y];simp only[cons_lt_cons_iff];by_cases c:a<b<;>by_cases d:a=b<;>by_cases e:x<y<;>simp[c,d,e]
theorem LN(a b:List UInt8):Lib.compareBytes a b=if a<b then -1 else if a=b then 0 else 1:=by
 rw[Kb,F0];by_cases c:a<b<;>by_cases d:a=b<;>simp[c,d]
theorem GK(a:List UInt8):¬a<a:=List.lt_irrefl a
theorem O5{a b c:List UInt8}(d:a<b)(e:b<c):a<c:=List.lt_trans d e
theorem lt_tri(a b:List UInt8):a<b\/a=b\/b<a:=by
 by_cases c:a<b
 ·exact .inl c
 ·by_cases d:b<a
  ·exact .inr (.inr d)
  ·exact .inr (.inl (List.le_antisymm (List.not_lt.1 d) (List.not_lt.1 c)))
theorem Ew(a:Ent):¬ltP a a:=by
 unfold ltP;rintro (h|⟨_,h|⟨_,h⟩⟩)
 ·exact GK _ h
 ·omega
 ·omega
theorem DG{a b c:Ent}(e:ltP a b)(d:ltP b c):ltP a c:=by
 unfold ltP at *;rcases e with e|⟨g,e⟩
 ·rcases d with d|⟨f,d⟩
  ·exact .inl (O5 e d)
  ·rw[<-f];exact .inl e
 ·rcases d with d|⟨f,d⟩
  ·rw[g];exact .inl d
  ·exact .inr ⟨g.trans f,ϝ⟩
theorem ltP_tri(a b:Ent):ltP a b\/Ea a b\/ltP b a:=by
 unfold ltP Ea;rcases lt_tri (bl a.key) (bl b.key)with h|h|h
 ·exact .inl (.inl h)
 ·have e:=PG h;by_cases d:a.time<b.time
  ·exact .inl (.inr ⟨e,.inl d⟩)
  ·by_cases f:b.time<a.time
   ·exact .inr (.inr (.inr ⟨e.symm,.inl f⟩))
   ·have c:a.time=b.time:=ϝ;by_cases g:a.seq<b.seq
    ·exact .inl (.inr ⟨e,.inr ⟨c,g⟩⟩)
    ·by_cases j:b.seq<a.seq
     ·exact .inr (.inr (.inr ⟨e.symm,.inr ⟨c.symm,j⟩⟩))
     ·exact .inr (.inl ⟨e,c,ϝ⟩)
 ·exact .inr (.inr (.inl h))
theorem Tq(a:Ent):Ea a a:=⟨rfl,rfl,rfl⟩
theorem MF{a b:Ent}(h:Ea a b):Ea b a:=⟨h.1.symm,h.2.1.symm,h.2.2.symm⟩
theorem MG{a b c:Ent}(h:ltP a b)(k:Ea b c):ltP a c:=by
 unfold ltP at *;rw[<-k.1,<-k.2.1,<-k.2.2];exact h
theorem Z0{a b c:Ent}(h:Ea a b)(k:ltP b c):ltP a c:=by
 unfold ltP at *;rw[h.1,h.2.1,h.2.2];exact k
theorem Z1{a b:Ent}(h:ltP a b):¬Ea a b:=λk=>Ew _ (MG h (MF k))
theorem Rj{a b:Ent}:Ge a b<0↔ltP a b:=by
 unfold Ge;by_cases h:ltP a b
 ·simp[h]
 ·by_cases c:Ea a b<;>simp[h,c]
theorem WT{a b:Ent}:Ge a b=0↔Ea a b:=by
 unfold Ge;by_cases h:ltP a b
 ·simp[h,Z1 h]
 ·by_cases c:Ea a b<;>simp[h,c]
theorem Jd(a b:Ent):AG [Lib.compareBytes (bl a.key) (bl b.key),CL a.time b.time,CL a.seq b.seq]=Ge a b:=by
 have g:=LN (bl a.key) (bl b.key);rw[g];unfold AG AG AG AG CL Ge;unfold ltP Ea;rcases lt_tri (bl a.key) (bl b.key)with h|h|h
 ·simp[h]
 ·have e:=PG h;simp only[h,GK,if_false,if_true,e,false_or,true_and];by_cases d:a.time<b.time
  ·simp[d]
  ·by_cases f:b.time<a.time
   ·have c:¬a.time=b.time:=ϝ;simp[d,f,c]
   ·have j:a.time=b.time:=ϝ;simp only[j,Int.lt_irrefl,if_false,false_or,true_and];by_cases c:a.seq<b.seq
    ·simp[c]
    ·by_cases m:b.seq<a.seq
     ·have o:¬a.seq=b.seq:=ϝ;simp[c,m,o]
     ·have l:a.seq=b.seq:=ϝ;simp[l]
 ·have d:¬bl a.key<bl b.key:=λk=>GK _ (O5 k h);have f:¬bl a.key=bl b.key:=λk=>by rw[k]at h;exact GK _ h
  have c:¬a.key=b.key:=λk=>f (by rw[k]);simp[d,f,c]
def BG(n a b:Int):Bool:=decide (a<=n/\n<=b)
theorem BN(n a b:Int):BG n a b=true↔(a<=n/\n<=b):=by simp[BG]
theorem F3(n a b:Int):BG n a b=false↔ ¬(a<=n/\n<=b):=by unfold BG;exact decide_eq_false_iff_not
theorem Ho(n:Int)(w:ϙ):
 η 166 #[.int .i64 n] w λe w'=>e= .returned (.bool (BG n 1 64))/\w'=w:=by
 by_cases b:1<=n
 ·by_cases c:n<=64
  ·rw[(BN n 1 64).2 ⟨b,c⟩];go_enter func166,ntmps166;go_wp2;go_ret;exact⟨rfl,rfl⟩
  ·rw[(F3 n 1 64).2 ϝ];go_enter func166,ntmps166;go_wp2;go_ret;exact⟨rfl,rfl⟩
 ·rw[(F3 n 1 64).2 ϝ];go_enter func166,ntmps166;go_wp2;go_ret;exact⟨rfl,rfl⟩
theorem AdA(b:Nat)(zs:List Int)(w:ϙ)(y:zs.length<=100)
 (m:∀i,i<zs.length->Δ w b i (.int .i64 (zs[i]?.getD 0))):
 η 293 #[.slice (τ b) zs.length zs.length] w λe w'=>e= .returned (.int .i64 (AG zs))/\w'=w:=by
 go_enter func293,ntmps293;go_wp2
 go_loop [8] (λi=> ∃k:Nat,k<=zs.length/\i= .int .i64 k/\∀i,i<k->zs[i]?.getD 0=0) (λi=>zs.length - (intOf i).toNat)
 case atStart=>exact⟨0,Nat.zero_le _,rfl,λi g=>absurd g (Nat.not_lt_zero i)⟩
 case round=>
  obtain⟨k,x,rfl,l⟩:=hrel;have c:=hqz l;clear l;by_cases q:k<zs.length
  ·have s:=m k q;obtain⟨z,j⟩:=nM (zs[k]?.getD 0);rw[j]at s;have d:=hqz j;clear m j;by_cases f:(z==0)=true
   ·have o:z=0:=by simpa using f
    have r:ϛ (z=0):=o;clear o;go_wp2
    go_round
    case rel=>exact⟨k+1,ϝ,by go_num,λi g=>by
     rcases Nat.lt_succ_iff_lt_or_eq.1 g with h|h
     ·exact c.o i h
     ·rw[h,d.o];exact r.o⟩
    case measure=>simp[intOf];omega
   ·have v:(z==0)=false:=by simpa using f
    have t:ϛ (AG zs=z):=by
     show AG zs=z;rw[M6 zs k c.o q (by rw[d.o];simpa using f)];exact d.o
    go_wp2;go_ret;exact⟨Aj (by rw[t.o]),rfl⟩
  ·have u:ϛ (AG zs=0):=by
    show AG zs=0;rw[GC zs k c.o,drop_of_length_le ϝ];rfl
   go_wp2;go_ret;exact⟨Aj (by rw[u.o]),rfl⟩
theorem or3(b:Nat)(x y z:Int)(w:ϙ)(c:Δ w b 0 (.int .i64 x))(d:Δ w b 1 (.int .i64 y))(f:Δ w b 2 (.int .i64 z)):
 η 293 #[.slice (τ b) 3 3] w λe w'=>e= .returned (.int .i64 (AG [x,y,z]))/\w'=w:=
 AdA b [x,y,z] w ϟ (λi g=>by
  match i,g with
  |0,_=>exact c
  |1,_=>exact d
  |2,_=>exact f)
def EM.ent(e:EM):Ent:=⟨e.key,e.time,e.seq,[],e.met⟩
theorem Rk{e f:EM}{x y:Ent}(h:ER w e x)(k:ER w f y):Ge e.ent f.ent=Ge x y:=by
 unfold Ge ltP Ea EM.ent;simp only[h.key,h.time,h.seq,k.key,k.time,k.seq]
attribute [local go_sem ↓] Go.wp_at_zero Go.wp_at_succ
theorem Rl(e f:EM)(w:ϙ):
 η 272 #[e.val,f.val] w (θ w (.int .i64 (Ge e.ent f.ent))):=by
 have b:ϛ (AG [Lib.compareBytes e.key.data.toList f.key.data.toList,CL e.time f.time,CL e.seq f.seq]=Ge e.ent f.ent):=Jd e.ent f.ent;obtain⟨c,j,g,⟨l,o,r⟩,t⟩:=e;obtain⟨d,k,h,⟨m,q,s⟩,u⟩:=f;rw[<-b.o];clear b;unfold EM.val hdV;dsimp only;go_enter func272,ntmps272;go_wp2
 go_region_held3 (λw'=>ϒ w' w (.string c) (.int .i64 j) (.int .i64 g) (ϖ w' (w+1) (.string d) (.int .i64 k) (.int .i64 h))) (go_keep)
  (first
   |(go_at_call 263;refine(IY _ _ _).mono ?_;rintro e w' ⟨rfl,rfl⟩)
   |(go_at_call 283;refine(IX _ _ _).mono ?_;rintro e w' ⟨rfl,rfl⟩)
   |(go_at_call 293;refine(or3 _ (Lib.compareBytes c.data.toList d.data.toList) (CL j k) (CL g h) _ ?_ ?_ ?_).mono ?_;(go_simp);(go_simp);(go_simp);rintro e w' ⟨rfl,rfl⟩))
 all_goals
  go_wp2;go_ret;refine⟨rfl,?_⟩
  repeat (first|exact bR|apply Below.drew|(refine Below.alloc ?_ Ϥ _))
theorem Hp(e:EM)(w:ϙ):
 η 275 #[e.val] w (θ w (.agg #[.string e.key,.int .i64 e.time,.int .i64 e.seq])):=by
 obtain⟨b,d,c,⟨f,g,h⟩,j⟩:=e;unfold EM.val hdV;dsimp only;go_enter func275,ntmps275;go_wp2;refine bodyPost_ret (v:=.agg #[.string b,.int .i64 d,.int .i64 c]) (by simp[results,results275,go_sem]) rfl ⟨rfl,?_⟩
 repeat (first|exact bR|apply Below.drew|(refine Below.setCell ?_ ϟ _)|(refine Below.alloc ?_ Ϥ _))
def isKey(k:ByteArray):Prop:=∃r,rowOk r/\encR r=k.data.toList
structure wfE(x:Ent):Prop where
 key:x.key.size<=maxLen
 row:B9 x.row
 len:x.row.length<=χ
def Eh(x:Ent):Prop:=isKey x.key/\A5 x.row=0/\tm.Br x.time=true/\0<=x.seq/\x.seq<=1099511627776
noncomputable def F8(x:Ent):Bool:=@decide (Eh x) (Classical.propDecidable _)
theorem Io{x:Ent}(h:Eh x):F8 x=true:=by unfold F8;exact @decide_eq_true _ (Classical.propDecidable _) h
theorem Rn{x:Ent}(h:¬Eh x):F8 x=false:=by unfold F8;exact @decide_eq_false _ (Classical.propDecidable _) h
theorem O6{x:Ent}:F8 x=true↔Eh x:=by
 by_cases h:Eh x
 ·simp[Io h,h]
 ·simp[Rn h,h]
theorem AdB{k:ByteArray}(h:¬isKey k):Ol k.data.toList:=λr b e=>h ⟨r,b,e⟩
theorem Hq(e:EM)(x:Ent)(w:ϙ)(h:ER w e x)(hw:wfE x):
 η 271 #[e.val] w (θ w (.bool (F8 x))):=by
 obtain⟨d,l,k,⟨y,b1,A⟩,F⟩:=e;obtain⟨h1,h2,h3,h4,h5,I⟩:=h;obtain⟨xk,xt,xs,m,xm⟩:=x;obtain⟨b,U,V⟩:=hw;dsimp only at h1 h2 h3 h4 h5 I b U V;subst h1 h2 h3 h4 h5;obtain⟨R,D⟩:=nM (F8 ⟨d,l,k,m,F⟩);have ae:ϛ (Eh ⟨d,l,k,m,F⟩->true=R):=λh=>by rw[<-D,Io h]
 have s:ϛ (¬Eh ⟨d,l,k,m,F⟩->false=R):=λh=>by rw[<-D,Rn h]
 have v:=hIz (λ(b:ϙ) (J:Ϝ w b)=>Iy y A m b (vl.Ab I J) U V);rw[D];obtain⟨ke,L⟩:=nM (A5 m);obtain⟨ks,ab⟩:=nM (EY m);rw[L,ab]at v;have X:=hqz L;obtain⟨n,N⟩:=nM m.length;rw[N]at v;unfold EM.val hdV;dsimp only;rw[N];clear D L ab N I U V;have aa:Ϝ w (ξ w (ζ d l k y n A F) 166):=Ϩ;by_cases E:isKey d
 ·obtain⟨G,O,K⟩:=E;have u:ϛ (∀b,CT 145 #[.string d] b λe w'=>(∃z C,e= .returned (.tuple #[.slice z G.length C,.int .i64 0]))/\Ϝ b w'):=λT=>(Qz d G T b O K).mono (λe w' ⟨⟨z,C,he,_⟩,J⟩=>⟨⟨z,C,he⟩,J⟩);have HK:ϛ (isKey d):=⟨G,O,K⟩;obtain⟨rl,ac⟩:=nM G.length;rw[ac]at u;clear K O ac;go_enter func271,ntmps271;go_wp2_with fail;refine(u.o _).mono ?_;rintro e r ⟨⟨z,C,rfl⟩,f⟩;have c0:Δ r w 0 (.string d):=by rw[f.cell (p:=⟨w,0,none⟩) ϟ];go_simp
  have Y:Δ r w 1 (.int .i64 l):=by rw[f.cell (p:=⟨w,1,none⟩) ϟ];go_simp
  have Z:Δ r w 2 (.int .i64 k):=by rw[f.cell (p:=⟨w,2,none⟩) ϟ];go_simp
  have c3:Δ r w 3 (.slice y n A):=by rw[f.cell (p:=⟨w,3,none⟩) ϟ];go_simp
  have t:=bT aa f;clear f;go_wp2_with fail;refine(v.o _ t).mono ?_;rintro e wb ⟨rfl,q⟩;have d1:=cLz q Y;have d2:=cLz q Z;have g:=bT t q;clear q c0 Y Z c3;by_cases H:ke=0
  ·subst H;have o:=hIz (λ(b:ϙ)=>tm.CF l b)
   cases hf:tm.Br l with
   |false=>
    have c:ϛ (false=R):=s.o (λh=>by have:=h.2.2.1;rw[hf]at this;cases this);rw[hf]at o;go_wp2_with (go_at_call 197;refine(o.o _).mono ?_;rintro e w' ⟨rfl,j⟩;subst j);go_ret;exact⟨Aa c.o,g⟩
   |true=>
    rw[hf]at o;by_cases s0:0<=k
    ·by_cases s2:k<=1099511627776
     ·have c:ϛ (true=R):=ae.o ⟨HK.o,X.o,hf,s0,s2⟩;go_wp2_with (go_at_call 197;refine(o.o _).mono ?_;rintro e w' ⟨rfl,j⟩;subst j);go_ret;exact⟨Aa c.o,g⟩
     ·have c:ϛ (false=R):=s.o (λh=>s2 h.2.2.2.2);go_wp2_with (go_at_call 197;refine(o.o _).mono ?_;rintro e w' ⟨rfl,j⟩;subst j);go_ret;exact⟨Aa (by rw[<-c.o];exact decide_eq_false ϝ),g⟩
    ·have c:ϛ (false=R):=s.o (λh=>s0 h.2.2.2.1);go_wp2_with (go_at_call 197;refine(o.o _).mono ?_;rintro e w' ⟨rfl,j⟩;subst j);go_ret;exact⟨Aa c.o,g⟩
  ·have af:(ke==0)=false:=by simpa using H
   have c:ϛ (false=R):=s.o (λh=>H (by rw[<-X.o];exact h.2.1));go_wp2;go_ret;exact⟨Aa c.o,g⟩
 ·have u:ϛ (∀b,CT 145 #[.string d] b (θ b (.tuple #[.slice none 0 0,.int .i64 1]))):=λT=>AaQ d T b (AdB E);have c:ϛ (false=R):=s.o (λh=>E h.1);clear E;go_enter func271,ntmps271;go_wp2_with fail;refine(u.o _).mono ?_;rintro e r ⟨rfl,f⟩;have c3:Δ r w 3 (.slice y n A):=by rw[f.cell (p:=⟨w,3,none⟩) ϟ];go_simp
  have t:=bT aa f;clear f;go_wp2_with fail;refine(v.o _ t).mono ?_;rintro e wb ⟨rfl,q⟩;have g:=bT t q;go_wp2;go_ret;exact⟨Aa c.o,g⟩
end bf
namespace bf
open vl
attribute [local go_sem] Oper.semAt_some
variable {W w w' : ϙ} {B n : Nat}
structure Buf where
 lim:Int
 mem:List Ent
 runs:List (List Ent)
structure BX where
 ra:Option Addr
 rc:Nat
 m:Part
 rs:List Part
def AZ(b:Buf)(x:BX):Value:=.agg #[.int .i64 b.lim,hdV x.m.1,.slice x.ra x.rs.length x.rc]
structure bufAt(w:World)(b:Buf)(x:BX):Prop where
 hds:FA w x.ra (x.rs.map (·.1))
 len:∀p∈x.m::x.rs,p.1.2.1=p.2.length/\p.2.length<=χ
 ems:∀p∈x.m::x.rs,Cm w p.1.1 p.2
 few:x.rs.length<=χ
 mem:ERs w x.m.2 b.mem
 rlen:x.rs.length=b.runs.length
 runs:∀i,i<b.runs.length->ERs w (x.rs.getD i ϰ).2 (b.runs.getD i ϰ)
theorem Hr{a:Ϛ}{l:List Hdr}(h:FA w a l)(c:Ϝ w w'):FA w' a l:=λi d=>by
 obtain⟨b,o,e,x⟩:=h i d;exact⟨b,o,e,cLz c x⟩
theorem An{b:Buf}{x:BX}(h:bufAt w b x)(c:Ϝ w w'):bufAt w' b x:=
 ⟨Hr h.hds c,h.len,λp e=>Cr (h.ems p e) c,h.few,h.mem.below c,h.rlen,λi d=>(h.runs i d).below c⟩
def partsB(b:Buf):List (List Ent):=b.mem::b.runs
def Ac(b:Buf):List Ent:=(partsB b).flatten
theorem Ro{w:ϙ}:∀{p:List Part} {l:List (List Ent)},p.length=l.length->(∀i,i<l.length->ERs w (p.getD i ϰ).2 (l.getD i ϰ))->ERs w (ems p) l.flatten
 |[],[],_,_=>Ab9 w
 |[],_::_,h,_=>by cases h
 |_::_,[],h,_=>by cases h
 |p::ps,x::xs,h,k=>by
  have b:=k 0 ϟ;have c:=Ro (p:=ps) (l:=xs) (by simpa using h) (λi d=>by have:=k (i+1) (by simpa using d);simpa using this);exact AbA (by simpa using b) c
theorem D8{b:Buf}{x:BX}(h:bufAt w b x):ERs w (ems (x.m::x.rs)) (Ac b):=
 Ro (by simp[partsB,h.rlen]) (λi c=>by
  cases i with
  |zero=>exact h.mem
  |succ i=>
   have d:i<b.runs.length:=by simpa[partsB]using c
   simpa[partsB]using h.runs i d)
theorem AdC{b:Buf}{x:BX}(h:bufAt w b x)(c:Δ w B 0 (.int .i64 b.lim))(d:Δ w B 1 (hdV x.m.1))(e:Δ w B 2 (.slice x.ra x.rs.length x.rc)):boxAt w B b.lim x.ra x.rc x.m x.rs:=
 ⟨c,d,e,h.hds,h.len,h.ems,h.few⟩
theorem CU{b:ϙ}{c:Option Nat}(h:Below n w W)(g:n<=w.heap.size)(d:n<=B)(f:W.grownBy b c)(j:∀r,c=some r->B<=r/\∃x:Obj,W.heap[r]? =some x/\x.isCells=false):Below n w b:=
 h.grown f (Nat.le_trans g h.size) (λr e=>Nat.le_trans d (j r e).1)
theorem Cq{D:Nat}{o:Obj}(h:Below n w W)(e:n<=D)(c:W.heap[D]? =some o)(b:Obj):Below n w (W.putObj D b):=
 h.trans ⟨rfl,rfl,rfl,ϟ,λk d=>World.putObj_heap_other ϝ⟩
def Tr(B:Nat):Nat->Obj->Prop:=λb _=>b≠B
theorem O7{b:Nat}(h:b≠B):names (Tr B) W b:=λ_ _=>h
theorem AbB(W:ϙ)(o:Nat)(v:Value):Aq (Tr B) W (φ W B o v):=λb x c _ d=>(heap_setCell_other W ⟨B,o,none⟩ b v d).trans c
theorem Je{V:ϙ}{b:Buf}{x:BX}(h:bufAt w b x)(m:Ϝ w V)(c:Nat)(d:Nat->Obj->Prop)(g:Δ V c 1 (hdV x.m.1))(j:Δ V c 2 (.slice x.ra x.rs.length x.rc))(k:names d V c)(l:∀a,0<x.rs.length->x.ra=some a->names d V a.block):
 Zj Tryz.prog 268 #[μ c] ((x.m::x.rs).map λp=>#[hdV p.1]) (Aq d) V:=by
 have e:(x.rs.map (·.1)).length=x.rs.length:=lMp ..;have:=MK c 0 x.m.1 x.ra x.rc (x.rs.map (·.1)) d V (by rw[e];exact h.few) g (by rw[e];exact j) (Hr h.hds m) k (λa f ha=>l a (by rw[e]at f;exact f) ha);rw[show((x.m::x.rs).map λp=>#[hdV p.1])=((x.m.1::x.rs.map (·.1)).map λh=>#[hdV h]) by simp];exact this
theorem AcL{b:Buf}{x:BX}(h:bufAt w b x){a:Addr}(c:0<x.rs.length)(ha:x.ra=some a):a.block<w.heap.size:=by
 obtain⟨d,o,e,y⟩:=h.hds 0 (by simpa using c);rw[ha]at e;cases e;exact bLt _ _ y
theorem AbC(p:List Part)(i:Nat):Fw p i<=(ems p).length:=by
 have h:ems p=ems (p.take i)++ems (p.drop i):=by rw[<-PL,take_append_drop]
 unfold Fw;rw[h,lAp];omega
theorem MH(b:Buf)(x:BX)(w:ϙ)(h:bufAt w b x)(t:(Ac b).length<=4611686018427387904):
 η 232 #[AZ b x] w (θ w (.int .i64 (Ac b).length)):=by
 have R:=hqz h;obtain⟨N,U⟩:=nM ((Ac b).length);have E:ϛ (Fw (x.m::x.rs) (x.m::x.rs).length=N):=by show _=_;rw[MM,(D8 h).1,U]
 rw[U]at t⊢;clear U h;obtain⟨j,m,⟨⟨d,f,g⟩,ml⟩,rs⟩:=x;obtain⟨s,an,ao⟩:=b;unfold AZ hdV;dsimp only at E⊢;obtain⟨n,hn⟩:∃n,rs.length=n:=⟨_,rfl⟩;have HN:=hqz hn;rw[hn];clear hn;refine(callsIn_wide (n:=0)).1 ?_;refine callsIn_of_wp_marks func232 rfl trivial ?_ rfl;simp only[ntmps232,size_toArray,length_cons,length_nil,Nat.reduceAdd,Nat.reduceSub,Array.replicate_succ,Array.replicate_zero,push_toArray,append_toArray,nil_append,cons_append]
 gi_wp2_with (refine⟨trivial,rfl,?_⟩;gi_at_call 233;refine(callsIn_wide.2 (Iq _ _ _ rfl rfl rfl _)).mono ?_;rintro e w' ⟨rfl,rfl⟩)
 have V0:Δ ((((w.alloc (.cells (ν s d f g j n m) 36)).alloc (.cells #[.int .i64 0] 3)).alloc (.cells (ν s d f g j n m) 36))) (w+1) 0 (.int .i64 0):=ϡ;have V1:Ξ ((((w.alloc (.cells (ν s d f g j n m) 36)).alloc (.cells #[.int .i64 0] 3)).alloc (.cells (ν s d f g j n m) 36))) (w+1) 0:=ϡ;have V2:Δ ((((w.alloc (.cells (ν s d f g j n m) 36)).alloc (.cells #[.int .i64 0] 3)).alloc (.cells (ν s d f g j n m) 36))) (w+1+1) 1 (.slice d f g):=ϡ;have V3:Δ ((((w.alloc (.cells (ν s d f g j n m) 36)).alloc (.cells #[.int .i64 0] 3)).alloc (.cells (ν s d f g j n m) 36))) (w+1+1) 2 (.slice j n m):=ϡ;have V4:Ϝ w ((((w.alloc (.cells (ν s d f g j n m) 36)).alloc (.cells #[.int .i64 0] 3)).alloc (.cells (ν s d f g j n m) 36))):=by
  repeat (first|exact bR|(refine Below.alloc ?_ Ϥ _))
 have V5:((((w.alloc (.cells (ν s d f g j n m) 36)).alloc (.cells #[.int .i64 0] 3)).alloc (.cells (ν s d f g j n m) 36))).heap.size=w.heap.size+1+1+1:=ϟ;generalize ((((w.alloc (.cells (ν s d f g j n m) 36)).alloc (.cells #[.int .i64 0] 3)).alloc (.cells (ν s d f g j n m) 36)))=V at *;have aa:=Je R.o V4 (w.heap.size+1+1) (Tr (w.heap.size+1)) V2 (by rw[HN.o];exact V3) (O7 ϝ) (λa h0 ha=>O7 (by have:=AcL R.o h0 ha;omega));obtain⟨P,Z⟩:∃z:List Part,(((d,f,g),ml)::rs)=z:=⟨_,rfl⟩;dsimp only at aa;rw[Z]at aa E;have af:ϛ (∀p∈P,p.1.2.1=p.2.length/\p.2.length<=χ):=λp hp=>R.o.len p (by rw[<-Z]at hp;exact hp);clear Z;refine Db (gf:=268) (lb:=#[.pointer (some ⟨w+1+1,0,none⟩)]) rfl (enters_of func268 Ϡ rfl) aa bR (λx v=>by obtain⟨p,_,rfl⟩:=mem_map.1 v;rfl) (λh k=>Aq.trans h k) (λW l o o' _ h ho=>Aq.put W l o o' h ho)
  (λi X=>Δ X (w+1) 0 (.int .i64 (Fw P i))/\Ξ X (w+1) 0/\Ϝ w X) (λc X=>False)
  (λi X X' ae t H I=>⟨cell_kept t.1 H (λr e=>(I r e).2),(frozen_kept t.1 H (λr e=>(I r e).2)).trans t.2.1,CU t.2.2 nR ϝ H I⟩)
  (λc X X' ae t H I=>t)
  ⟨V0,V1,V4⟩
  (λi T X=>T={tmps:=#[.agg #[.int .i64 s,.slice d f g,.slice j n m],.pointer (some ⟨w,0,none⟩),.int .i64 0,.pointer (some ⟨w+1,0,none⟩),hdV (P.getD i ϰ).1,.agg #[.int .i64 s,.slice d f g,.slice j n m],.func (.func 268) #[] #[.pointer (some ⟨w+1+1,0,none⟩)],hdV (P.getD i ϰ).1,undef,undef,undef,undef,undef],defers:=[]})
  (λi T u X X' ae t H I=>t) ?assign ?body ?done ?stop
 case assign=>
  intro l' k x X K v A y;obtain⟨hk,J⟩:=List.getElem?_eq_some_iff.1 v;rw[lMp]at hk;rw[getElem_map]at J;subst J;have G:P.getD k ϰ=P[k]:=by rw[gDe,gEe hk];rfl
  have F:=λW' h1 h2 h3=>y _ W' h1 h2 h3 rfl;rw[G]at F;clear y G v;obtain⟨⟨⟨z1,z2,z3⟩,zl⟩,hz⟩:∃z,P[k]=z:=⟨_,rfl⟩;rw[hz]at F⊢;unfold hdV at F⊢;dsimp only at F⊢
  gi_wp2
  exact F X (KeepsFrom.refl _ _) (Aq.refl _ _) A
 case body=>
  intro l' i x T X v ak al ag ad;obtain⟨L,i2,i3⟩:=ag;obtain⟨A,J⟩:=List.getElem?_eq_some_iff.1 v;rw[lMp]at A;have G:P.getD i ϰ=P[i]:=by rw[gDe,gEe A];rfl
  rw[G]at ad;subst ad;have ab:=af.o P[i] (getElem_mem A);have C:Fw P (i+1)=Fw P i+(P[i]).2.length:=O9 A;have ah:Fw P (i+1)<=N:=by have:=AbC P (i+1);rw[MM]at E;have h2:=E.o;omega
  clear v J G;obtain⟨⟨⟨z1,z2,z3⟩,zl⟩,hz⟩:∃z,P[i]=z:=⟨_,rfl⟩;rw[hz]at ab C⊢;dsimp only at ab C⊢;obtain⟨ai,aj⟩:=ab;subst ai;obtain⟨q,hq⟩:∃q,zl.length=q:=⟨_,rfl⟩;rw[hq]at C aj;unfold hdV;dsimp only;rw[hq];obtain⟨O,hO⟩:∃O,Fw P i=O:=⟨_,rfl⟩;obtain⟨O2,Y⟩:∃O,Fw P (i+1)=O:=⟨_,rfl⟩;rw[hO]at L C;rw[Y]at C ah;have ac:ϛ (Fw P (i+1)=O2/\O2=O+q):=⟨Y,C⟩;clear hO Y hq;have am:IntKind.i64.wrap ((O:Int)+(q:Int))=(O:Int)+(q:Int):=by rw[IntKind.wrap_i64];omega
  gi_wp2
  refine⟨(KeepsOthers.setCell _ _ _).from _,AbB _ _ _,?_,by simpa using i2,i3.setCell ϟ _⟩;rw[ac.o.1,ac.o.2];have:=World.cell?_setCell_same X ⟨w+1,0,none⟩ (.int .i64 ((O:Int)+(q:Int))) L;rw[Int.natCast_add];exact this
 case done=>
  rintro D X hD ⟨L,i2,i3⟩ y;rw[lMp,E.o]at L
  gi_wp2
  refine⟨ϟ,.inl ⟨_,_,rfl,run_takeDeferred y,?_⟩⟩;exact⟨_,results_tmp rfl _ _ _,rfl,Cq i3 ϝ y _⟩
 case stop=>
  rintro D c X hD h y;exact h.elim
end bf
def Ω(B:bf.Buf)(X:bf.BX):Mmz (#[.int .i64 B.lim,.slice X.m.1.1 X.m.1.2.1 X.m.1.2.2,.slice X.ra X.rs.length X.rc]:Array Value):=⟨⟩
namespace bf
open vl
variable {P : Program} {md : Region.Mode} {ops : Array Oper} {Q : Exit -> Act -> World -> Prop} {S : World -> Prop} {fuel i n : Nat} {listed : Array Bool} {a : Act} {w : ϙ} {oi : Oper}
theorem Aer(i:Nat)(d:Option Tmp)(j:ops[i]? =some oi)
 (l:Region.noSelect ops=true) (g:Region.free md ops listed i=true) (k:(Region.ready md ops listed).contains i=true) (b:∀c a w,Q (.panic c) (a.put oi.dst undef) w->Q (.panic c) a w) (f:oi.dst=d)
 (m:Region.wanted oi (yielded ops a.tmps)=false) (e:S w) (h:wpAnyH P md ops Q S fuel (listed.setIfInBounds i true) (a.put d undef) w):wpAnyH P md ops Q S (fuel+1) listed a w:=
 wpAnyH_take j l g k b (Or.inr ⟨m,rfl⟩) e (by rw[f];exact h)
theorem Aes{v:Value}(i:Nat)(d:Option Tmp)(j:ops[i]? =some oi)
 (l:Region.noSelect ops=true) (g:Region.free md ops listed i=true) (k:(Region.ready md ops listed).contains i=true) (b:∀c a w,Q (.panic c) (a.put oi.dst v) w->Q (.panic c) a w) (f:oi.dst=d)
 (m:Region.wanted oi (yielded ops a.tmps)=true) (hy:∀w,S w->(execOp a.eval oi).run P w= .ok (.value v) w) (e:S w) (h:wpAnyH P md ops Q S fuel (listed.setIfInBounds i true) (a.put d v) w):wpAnyH P md ops Q S (fuel+1) listed a w:=
 wpAnyH_take j l g k b (Or.inl ⟨m,hy⟩) e (by rw[f];exact h)
def allB(n:Nat)(P:Nat->Bool):Bool:=(List.range n).all P
theorem A9{P:Nat->Bool}:allB n P=true↔ ∀i,i<n->P i=true:=by simp[allB]
theorem DW{P:Nat->Bool}(c:i<n)(h:P i=false):allB n P=false:=by
 rcases Bool.eq_false_or_eq_true (allB n P)with b|b
 ·have:=A9.1 b i c;rw[h]at this;cases this
 ·exact b
theorem PH(f:FuncId)(X:∀A w,(callFunc f A).run Tryz.prog w= .ok (.enter f A) w)(j:Array Value)(P:Nat->Bool)(a:Ϛ)(cap:Nat)(l:List EM)(w:ϙ)(V:l.length<=χ)(ha:Cm w a l)
 (H:∀i c,i<l.length->Ϝ w c->Calls Tryz.prog f (#[.int .i64 (i:Nat),(l.getD i ϰ).val]++j) c (θ c (.bool (P i)))):
 η 269 #[.slice a l.length cap,.func (.func f) #[] j] w (θ w (.bool (allB l.length P))):=by
 have T:ϛ (∀i c,i<l.length->Ϝ w c->CT f (#[.int .i64 (i:Nat),(l.getD i ϰ).val]++j) c (θ c (.bool (P i)))):=H;clear H;obtain⟨n,u⟩:∃n,l.length=n:=⟨_,rfl⟩;have y:=hqz u;rw[u]at V⊢;clear u;go_enter func269,ntmps269;go_wp2
 go_loopw [9] (λi wr=> ∃k:Nat,k<=n/\i= .int .i64 k/\Ϝ w wr/\∀i,i<k->P i=true) (λi _=>n - (intOf i).toNat)
 case atStart=>exact⟨0,Nat.zero_le _,rfl,bR,λi m=>absurd m (Nat.not_lt_zero i)⟩
 case round=>
  obtain⟨k,hk,rfl,d,C⟩:=hrel;have x:=hqz C;clear C;by_cases t:k<n
  ·obtain⟨b,o,e,K,L,N,O,R⟩:=ha k (by rw[y.o];exact t);subst e;have F:=cLz d K;have G:=cLz d L;have I:=cLz d N;have v:=cLz d O;have J:=cLz d R;clear K L N O R ha;have i1:(0:Int)<=(k:Int):=ϝ;have i2:(k:Int)<(n:Int):=ϝ;have g:ϛ (∀c,Ϝ wr c->CT f (#[.int .i64 (k:Nat),(l.getD k ϰ).val]++j) c (θ c (.bool (P k)))):=λc U=>T.o k c (by rw[y.o];exact t) (bT d U);obtain⟨⟨Y,et,es,⟨r1,r2,r3⟩,Z⟩,E⟩:∃z,l.getD k ϰ=z:=⟨_,rfl⟩;rw[E]at F G I v J g;unfold EM.val hdV at g;unfold hdV at v;dsimp only at F G I v J g;clear E;have D:=d.size
   cases hp:P k with
   |true=>
    rw[hp]at g;go_wp2_with (go_at_fn f;refine(g.o _ Ϩ).mono ?_;rintro e c ⟨rfl,r⟩;have s:=(d.alloc D _).trans (r.mono Ϣ));go_roundw
    case rel=>exact⟨k+1,ϝ,by go_num,s,λi m=>by
     rcases Nat.lt_succ_iff_lt_or_eq.1 m with h|h
     ·exact x.o i h
     ·rw[h];exact hp⟩
    case measure=>simp[intOf];omega
   |false=>
    have q:ϛ (allB n P=false):=DW t hp;rw[hp]at g;go_wp2_with (go_at_fn f;refine(g.o _ Ϩ).mono ?_;rintro e c ⟨rfl,r⟩;have s:=(d.alloc D _).trans (r.mono Ϣ));go_ret;exact⟨Aa q.o.symm,s⟩
  ·have q:ϛ (allB n P=true):=A9.2 (λi m=>x.o i ϝ);go_wp2;go_ret;exact⟨Aa q.o.symm,d⟩
theorem PI(d:FuncId)(I:∀y w,(callFunc d y).run Tryz.prog w= .ok (.enter d y) w)(j:Array Value)(P:Nat->Bool)(a:Ϛ)(cap:Nat)(l:List Hdr)(w:ϙ)(G:l.length<=χ)(ha:FA w a l)
 (H:∀i c,i<l.length->Ϝ w c->Calls Tryz.prog d (#[.int .i64 (i:Nat),hdV (l.getD i (none,0,0))]++j) c (θ c (.bool (P i)))):
 η 273 #[.slice a l.length cap,.func (.func d) #[] j] w (θ w (.bool (allB l.length P))):=by
 have F:ϛ (∀i c,i<l.length->Ϝ w c->CT d (#[.int .i64 (i:Nat),hdV (l.getD i (none,0,0))]++j) c (θ c (.bool (P i)))):=H;clear H;obtain⟨n,t⟩:∃n,l.length=n:=⟨_,rfl⟩;have x:=hqz t;rw[t]at G⊢;clear t;go_enter func273,ntmps273;go_wp2
 go_loopw [9] (λi wr=> ∃k:Nat,k<=n/\i= .int .i64 k/\Ϝ w wr/\∀i,i<k->P i=true) (λi _=>n - (intOf i).toNat)
 case atStart=>exact⟨0,Nat.zero_le _,rfl,bR,λi m=>absurd m (Nat.not_lt_zero i)⟩
 case round=>
  obtain⟨k,J,rfl,g,A⟩:=hrel;have v:=hqz A;clear A;by_cases s:k<n
  ·obtain⟨b,o,e,E⟩:=ha k (by rw[x.o];exact s);subst e;have u:=cLz g E;clear E ha;have K:(0:Int)<=(k:Int):=ϝ;have L:(k:Int)<(n:Int):=ϝ;have f:ϛ (CT d (#[.int .i64 (k:Nat),hdV (l.getD k (none,0,0))]++j) wr (θ wr (.bool (P k)))):=F.o k wr (by rw[x.o];exact s) g;obtain⟨⟨N,O,R⟩,D⟩:∃z,l.getD k (none,0,0)=z:=⟨_,rfl⟩;rw[D]at u f;unfold hdV at u f;dsimp only at u f;clear D;have C:=g.size
   cases hp:P k with
   |true=>
    rw[hp]at f;go_wp2_with (go_at_fn d;refine f.o.mono ?_;rintro e c ⟨rfl,r⟩);go_roundw
    case rel=>exact⟨k+1,ϝ,by go_num,g.trans (r.mono C),λi m=>by
     rcases Nat.lt_succ_iff_lt_or_eq.1 m with h|h
     ·exact v.o i h
     ·rw[h];exact hp⟩
    case measure=>simp[intOf];omega
   |false=>
    have q:ϛ (allB n P=false):=DW s hp;rw[hp]at f;go_wp2_with (go_at_fn d;refine f.o.mono ?_;rintro e c ⟨rfl,r⟩);go_ret;exact⟨Aa q.o.symm,g.trans (r.mono C)⟩
  ·have q:ϛ (allB n P=true):=A9.2 (λi m=>v.o i ϝ);go_wp2;go_ret;exact⟨Aa q.o.symm,g⟩
theorem Tt(i:Int)(h:Hdr)(w:ϙ):η 274 #[.int .i64 i,hdV h] w (θ w (.bool (decide (0<h.2.1)))):=by
 obtain⟨e,c,f⟩:=h;unfold hdV;dsimp only;by_cases d:0<c
 ·have b:ϛ (decide (0<c)=true):=decide_eq_true d;go_enter func274,ntmps274;go_wp2;go_ret;exact⟨Aa (by rw[b.o]),bR⟩
 ·have b:ϛ (decide (0<c)=false):=decide_eq_false d;go_enter func274,ntmps274;go_wp2;go_ret;exact⟨Aa (by rw[b.o]),bR⟩
noncomputable def Fp(l:List Ent)(i:Nat):Bool:=F8 (l.getD i ϰ)&&(decide (i=0)||decide (ltP (l.getD (i - 1) ϰ) (l.getD i ϰ)))
theorem WU{l:List Ent}(h:F8 (l.getD i ϰ)=false):Fp l i=false:=by unfold Fp;rw[h];rfl
theorem Tu{l:List Ent}(h:F8 (l.getD 0 ϰ)=true):Fp l 0=true:=by unfold Fp;rw[h];rfl
theorem Tv{l:List Ent}(h:F8 (l.getD i ϰ)=true)(b:i≠0):Fp l i=decide (ltP (l.getD (i - 1) ϰ) (l.getD i ϰ)):=by
 unfold Fp;rw[h,decide_eq_false b];rfl
theorem WV(a:Ϛ)(cap:Nat)(es:List EM)(l:List Ent)(i:Nat)(H:Nat)(w:ϙ)(hi:i<l.length)(hl:l.length<=χ)(Z:Δ w H 0 (.slice a l.length cap))(ha:Cm w a es)(hr:ERs w es l)(ah:∀x∈l,wfE x):
 η 270 #[.int .i64 i,(es.getD i ϰ).val,μ H] w (θ w (.bool (Fp l i))):=by
 have ag:l.getD i ϰ∈l:=by simp[gDe,hi]
 have t:ϛ (∀y,Ϝ w y->CT 271 #[(es.getD i ϰ).val] y (θ y (.bool (F8 (l.getD i ϰ))))):=λy hb=>Hq _ _ y ((hr.2 i hi).below hb) (ah _ ag);have lP:H<w.heap.size:=bLt _ _ Z;obtain⟨n,hn⟩:=nM l.length;rw[hn]at Z hl hi;have U:=hqz hn;have G:ϛ (Cm w a es/\ERs w es l):=⟨ha,hr⟩;obtain⟨e,he⟩:=nM (es.getD i ϰ);have aj:=hqz he;rw[he]at t⊢;clear hn ha hr ah ag he;obtain⟨R,hR⟩:=nM (Fp l i);have X:=hqz hR;rw[hR];clear hR
 cases hf:F8 (l.getD i ϰ)with
 |false=>
  have T:ϛ (false=R):=by show _=_;rw[<-X.o,WU hf]
  rw[hf]at t;obtain⟨k,r,q,⟨f,g,h⟩,m⟩:=e;unfold EM.val hdV at t⊢;dsimp only at t⊢;have d:Ϝ w (ξ w (ζ k r q f g h m) 166):=Ϩ;go_enter func270,ntmps270;go_wp2;refine wp_region_held_drew (S:=(λw'=>ώ w' w (.string k) (.int .i64 r) (.int .i64 q) (.slice f g h) (.bool m))) Ϡ ⟨ϡ,ϡ,ϡ,ϡ,ϡ⟩ (λc=>?_);refine tkz 0 6 c ?_;refine rD 1 λK D=>?_;go_simp;refine(t.o _ d.drew).mono ?_;rintro e w2 ⟨rfl,s⟩;go_wp2_with fail;refine D.out _ _ ⟨cLz s c.1,cLz s c.2.1,cLz s c.2.2.1,cLz s c.2.2.2.1,cLz s c.2.2.2.2⟩ (λc=>?_);clear D K
  try simp only[Act.put,sI,sZ,sS]
  refine tkz 2 8 c ?_;refine sk 3 9 c ?_;refine sk 4 10 c ?_;refine sk 5 11 c ?_;refine sk 6 12 c ?_;refine sk 7 13 c ?_;refine sk 8 14 c ?_;refine sk 9 15 c ?_;refine sk 10 16 c ?_;refine sk 11 17 c ?_;refine sk 12 18 c ?_;refine sk 13 19 c ?_;refine sk 14 20 c ?_;refine tkz 15 21 c ?_;refine tkz 16 5 c ?_;refine wpAnyH_done Ϡ ?_ _;go_wp2;go_ret;exact⟨Aa T.o,d.drew.trans (s.mono d.drew.size)⟩
 |true=>
  rw[hf]at t;by_cases Y:i=0
  ·subst Y;have T:ϛ (true=R):=by show _=_;rw[<-X.o,Tu hf]
   obtain⟨k,r,q,⟨f,g,h⟩,m⟩:=e;unfold EM.val hdV at t⊢;dsimp only at t⊢;have d:Ϝ w (ξ w (ζ k r q f g h m) 166):=Ϩ;go_enter func270,ntmps270;go_wp2;refine wp_region_held_drew (S:=(λw'=>ώ w' w (.string k) (.int .i64 r) (.int .i64 q) (.slice f g h) (.bool m))) Ϡ ⟨ϡ,ϡ,ϡ,ϡ,ϡ⟩ (λc=>?_);refine tkz 0 6 c ?_;refine rD 1 λK D=>?_;go_simp;refine(t.o _ d.drew).mono ?_;rintro e w2 ⟨rfl,s⟩;go_wp2_with fail;refine D.out _ _ ⟨cLz s c.1,cLz s c.2.1,cLz s c.2.2.1,cLz s c.2.2.2.1,cLz s c.2.2.2.2⟩ (λc=>?_);clear D K
   try simp only[Act.put,sI,sZ,sS]
   refine tkz 2 8 c ?_;refine tkz 3 9 c ?_;refine tkz 4 10 c ?_;refine tkz 5 11 c ?_;refine sk 6 12 c ?_;refine sk 7 13 c ?_;refine sk 8 14 c ?_;refine sk 9 15 c ?_;refine sk 10 16 c ?_;refine sk 11 17 c ?_;refine sk 12 18 c ?_;refine sk 13 19 c ?_;refine tkz 14 20 c ?_;refine tkz 15 21 c ?_;refine tkz 16 5 c ?_;refine wpAnyH_done Ϡ ?_ _;go_wp2;go_ret;exact⟨Aa T.o,d.drew.trans (s.mono d.drew.size)⟩
  ·obtain⟨b,o,ea,E,L,N,F,O⟩:=G.o.1 (i - 1) (by rw[G.o.2.1,U.o];omega);have A:ϛ (∀y,CT 272 #[(es.getD (i - 1) ϰ).val,e.val] y (θ y (.int .i64 (Ge (l.getD (i - 1) ϰ) (l.getD i ϰ))))):=λy=>by
    have h1:=G.o.2.2 (i - 1) (by rw[U.o];omega);have h2:=G.o.2.2 i (by rw[U.o];omega);rw[aj.o]at h2;have:=Rl (es.getD (i - 1) ϰ) e y;rwa[Rk h1 h2]at this
   have aa:decide (Ge (l.getD (i - 1) ϰ) (l.getD i ϰ)<0)=R:=by
    rw[<-X.o,Tv hf Y];exact decide_eq_decide.2 Rj
   obtain⟨C,hC⟩:=nM (Ge (l.getD (i - 1) ϰ) (l.getD i ϰ));rw[hC]at A aa;subst ea;obtain⟨⟨k2,t2,s2,⟨a2,b2,c2⟩,m2⟩,hz⟩:∃z,es.getD (i - 1) ϰ=z:=⟨_,rfl⟩;rw[hz]at E L N F O A;obtain⟨j,hj⟩:∃j,i=j+1:=⟨i - 1,ϝ⟩;subst hj;have af:j+1 - 1=j:=ϝ;rw[af]at E L N F O;obtain⟨k,r,q,⟨f,g,h⟩,m⟩:=e;unfold EM.val hdV at t A⊢;unfold hdV at F;dsimp only at t A E L N F O⊢;have ai:=hqz aa;obtain⟨I,J⟩:∃I:Int,((j+1:Nat):Int)=I:=⟨_,rfl⟩;have am:IntKind.i64.wrap (I - 1)=(j:Int):=by rw[<-J,IntKind.wrap_i64];omega
   have an:(I==0)=false:=by rw[<-J];simp;omega
   rw[J];have i1:(0:Int)<=(j:Int):=ϝ;have i2:(j:Int)<(n:Int):=ϝ;have lb:b<w.heap.size:=bLt _ _ E;clear hz hC aa Y af J;have d:Ϝ w (ξ w (ζ k r q f g h m) 166):=Ϩ;go_enter func270,ntmps270;go_wp2;have b0:Δ (ξ w (ζ k r q f g h m) 166) w 0 (.string k):=ϡ;have ab:Δ (ξ w (ζ k r q f g h m) 166) w 1 (.int .i64 r):=ϡ;have ac:Δ (ξ w (ζ k r q f g h m) 166) w 2 (.int .i64 q):=ϡ;have ad:Δ (ξ w (ζ k r q f g h m) 166) w 3 (.slice f g h):=ϡ;have ae:Δ (ξ w (ζ k r q f g h m) 166) w 4 (.bool m):=ϡ;have p0:=cLz d Z;have y1:=cLz d E;have y2:=cLz d L;have y3:=cLz d N;have y4:=cLz d F;have y5:=cLz d O;generalize w.alloc (.cells (ζ k r q f g h m) 166)=V at *
   go_region_held3 (λw'=>ϐ w' w (.string k) (.int .i64 r) (.int .i64 q) (.slice f g h) (.bool m) (Δ w' H 0 (.slice (some ⟨b,o,none⟩) n cap)/\ϕ w' b (o+j * 5) (.string k2) (.int .i64 t2) (.int .i64 s2) (.slice a2 b2 c2) (.bool m2)))
    (first|go_keep|exact⟨cLz u b0,cLz u ab,cLz u ac,cLz u ad,cLz u ae,cLz u p0,cLz u y1,cLz u y2,cLz u y3,cLz u y4,cLz u y5⟩|exact⟨cLz v b0,cLz v ab,cLz v ac,cLz v ad,cLz v ae,cLz v p0,cLz v y1,cLz v y2,cLz v y3,cLz v y4,cLz v y5⟩)
    (first
     |(go_at_call 271;refine(t.o V.drew d.drew).mono ?_;rintro e wA ⟨rfl,ak⟩;have u:Ϝ V wA:=bR.drew.trans ak)
     |(go_at_call 272;refine(A.o wA).mono ?_;rintro e wF ⟨rfl,al⟩;have v:Ϝ V wF:=bT u al))
   all_goals
    go_wp2;go_ret;exact⟨Aa ai.o,bT d v⟩
end bf
namespace bf
variable {W : ϙ} {M : Nat}
abbrev Plc:=ByteArray×Int×Int
def BC(p:Plc):Value:=.agg #[.string p.1,.int .i64 p.2.1,.int .i64 p.2.2]
theorem bytes_beq(a b:ByteArray):(a.toList==b.toList)=decide (a=b):=by
 by_cases h:a=b
 ·subst h;simp
 ·rw[decide_eq_false h,beq_eq_false_iff_ne];intro e;exact h (ByteArray.ext (Array.ext' (by rwa[Lib.toList_data,Lib.toList_data]at e)))
theorem Tw(a b:Plc)(w:ϙ):(Op.equal 340 (BC a) (BC b)).run Tryz.prog w= .ok (decide (a=b)) w:=by
 obtain⟨c,k,g⟩:=a;obtain⟨d,l,j⟩:=b;show(Op.equalIn 10000 340 (BC (c,k,g)) (BC (d,l,j))).run Tryz.prog w=_;unfold BC;have h:(binOp .eql 340 (.agg #[.string c,.int .i64 k,.int .i64 g]) (.agg #[.string d,.int .i64 l,.int .i64 j])).run Tryz.prog w= .ok (.bool (decide ((c,k,g)=(d,l,j)))) w:=by
  by_cases f:c.toList=d.toList
  ·have o:c=d:=by have:=bytes_beq c d;rw[f]at this;simpa using this.symm
   subst o;by_cases m:k=l
   ·subst m;by_cases q:g=j
    ·subst q;go_simp
    ·have s:(g==j)=false:=by simpa using q
     go_simp
   ·have r:(k==l)=false:=by simpa using m
    go_simp
  ·have o:c≠d:=λe=>f (by rw[e]);go_simp
 rw[run_eql_struct]at h
 cases hh:(Op.equalIn 10000 340 (.agg #[.string c,.int .i64 k,.int .i64 g]) (.agg #[.string d,.int .i64 l,.int .i64 j])).run Tryz.prog w with
 |ok b w'=>
  rw[hh]at h;simp only[Result.andThen]at h;injection h with f m
  injection f with f
  rw[f,m]
 |_=>rw[hh]at h;simp[Result.andThen]at h
structure wfP(a:Plc):Prop where
 key:a.1.size<=maxLen
 time: -9223372036854775808<=a.2.1/\a.2.1<=9223372036854775807
 seq: -9223372036854775808<=a.2.2/\a.2.2<=9223372036854775807
theorem MI{n:Int}(h: -9223372036854775808<=n/\n<=9223372036854775807):(Lit.int .i64 n).wf=true:=by
 show(decide (IntKind.i64.min<=n)&&decide (n<=IntKind.i64.max))=true;have b:IntKind.i64.min= -9223372036854775808:=Ϟ;have c:IntKind.i64.max=9223372036854775807:=Ϟ;rw[b,c,decide_eq_true h.1,decide_eq_true h.2];rfl
theorem Tx(a b c:Value):Tryz.prog.keyLits 3 340 [a,b,c]=([Tryz.prog.keyLits 2 9 [a],Tryz.prog.keyLits 2 3 [b],Tryz.prog.keyLits 2 3 [c]].mapM id).map List.flatten:=Ϡ
theorem Z2(k:ByteArray)(h:k.size<=maxLen):Tryz.prog.keyLits 2 9 [.string k]=some [.string k.data.toList]:=by
 have e:Tryz.prog.keyLits 2 9 [.string k]=if k.size<=maxLen then some [.string k.data.toList]else none:=by
  unfold Program.keyLits;rw[underlying9]
 rw[e,if_pos h]
theorem Rp(n:Int)(h:(Lit.int .i64 n).wf=true):Tryz.prog.keyLits 2 3 [.int .i64 n]=some [.int .i64 n]:=by
 have e:Tryz.prog.keyLits 2 3 [.int .i64 n]=if IntKind.i64=IntKind.i64/\(Lit.int .i64 n).wf=true then some [.int .i64 n]else none:=by
  unfold Program.keyLits;rw[underlying3]
 rw[e,if_pos ⟨rfl,h⟩]
theorem Ip(b:Bool)(a:Plc)(w:ϙ)(h:wfP a):(Instr.checkKey b 10000 340 (BC a)).run Tryz.prog w= .ok () w:=by
 have:=run_checkKey_deep (P:=Tryz.prog) b 9997 3 340 Ϡ w 3 (BC a) [.string a.1.data.toList,.int .i64 a.2.1,.int .i64 a.2.2] Ϡ (by
  show Tryz.prog.keyLits 3 340 [.string a.1,.int .i64 a.2.1,.int .i64 a.2.2]=_;rw[Tx,Z2 _ h.key,Rp _ (MI h.time),Rp _ (MI h.seq)];rfl)
 exact this
section
variable {p : Plc} {w : ϙ}
theorem La:∀(es:List MapEntry) (i:Nat),(∀e∈es,∃q,e.key=BC q/\q≠p)->(Instr.findAsking 340 (BC p) es i).run Tryz.prog w= .ok none w
 |[],i,_=>by simp[Instr.findAsking]
 |e::es,i,h=>by
  obtain⟨q,d,c⟩:=h e (mem_cons_self ..);have g:=La es (i+1) (λx f=>h x (mem_cons_of_mem _ f));have b:decide (p=q)=false:=decide_eq_false (λh=>c h.symm);simp only[Instr.findAsking,Sem.run_bind,d,Tw,Result.andThen_ok,b,Bool.false_eq_true,if_false];exact g
theorem Lb{e:MapEntry}(b:e.key=BC p)(B:List MapEntry):∀(A:List MapEntry) (i:Nat),(∀e∈A,∃q,e.key=BC q/\q≠p)->(Instr.findAsking 340 (BC p) (A++e::B) i).run Tryz.prog w= .ok (some (i+A.length,e.val)) w
 |[],i,_=>by
  simp only[nil_append,Instr.findAsking,Sem.run_bind,b,Tw,Result.andThen_ok,decide_true,if_true];simp
 |x::A,i,h=>by
  obtain⟨q,f,d⟩:=h x (mem_cons_self ..);have j:=Lb b B A (i+1) (λx g=>h x (mem_cons_of_mem _ g));have c:decide (p=q)=false:=decide_eq_false (λh=>d h.symm);simp only[cons_append,Instr.findAsking,Sem.run_bind,f,Tw,Result.andThen_ok,c,Bool.false_eq_true,if_false];rw[j,length_cons]
  congr 3
  omega
theorem JO(es:List MapEntry):(Instr.findKey 340 (BC p) es).run Tryz.prog w=(Instr.findAsking 340 (BC p) es 0).run Tryz.prog w:=by
 unfold Instr.findKey;simp only[Sem.run_bind,run_underlying underlying340,Result.andThen_ok]
 cases es with
 |nil=>simp[Instr.findNow,Instr.findAsking]
 |cons e es=>
  have h:∀b,Instr.findNow (.struct b) (BC p) (e::es) 0=none:=λb=>by
   simp[Instr.findNow,Instr.sameNow]
  rw[h]
variable {M clock : Nat} {es : Array MapEntry}
theorem JP(h:w.heap[M]? =some (.map es clock)):(getObj M).run Tryz.prog w= .ok (.map es clock) w:=by simp[getObj,Sem.run,h]
theorem PK(b:Obj)(h:w.heap[M]? =some (.map es clock)):(setObj M b).run Tryz.prog w= .ok () (w.putObj M b):=by simp[setObj,Sem.run,h,World.putObj]
theorem AcM(w:ϙ):(zeroValue 3).run Tryz.prog w= .ok (.int .i64 0) w:=Tryz.zeroValue3 w
theorem WW(b:w.heap[M]? =some (.map es clock))(d:wfP p)(c:∀e∈es.toList,∃q,e.key=BC q/\q≠p):
 (Instr.lookup 338 (.map (some M)) (BC p) false).run Tryz.prog w= .ok (.int .i64 0) w:=by
 unfold Instr.lookup;simp only[Sem.run_bind,run_underlying underlying338,Result.andThen_ok,JP b,Sem.run_pure,Ip _ p w d,JO,La _ _ c,AcM,Bool.false_eq_true,if_false]
theorem Gf{A B:List MapEntry}{e:MapEntry}(c:w.heap[M]? =some (.map (A++e::B).toArray clock))(f:wfP p)(d:∀e∈A,∃q,e.key=BC q/\q≠p)(b:e.key=BC p):
 (Instr.lookup 338 (.map (some M)) (BC p) false).run Tryz.prog w= .ok e.val w:=by
 unfold Instr.lookup;simp only[Sem.run_bind,run_underlying underlying338,Result.andThen_ok,JP c,Sem.run_pure,Ip _ p w f,JO,Lb b B A 0 d,Bool.false_eq_true,if_false]
theorem Ty(b:w.heap[M]? =some (.map es clock))(d:wfP p)(c:∀e∈es.toList,∃q,e.key=BC q/\q≠p):
 (Instr.mapEntry 338 (.map (some M)) (BC p)).run Tryz.prog w= .ok (.tuple #[.int .i64 0,.int .i64 clock]) (w.putObj M (.map (es.push ⟨BC p,.int .i64 0,clock⟩) (clock+1))):=by
 unfold Instr.mapEntry;simp only[Sem.run_bind,run_underlying underlying338,Result.andThen_ok,JP b,Sem.run_pure,Ip _ p w d,JO,La _ _ c,AcM,PK _ b,goInt]
theorem WX:(Instr.sameBits 10000 (BC p) (BC p))=true:=by
 have b:(p.1==p.1)=true:=by
  obtain⟨⟨⟨x⟩⟩,t⟩:=p;show((⟨x⟩:Array UInt8)==⟨x⟩)=true;simp
 unfold BC;simp[Instr.sameBits,b]
theorem Tz{A B:List MapEntry}{e:MapEntry}(c:w.heap[M]? =some (.map (A++e::B).toArray clock))(j:wfP p)(h:∀e∈A,∃q,e.key=BC q/\q≠p)(b:e.key=BC p):
 (Instr.mapEntry 338 (.map (some M)) (BC p)).run Tryz.prog w= .ok (.tuple #[e.val,.int .i64 e.born]) (w.putObj M (.map (A++e::B).toArray clock)):=by
 have d:(A++e::B).toArray[0+A.length]? =some e:=ϟ;have f:((A++e::B).toArray.modify (0+A.length) λx=>{x with key:=BC p})=(A++e::B).toArray:=by
  refine Array.ext ϟ (λi k l=>?_);rw[Array.getElem_modify];split
  ·rename_i g;subst g;have:(A++e::B).toArray[0+A.length]=e:=ϟ;rw[this,<-b]
  ·rfl
 unfold Instr.mapEntry;simp only[Sem.run_bind,run_underlying underlying338,Result.andThen_ok,JP c,Sem.run_pure,Ip _ p w j,JO,Lb b B A 0 h,d,Option.map_some,Option.getD_some,b,Instr.keyThatStays,WX,if_true,f,PK _ c,goInt]
theorem Rq{i:Nat}{v:Value}{b:Int}(c:w.heap[M]? =some (.map es clock))(d:es.findIdx? (λe=>(e.born:Int)==b)=some i):
 (Instr.entryStore 338 (.map (some M)) (.int .i64 b) v).run Tryz.prog w= .ok () (w.putObj M (.map (es.modify i λe=>{e with val:=v}) clock)):=by
 unfold Instr.entryStore;simp only[Sem.run_bind,Result.andThen_ok,JP c,Sem.run_pure,asInt,asIntOf,d,PK _ c]
end
def Bv:Nat->List Plc->List MapEntry
 |_,[]=>[]
 |i,p::ps=>⟨BC p,.int .i64 1,i⟩::Bv (i+1) ps
theorem Jf(i:Nat)(b c:List Plc):Bv i (b++c)=Bv i b++Bv (i+b.length) c:=by
 induction b generalizing i with
 |nil=>rfl
 |cons p b ih=>rw[cons_append,Bv,ih,Bv,length_cons,show i+(b.length+1)=i+1+b.length by omega];rfl
theorem T0(i:Nat)(b:List Plc):(Bv i b).length=b.length:=by
 induction b generalizing i with
 |nil=>rfl
 |cons p b ih=>rw[Bv,length_cons,ih,length_cons]
theorem Fq{i:Nat}{b:List Plc}{e:MapEntry}(h:e∈Bv i b):(∃q,q∈b/\e.key=BC q)/\i<=e.born/\e.born<i+b.length:=by
 induction b generalizing i with
 |nil=>cases h
 |cons p b ih=>
  rw[Bv]at h;rcases mem_cons.1 h with rfl|h
  ·exact⟨⟨p,mem_cons_self ..,rfl⟩,Nat.le_refl _,ϟ⟩
  ·obtain⟨⟨q,d,c⟩,f,g⟩:=ih h;exact⟨⟨q,mem_cons_of_mem _ d,c⟩,ϝ,by rw[length_cons];omega⟩
def Df(W:World)(M:Nat)(ps:List Plc):Prop:=W.heap[M]? =some (.map (Bv 0 ps).toArray ps.length)
theorem Gg{b:List Plc}(h:Df W M b):M<W.heap.size:=(Array.getElem?_eq_some_iff.1 h).1
theorem find_born{A B:List MapEntry}{e:MapEntry}{n:Nat}(c:∀x∈A,x.born≠n)(d:e.born=n):(A++e::B).toArray.findIdx? (λx=>(x.born:Int)==(n:Int))=some A.length:=by
 rw[findIdx?_toArray,findIdx?_append];have b:A.findIdx? (λx=>(x.born:Int)==(n:Int))=none:=by
  rw[findIdx?_eq_none_iff];intro x f;have:=c x f;rw[beq_eq_false_iff_ne];omega
 rw[b];simp[findIdx?_cons,d]
theorem O8{A B:List MapEntry}{e:MapEntry}(f:MapEntry->MapEntry):(A++e::B).toArray.modify A.length f=(A++f e::B).toArray:=by
 refine Array.ext ϟ (λi c d=>?_);rw[Array.getElem_modify];simp only[getElem_toArray];split
 ·rename_i b;subst b;simp
 ·rename_i b;rcases Nat.lt_or_ge i A.length with h|h
  ·rw[getElem_append_left h,getElem_append_left h]
  ·rw[getElem_append_right h,getElem_append_right h];have:i - A.length=(i - A.length - 1)+1:=ϝ;simp only[getElem_cons];rw[dif_neg ϝ,dif_neg ϝ]
theorem Rr{b:List Plc}{p:Plc}(h:p∈b):∃A B,b=A++p::B/\p ∉ A:=by
 induction b with
 |nil=>cases h
 |cons q b ih=>
  by_cases e:q=p
  ·subst e;exact⟨[],b,rfl,ϟ⟩
  ·obtain⟨A,B,c,d⟩:=ih ((mem_cons.1 h).resolve_left (λk=>e k.symm));exact⟨q::A,B,by rw[c];rfl,λk=>(mem_cons.1 k).elim (λk=>e k.symm) d⟩
theorem AbD{b:List Plc}{p:Plc}(m:Df W M b)(s:wfP p)(A:p ∉ b):∃c d,
 (Instr.lookup 338 (.map (some M)) (BC p) false).run Tryz.prog W= .ok (.int .i64 0) W/\
 (Instr.mapEntry 338 (.map (some M)) (BC p)).run Tryz.prog W= .ok (.tuple #[.int .i64 0,.int .i64 b.length]) c/\
 (Instr.lookup 338 (.map (some M)) (BC p) false).run Tryz.prog c= .ok (.int .i64 0) c/\
 (Instr.entryStore 338 (.map (some M)) (.int .i64 b.length) (.int .i64 1)).run Tryz.prog c= .ok () d/\
 Df d M (b++[p])/\W.grownBy d (some M):=by
 have r:∀e∈Bv 0 b,∃q,e.key=BC q/\q≠p:=λe z=>by
  obtain⟨⟨q,C,f⟩,_⟩:=Fq z;exact⟨q,f,λh=>A (by rw[<-h];exact C)⟩
 have u:=WW m s (by simpa using r);have t:=Ty m s (by simpa using r);obtain⟨c,j⟩:=nM (W.putObj M (.map ((Bv 0 b).toArray.push ⟨BC p,.int .i64 0,b.length⟩) (b.length+1)));rw[j]at t;have o:c.heap[M]? =some (.map (Bv 0 b++(⟨BC p,.int .i64 0,b.length⟩:MapEntry)::[]).toArray (b.length+1)):=by
  rw[<-j,World.putObj_heap_same (Gg m)];simp
 have y:=Gf o s r rfl;have g:=Rq (v:=.int .i64 1) o (find_born (n:=b.length) (λx D=>by have:=(Fq D).2.2;omega) rfl);rw[O8]at g;obtain⟨d,l⟩:=nM (c.putObj M (.map (Bv 0 b++{(⟨BC p,.int .i64 0,b.length⟩:MapEntry)with val:=.int .i64 1}::[]).toArray (b.length+1)));rw[l]at g;refine⟨c,d,u,t,y,g,?_,?_⟩
 ·show d.heap[M]? =_;rw[<-l,World.putObj_heap_same (Array.getElem?_eq_some_iff.1 o).1,Jf,lAp];simp[Bv]
 ·rw[<-l,<-j];exact⟨rfl,rfl,rfl,ϟ,λk _ f=>(World.putObj_heap_other (λe=>f (by rw[e]))).trans (World.putObj_heap_other (λe=>f (by rw[e])))⟩
theorem AbE{t:List Plc}{p:Plc}(y:Df W M t)(l:wfP p)(I:p∈t):∃(b:Nat) (c d:ϙ),
 (Instr.lookup 338 (.map (some M)) (BC p) false).run Tryz.prog W= .ok (.int .i64 1) W/\
 (Instr.mapEntry 338 (.map (some M)) (BC p)).run Tryz.prog W= .ok (.tuple #[.int .i64 1,.int .i64 b]) c/\
 (Instr.lookup 338 (.map (some M)) (BC p) false).run Tryz.prog c= .ok (.int .i64 1) c/\
 (Instr.entryStore 338 (.map (some M)) (.int .i64 b) (.int .i64 2)).run Tryz.prog c= .ok () d/\
 (∀f:World,f.heap[M]? =d.heap[M]? ->(Instr.lookup 338 (.map (some M)) (BC p) false).run Tryz.prog f= .ok (.int .i64 2) f)/\W.grownBy d (some M):=by
 obtain⟨A,B,rfl,F⟩:∃A B,t=A++p::B/\p ∉ A:=Rr I;have z:W.heap[M]? =some (.map (Bv 0 A++(⟨BC p,.int .i64 1,A.length⟩:MapEntry)::Bv (A.length+1) B).toArray (A++p::B).length):=by
  have:=y;unfold Df at this;rw[Jf,Nat.zero_add,Bv]at this;exact this
 have j:∀e∈Bv 0 A,∃q,e.key=BC q/\q≠p:=λe G=>by
  obtain⟨⟨q,J,g⟩,_⟩:=Fq G;exact⟨q,g,λh=>F (by rw[<-h];exact J)⟩
 have C:=Gf z l j rfl;have u:=Tz z l j rfl;obtain⟨c,o⟩:=nM (W.putObj M (.map (Bv 0 A++(⟨BC p,.int .i64 1,A.length⟩:MapEntry)::Bv (A.length+1) B).toArray (A++p::B).length));rw[o]at u;have s:c.heap[M]? =some (.map (Bv 0 A++(⟨BC p,.int .i64 1,A.length⟩:MapEntry)::Bv (A.length+1) B).toArray (A++p::B).length):=by
  rw[<-o,World.putObj_heap_same (Gg y)]
 have D:=Gf s l j rfl;have L:(Bv 0 A).length=A.length:=T0 0 A;have m:=Rq (v:=.int .i64 2) s (find_born (n:=A.length) (λx K=>by have:=(Fq K).2.2;omega) rfl);rw[O8]at m;obtain⟨d,r⟩:=nM (c.putObj M (.map (Bv 0 A++{(⟨BC p,.int .i64 1,A.length⟩:MapEntry)with val:=.int .i64 2}::Bv (A.length+1) B).toArray (A++p::B).length));rw[r]at m;refine⟨A.length,c,d,C,u,D,m,λf E=>?_,?_⟩
 ·have H:f.heap[M]? =some (.map (Bv 0 A++{(⟨BC p,.int .i64 1,A.length⟩:MapEntry)with val:=.int .i64 2}::Bv (A.length+1) B).toArray (A++p::B).length):=by
   rw[E,<-r,World.putObj_heap_same (Array.getElem?_eq_some_iff.1 s).1]
  exact Gf H l j rfl
 ·rw[<-r,<-o];exact⟨rfl,rfl,rfl,ϟ,λk _ g=>(World.putObj_heap_other (λe=>g (by rw[e]))).trans (World.putObj_heap_other (λe=>g (by rw[e])))⟩
theorem Z3{c:List Plc}{p:Plc}(b:Df W M (c++[p]))(k:wfP p)(g:p ∉ c):(Instr.lookup 338 (.map (some M)) (BC p) false).run Tryz.prog W= .ok (.int .i64 1) W:=by
 have j:∀e∈Bv 0 c,∃q,e.key=BC q/\q≠p:=λe d=>by
  obtain⟨⟨q,l,f⟩,_⟩:=Fq d;exact⟨q,f,λh=>g (by rw[<-h];exact l)⟩
 unfold Df at b;rw[Jf]at b;exact Gf b k j rfl
end bf
end Go.Proofs.YtfkihidbnfkbaaaGreatDoor
