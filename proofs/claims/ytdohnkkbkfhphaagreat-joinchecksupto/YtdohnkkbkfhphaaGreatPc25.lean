import Derived.Test.YtdohnkkbkfhphaaGreatPc24
import Derived.Laws.AppendOwnNone
set_option linter.all false
set_option maxHeartbeats 8000000
set_option maxRecDepth 100000
namespace Go.Proofs.YtdohnkkbkfhphaaGreat
open Go.Proofs.Tryz
namespace ch
open Go.ChangeShapes Go.WideShapes Go.ChangeAt Go.RowKit Go.Maps Go.WideMaps
open vl
variable {l : List Chg} {kv : KV} {k : List UInt8} {n : Int} {r : List Cel} {B b nn : Nat} {out v : List Cnt} {w : World} {ad : Option Addr}
def keyed(kv:KV):Prop:=∀p∈kv,∃r,rowOk r/\encR r=p.1
structure Er(kv:KV):Prop where
 up:rising kv
 len:kv.length<=4096
 cnt:∀p∈kv,1<=p.2/\p.2<=1073741824
 key:keyed kv
theorem before_total:∀(a b:List UInt8),bytesBefore a b=false->a≠b->bytesBefore b a=true
 |[],[],_,h=>absurd rfl h
 |[],_::_,h,_=>by simp[bytesBefore]at h
 |_::_,[],_,_=>by simp[bytesBefore]
 |a::x,b::y,h,hne=>by
  rw[bytesBefore]at h⊢
  by_cases e:a=b
  ·subst e
   have hx:x≠y:=fun e=>hne (by rw[e])
   have h1:bytesBefore x y=false:=by simpa using h
   simp[before_total x y h1 hx]
  ·have h1:¬a<b:=by
    intro hl
    simp[hl]at h
   have h2:b<a:=by
    rw[UInt8.lt_iff_toNat_lt]at h1⊢
    have:a.toNat≠b.toNat:=fun h=>e (UInt8.toNat_inj.1 h)
    omega
   simp[h2]
theorem mem_ins(x:List UInt8×Int)(l:KV):∀p,p∈insK x l↔p=x\/p∈l:=by
 induction l with
 |nil=>intro p;simp[insK]
 |cons y r ih=>
  intro p
  rw[insK]
  split
  ·simp
  ·rw[List.mem_cons,ih p,List.mem_cons]
   constructor
   ·rintro (h|h|h)
    ·exact .inr (.inl h)
    ·exact .inl h
    ·exact .inr (.inr h)
   ·rintro (h|h|h)
    ·exact .inr (.inl h)
    ·exact .inl h
    ·exact .inr (.inr h)
theorem Xw(x:List UInt8×Int)(l:KV):(insK x l).length=l.length+1:=by
 induction l with
 |nil=>rfl
 |cons y r ih=>
  rw[insK]
  split
  ·rfl
  ·rw[List.length_cons,ih,List.length_cons]
theorem Q2{x:List UInt8×Int}{l:KV}(h:rising l)(hx:∀p∈l,p.1≠x.1):rising (insK x l):=by
 induction l with
 |nil=>exact List.pairwise_singleton _ _
 |cons y r ih=>
  have h1:=List.pairwise_cons.1 h
  rw[insK]
  split
  ·rename_i hb
   refine List.pairwise_cons.2 ⟨?_,h⟩
   intro p hp
   rcases List.mem_cons.1 hp with e|hp
   ·rw[e];exact hb
   ·exact before_trans hb (h1.1 p hp)
  ·rename_i hb
   refine List.pairwise_cons.2 ⟨?_,ih h1.2 (fun p hp=>hx p (List.mem_cons_of_mem _ hp))⟩
   intro p hp
   rcases(mem_ins x r p).1 hp with e|hp
   ·rw[e]
    exact before_total _ _ (by simpa using hb) (fun e=>hx y (List.mem_cons_self ..) e.symm)
   ·exact h1.1 p hp
theorem JG{p:List UInt8×Int}:p∈GU kv k↔p∈kv/\p.1≠k:=by
 unfold GU
 rw[List.mem_filter]
 simp
theorem Lp(h:rising kv)(k:List UInt8):rising (GU kv k):=List.Pairwise.filter _ h
theorem RM(kv:KV)(k:List UInt8):(GU kv k).length<=kv.length:=List.length_filter_le _ _
theorem Q3(h:rising kv)(k:List UInt8)(n:Int):rising (Ik kv k n):=Q2 (Lp h k) (fun p hp=>(JG.1 hp).2)
theorem mem_put{p:List UInt8×Int}:p∈Ik kv k n↔p=(k,n)\/(p∈kv/\p.1≠k):=by
 unfold Ik
 rw[mem_ins,JG]
theorem OS(h:D9 kv k≠0):(k,D9 kv k)∈kv:=by
 unfold D9 at *
 cases e:kv.find? (fun p=>p.1==k)with
 |none=>rw[e]at h;exact absurd rfl h
 |some p=>
  dsimp only
  have h1:=List.mem_of_find?_eq_some e
  have h2:=List.find?_some e
  have h3:p.1=k:=by simpa using h2
  rw[<-h3]
  exact h1
theorem Q4(h:D9 kv k≠0):(GU kv k).length<kv.length:=by
 have hm:=OS h
 unfold GU
 rw[List.length_filter_lt_length_iff_exists]
 exact⟨_,hm,by simp⟩
theorem Xx:(Ik kv k n).length=(GU kv k).length+1:=by unfold Ik;rw[Xw]
theorem To(h:keyed kv)(k:List UInt8):keyed (GU kv k):=fun p hp=>h p (JG.1 hp).1
theorem Tp(h:keyed kv)(hr:rowOk r)(n:Int):keyed (Ik kv (encR r) n):=fun p hp=>by
 rcases mem_put.1 hp with e|e
 ·subst e;exact⟨r,hr,rfl⟩
 ·exact h p e.1
theorem Vv(h:Er kv)(k:List UInt8):0<=D9 kv k/\D9 kv k<=1073741824:=by
 by_cases e:D9 kv k=0
 ·omega
 ·have:=h.cnt _ (OS e)
  exact⟨by omega,this.2⟩
theorem Vw(h:Er kv)(hr:rowOk r)(n:Int):Er (Qw kv (encR r) n):=by
 unfold Qw
 split
 ·exact h
 ·split
  ·exact h
  ·split
   ·exact⟨Lp h.up _,Nat.le_trans (RM _ _) h.len,fun p hp=>h.cnt p (JG.1 hp).1,To h.key _⟩
   ·split
    ·exact h
    ·rename_i h1 h2 h3 h4
     refine⟨Q3 h.up _ _,?_,?_,Tp h.key hr _⟩
     ·rw[Xx]
      have hl:=h.len
      by_cases e:D9 kv (encR r)=0
      ·have:=RM kv (encR r)
       have h5:kv.length≠4096:=fun h=>h4 ⟨e,h⟩
       omega
      ·have:=Q4 e
       omega
     ·intro p hp
      rcases mem_put.1 hp with e|e
      ·subst e;exact⟨by dsimp only;omega,by dsimp only;omega⟩
      ·exact h.cnt p e.1
theorem Tq(h:keyed kv):∃out:List Cnt,AK out=kv/\∀c∈out,rowOk c.r:=by
 induction kv with
 |nil=>exact⟨[],rfl,fun c hc=>by cases hc⟩
 |cons p r ih=>
  obtain⟨out,h1,h2⟩:=ih (fun q hq=>h q (List.mem_cons_of_mem _ hq))
  obtain⟨ro,h3,h4⟩:=h p (List.mem_cons_self ..)
  refine⟨⟨ro,p.2⟩::out,?_,?_⟩
  ·show(encR ro,p.2)::AK out=p::r
   rw[h1,h4]
  ·intro c hc
   rcases List.mem_cons.1 hc with e|hc
   ·rw[e];exact h3
   ·exact h2 c hc
theorem LY{a b:List Cel}(ha:rowOk a)(hb:rowOk b)(h:bytesBefore (encR a) (encR b)=true):Bc a b<0:=by
 have h1:=Mq a b ha.2 hb.2
 have h2:=I3 (encR a) (encR b)
 rw[Dr]at h
 rw[EL,h,if_pos rfl]at h2
 omega
theorem Vx(h:rowOk r):BE r:=fun c hc=>(h.2 c hc).2
theorem A1{α:Type} [Inhabited α]{l:List α}{i:Nat}(h:i<l.length):l.getD i default∈l:=by simp[gDe,h]
theorem OT{c:Cnt}(h:c∈out):(encR c.r,c.n)∈AK out:=List.mem_map.2 ⟨c,h,rfl⟩
theorem Tr(h:Er (AK out))(hr:∀c∈out,rowOk c.r):DP out/\DO out:=by
 refine⟨⟨by have:=h.len;rw[Hq]at this;exact this,?_⟩,?_⟩
 ·intro i hi
  have hm:=A1 hi
  have hc:=h.cnt _ (OT hm)
  refine⟨Gr (hr _ hm),hc.1,hc.2,fun h0=>?_⟩
  have hm1:=A1 (l:=out) (i:=i - 1) (by omega)
  refine LY (hr _ hm1) (hr _ hm) ?_
  have hu:=h.up
  unfold rising AK at hu
  rw[List.pairwise_map,List.pairwise_iff_getElem]at hu
  have:=hu (i - 1) i (by omega) hi (by omega)
  have e1:out[i - 1]=out.getD (i - 1) default:=by simp[gDe,show i - 1<out.length by omega]
  have e2:out[i]=out.getD i default:=by simp[gDe,hi]
  rw[e1,e2]at this
  exact this
 ·intro c hc
  have h1:=h.cnt _ (OT hc)
  have h2:=(hr c hc).1
  dsimp only at h1
  exact⟨Vx (hr c hc),by omega,by omega,by omega⟩
theorem Ts(hw:DO v)(h:DP v):∀c∈v,rowOk c.r:=by
 intro c hc
 obtain⟨i,hi,rfl⟩:=List.getElem_of_mem hc
 have:=Nv hw hi (h.2 i hi)
 simpa[gDe,hi]using this
theorem Tt(hw:DO v)(h:DP v):Er (AK v):=by
 refine⟨Tk hw h,by rw[Hq];exact h.1,?_,?_⟩
 ·intro p hp
  obtain⟨c,hc,rfl⟩:=List.mem_map.1 hp
  obtain⟨i,hi,rfl⟩:=List.getElem_of_mem hc
  have:=h.2 i hi
  simp only[F1,gDe,gEe hi,Option.getD_some]at this
  exact⟨this.2.1,this.2.2.1⟩
 ·intro p hp
  obtain⟨c,hc,rfl⟩:=List.mem_map.1 hp
  exact⟨c.r,Ts hw h c hc,rfl⟩
def Zf(kv:KV)(c:Chg):KV:=Qw kv (encR c.r) (DK c.k)
def atK(kv:KV)(l:List Chg)(i:Nat):KV:=(l.take i).foldl Zf kv
def GV(kv:KV)(l:List Chg)(i:Nat):Int:=Xr (atK kv l i) (encR (l.getD i default).r) (DK (l.getD i default).k)
theorem OU(kv:KV)(l:List Chg)(i:Nat)(h:i<l.length):atK kv l (i+1)=Qw (atK kv l i) (encR (l.getD i default).r) (DK (l.getD i default).k):=by
 unfold atK
 rw[takeC l i h,List.foldl_append]
 rfl
theorem RO(hw:GO l)(h:AG l)(i:Nat)(hi:i<l.length):rowOk (l.getD i default).r:=Lm (h.2 i hi).2.2.1 (Uw hw i hi).1
theorem RP(h:Er kv)(hw:GO l)(hf:AG l)(i:Nat)(hi:i<=l.length):Er (atK kv l i):=by
 induction i with
 |zero=>exact h
 |succ i ih=>
  rw[OU kv l i (by omega)]
  exact Vw (ih (by omega)) (RO hw hf i (by omega)) _
def Xy(v:List Cnt)(l:List Chg)(e:Ending)(w':World):Prop:=
 (Bf v≠0/\e= .returned (.tuple #[.slice none 0 0,.int .i64 0,.int .i64 (Bf v)]))\/
 (Bf v=0/\AS l≠0/\e= .returned (.tuple #[.slice none 0 0,.int .i64 0,.int .i64 (AS l)]))\/
 (Bf v=0/\AS l=0/\∃k:Nat,k<l.length/\(∀i,i<k->GV (AK v) l i=0)/\GV (AK v) l k≠0/\e= .returned (.tuple #[.slice none 0 0,.int .i64 k,.int .i64 (GV (AK v) l k)]))\/
 (Bf v=0/\AS l=0/\(∀i,i<l.length->GV (AK v) l i=0)/\∃out ad cap,AK out=atK (AK v) l l.length/\DP out/\DO out/\e= .returned (.tuple #[.slice ad out.length cap,.int .i64 0,.int .i64 0])/\viewAt w' ad out)
theorem Tu{i:Nat}{x:Value}(h:CS w B nn kv):w.cell? ⟨B,i,none⟩≠some x:=by
 obtain⟨es,clock,h1,h2,h3,h4⟩:=h
 intro e
 simp[World.cell?,h1]at e
theorem Nw{w':World}(h:EW w ad l)(hc:CS w B nn kv)(hg:w.grownBy w' (some B)):EW w' ad l:=by
 intro i hi
 obtain⟨g,e,x1⟩:=h i hi
 refine⟨g,e,hg.cell x1 (fun h=>?_)⟩
 have hgB:g=B:=by simpa using h
 subst hgB
 exact Tu hc x1
theorem Xz(k:Int): -1<=DK k/\DK k<=1:=by unfold DK;split<;>omega
theorem Vy{a b c d:Int}(h:a=b)(k:c=d):Ending.returned (.tuple #[.slice none 0 0,.int .i64 a,.int .i64 c])= .returned (.tuple #[.slice none 0 0,.int .i64 b,.int .i64 d]):=by rw[h,k]
theorem X0{cap a:Nat}(h:a=b):Ending.returned (.tuple #[.slice ad a cap,.int .i64 0,.int .i64 0])= .returned (.tuple #[.slice ad b cap,.int .i64 0,.int .i64 0]):=by rw[h]
theorem X3(h:rowOk r):(encR r).length<=maxLen:=by
 have h1:=FQ r (fun c hc=>(h.2 c hc).1)
 have h2:=h.1
 unfold maxLen;omega
theorem Vz(a c:Option Addr)(ca cc:Nat)(v:List Cnt)(l:List Chg)(w:World)(hv:viewAt w a v)(hwv:DO v)(hlv:v.length<=9223372036854775807)(hc:Dv w c l)(hwl:GO l)(hll:l.length<=9223372036854775807):
 Calls Tryz.prog 37 #[.slice a v.length ca,.slice c l.length cc] w fun e w'=>Xy v l e w'/\Bwz w w':=by
 have KG:=Q1 a ca v w hv hwv hlv
 have KK:=hIz (fun(w1:World) (hb:Bwz w w1)=>PM c cc l w1 (Fo hc hb) hwl hll)
 have HC:Hid (Dv w c l):=hc
 clear hc hv
 obtain⟨m,hm⟩:∃m,v.length=m:=⟨_,rfl⟩
 have HM:Hid (v.length=m):=hm
 obtain⟨n,hn⟩:∃n,l.length=n:=⟨_,rfl⟩
 have HN:Hid (l.length=n):=hn
 rw[hm]at KG
 rw[hn]at KK
 rw[hm,hn]
 clear hm hn
 go_enter func37,ntmps37
 go_wp2_with fail
 refine KG.mono ?_
 rintro e w1 ⟨hres,hb1⟩
 rcases hres with⟨hve,hvo,B,rfl,hB,hcm⟩|⟨hve,rfl⟩
 ·have HVE:Hid (Bf v=0):=hve
  have HVO:Hid (DP v):=hvo
  have HCM:Hid (CS w1 B v.length (AK v)):=hcm
  clear hve hvo hcm
  go_wp2_with fail
  refine(KK.out w1 hb1).mono ?_
  rintro e w2 ⟨hres,hb2⟩
  have hw2:Bwz w w2:=hb1.trans (hb2.mono hb1.size)
  rcases hres with⟨hfe,hfo,ad,kc,rfl,hks⟩|⟨hfe,rfl⟩
  ·have HFE:Hid (AS l=0):=hfe
   have HFO:Hid (AG l):=hfo
   have HKS:Hid (EW w2 ad l):=hks
   have HC2:Hid (CS w2 B v.length (AK v)):=BV HCM.out hb2
   have HG:Hid (Er (AK v)):=Tt hwv HVO.out
   have hm4:m<=4096:=by rw[<-HM.out];exact HVO.out.1
   have hn4:n<=4096:=by rw[<-HN.out];exact HFO.out.1
   rw[HN.out]
   clear hfe hfo hks HCM KG
   go_wp2
   go_loopw [31] (fun i wr=> ∃k:Nat,k<=n/\i= .int .i64 k/\CS wr B (m+k) (atK (AK v) l k)/\Bwz w wr/\EW wr ad l/\(∀i,i<k->GV (AK v) l i=0)) (fun i _=>n - (intOf i).toNat)
   case atStart=>exact⟨0,by omega,rfl,by rw[<-HM.out];exact HC2.out,hw2,HKS.out,fun i hi=>absurd hi (Nat.not_lt_zero i)⟩
   case round=>
    obtain⟨k,hk,rfl,hcm,hnx,hks,hall⟩:=hrel
    have HCM:Hid (CS wr B (m+k) (atK (AK v) l k)):=hcm
    have HKR:Hid (EW wr ad l):=hks
    have HA:Hid (∀i,i<k->GV (AK v) l i=0):=hall
    clear hcm hks hall
    by_cases hlt:k<n
    ·have hkl:k<l.length:=by rw[HN.out];exact hlt
     obtain⟨b,o,ra,rc,e,x1,_,_⟩:=HC.out k hkl
     subst e
     have q1:=cLz hnx x1
     obtain⟨g,e,q2⟩:=HKR.out k hkl
     subst e
     have HRK:Hid (rowOk (l.getD k default).r):=RO hwl HFO.out k hkl
     have HGK:Hid (Er (atK (AK v) l k)):=RP HG.out hwl HFO.out k (by omega)
     have HS:Hid (atK (AK v) l (k+1)=Qw (atK (AK v) l k) (encR (l.getD k default).r) (DK (l.getD k default).k)):=OU (AK v) l k hkl
     have HE:Hid (GV (AK v) l k=Xr (atK (AK v) l k) (encR (l.getD k default).r) (DK (l.getD k default).k)):=rfl
     obtain⟨⟨kd,r⟩,hcv⟩:∃c,l.getD k default=c:=⟨_,rfl⟩
     rw[hcv]at q1 q2 HRK HS HE
     dsimp only at q1 q2 HRK HS HE
     clear x1 hcv
     obtain⟨key,hkey⟩:∃x,(⟨(encR r).toArray⟩:ByteArray)=x:=⟨_,rfl⟩
     have HKE:Hid (encR r=key.data.toList):=by show encR r=key.data.toList;rw[<-hkey]
     have HKL:Hid (key.size<=maxLen):=by
      show key.size<=maxLen
      rw[<-A4,<-HKE.out];exact X3 HRK.out
     rw[hkey]at q2
     rw[HKE.out]at HS HE
     clear hkey
     have i1:(0:Int)<=(k:Int):=by omega
     have i2:(k:Int)<(n:Int):=by omega
     have hgg:=Vv HGK.out key.data.toList
     have hml:=Xz kd
     have hgl:=HGK.out.len
     have KA:Hid (∀w',CS w' B (m+k) (atK (AK v) l k)->CTz 71 #[.map (some B),.string key,.int .i64 (DK kd)] w' fun e w''=>e= .returned (.int .i64 (GV (AK v) l k))/\CS w'' B (m+k+1) (atK (AK v) l (k+1))/\w'.grownBy w'' (some B)):=fun w' h=>by
      rw[HS.out,HE.out]
      exact Xs B (m+k) _ key (DK kd) w' h HKL.out (by unfold maxLen;omega) (by omega) (by omega) (by omega) (by omega) (by omega)
     clear HS HE hgg hml hgl
     obtain⟨er,her⟩:∃x,GV (AK v) l k=x:=⟨_,rfl⟩
     rw[her]at KA
     have HER:Hid (GV (AK v) l k=er):=her
     clear her
     by_cases e0:er=0
     ·subst e0
      go_wp2_with (first
       |(go_at_call 72;refine(NZ kd _).mono ?_;rintro e wa ⟨rfl,rfl⟩)
       |(go_at_call 71;refine(KA.out _ HCM.out).mono ?_;rintro e wb ⟨rfl,hcm2,hgr2⟩))
      go_roundw
      case rel=>exact⟨k+1,by omega,by go_num,hcm2,hnx.grown hgr2 hnx.size (fun x hx=>by cases hx;exact hB),Nw HKR.out HCM.out hgr2,fun i hi=>by
       rcases Nat.lt_or_ge i k with h|h
       ·exact HA.out i h
       ·rw[show i=k by omega];exact HER.out⟩
      case measure=>simp[intOf];omega
     ·have e0':(er==0)=false:=by simpa using e0
      go_wp2_with (first
       |(go_at_call 72;refine(NZ kd _).mono ?_;rintro e wa ⟨rfl,rfl⟩)
       |(go_at_call 71;refine(KA.out _ HCM.out).mono ?_;rintro e wb ⟨rfl,hcm2,hgr2⟩))
      go_ret3
      exact⟨.inr (.inr (.inl ⟨HVE.out,HFE.out,k,hkl,HA.out,by rw[HER.out];exact e0,Vy rfl HER.out.symm⟩)),hnx.grown hgr2 hnx.size (fun x hx=>by cases hx;exact hB)⟩
    ·have hkn:k=n:=by omega
     have HGK:Hid (Er (atK (AK v) l k)):=RP HG.out hwl HFO.out k (by rw[HN.out];exact hk)
     obtain⟨out,ho1,ho2⟩:=Tq HGK.out.key
     have HO1:Hid (AK out=atK (AK v) l k):=ho1
     have HGO:Hid (Er (AK out)):=by show Er (AK out);rw[ho1];exact HGK.out
     have hvw:=Tr HGO.out ho2
     have hol:=hvw.1.1
     have KV:=Uv B (m+k) out wr (by rw[HO1.out];exact HCM.out) HGO.out.up ho2 (by omega)
     have HVW:Hid (DP out/\DO out):=hvw
     clear hvw ho1 ho2
     obtain⟨ol,hol2⟩:∃x,out.length=x:=⟨_,rfl⟩
     rw[hol2]at KV
     have HOL:Hid (out.length=ol):=hol2
     go_wp2_with (go_at_call 73;refine KV.mono ?_;rintro e w9 ⟨⟨oa,oc,rfl,hva⟩,hb9⟩)
     go_ret3
     exact⟨.inr (.inr (.inr ⟨HVE.out,HFE.out,fun i hi=>HA.out i (by rw[HN.out]at hi;omega),out,oa,oc,by rw[HO1.out,hkn,HN.out],HVW.out.1,HVW.out.2,X0 HOL.out.symm,hva⟩)),hnx.trans (hb9.mono hnx.size)⟩
  ·have hfe':(AS l==0)=false:=by simpa using hfe
   have HFE:Hid (AS l≠0):=hfe
   clear hfe
   obtain⟨x,hx⟩:∃x,AS l=x:=⟨_,rfl⟩
   have HX:Hid (AS l=x):=hx
   rw[hx]at hfe'⊢
   clear hx
   go_wp2
   go_ret3
   exact⟨.inr (.inl ⟨HVE.out,HFE.out,Vy rfl HX.out.symm⟩),hw2⟩
 ·have hve':(Bf v==0)=false:=by simpa using hve
  have HVE:Hid (Bf v≠0):=hve
  clear hve
  obtain⟨x,hx⟩:∃x,Bf v=x:=⟨_,rfl⟩
  have HX:Hid (Bf v=x):=hx
  rw[hx]at hve'⊢
  clear hx
  go_wp2
  go_ret3
  exact⟨.inl ⟨HVE.out,Vy rfl HX.out.symm⟩,hb1⟩
instance:DecidableEq Cnt:=fun a b=>if h:a.r=b.r/\a.n=b.n then isTrue (by cases a;cases b;simp at h;simp[h])else isFalse (fun e=>h (by rw[e];exact⟨rfl,rfl⟩))
instance:DecidableEq Chg:=fun a b=>if h:a.k=b.k/\a.r=b.r then isTrue (by cases a;cases b;simp at h;simp[h])else isFalse (fun e=>h (by rw[e];exact⟨rfl,rfl⟩))
theorem Cl(b off j:Nat):(⟨b,off,none⟩:Addr).add j=⟨b,off+j,none⟩:=by unfold Addr.add;split<;>simp_all
theorem DX{off:Nat}(h:vl.rowAt w (some ⟨b,off,none⟩) r):∀j u,(celCells r)[j]? =some u->w.cell? ((⟨b,off,none⟩:Addr).add j)=some u:=by
 intro j u hu
 have hlen:j<(celCells r).length:=by
  rcases Nat.lt_or_ge j (celCells r).length with h|h
  ·exact h
  ·rw[List.getElem?_eq_none h]at hu;cases hu
 rw[CQ]at hlen
 have hi:j/3<r.length:=by omega
 obtain⟨b',o',e,x1,x2,x3⟩:=h (j/3) hi
 cases e
 obtain⟨y1,y2,y3⟩:=FR r (j/3) hi
 rw[Cl]
 have hj:j=j/3 * 3\/j=j/3 * 3+1\/j=j/3 * 3+1+1:=by omega
 rcases hj with e|e|e
 ·rw[e]at hu⊢;rw[y1]at hu;rw[<-hu];exact x1
 ·rw[e]at hu⊢;rw[y2]at hu;rw[<-hu];exact x2
 ·rw[e]at hu⊢;rw[y3]at hu;rw[<-hu];exact x3
theorem DA(r:List Cel):∀u∈celCells r,u.oneCell'=true:=by
 intro u hu
 unfold celCells at hu
 obtain⟨c,_,hc⟩:=List.mem_flatMap.1 hu
 simp at hc
 rcases hc with rfl|rfl|rfl<;>rfl
theorem VA:(Tryz.prog.info? 55).map (fun i=>(i.zero,i.size,i.bytes))=some (some (.agg #[.int .i64 0,.slice none 0 0]),2,32):=by kernel_rfl
def Bh(l:List (Int×Value)):List Value:=l.flatMap fun p=>[.int .i64 p.1,p.2]
theorem Tv(l:List (Int×Value)):(Bh l).length=l.length * 2:=by
 induction l with
 |nil=>rfl
 |cons c r ih=>show([_,_]++Bh r).length=_;rw[lAp,ih,List.length_cons];simp;omega
theorem Q5(l:List (Int×Value))(n:Int)(x:Value):Bh (l++[(n,x)])=Bh l++[.int .i64 n,x]:=by
 unfold Bh;rw[List.flatMap_append];simp
theorem OV(l:List (Int×Value))(i:Nat)(hli:i<l.length):(Bh l)[i * 2]? =some (.int .i64 (l.getD i (0,.bool false)).1)/\(Bh l)[i * 2+1]? =some (l.getD i (0,.bool false)).2:=by
 induction l generalizing i with
 |nil=>exact absurd hli (Nat.not_lt_zero i)
 |cons p r ih=>
  have e:Bh (p::r)= .int .i64 p.1::p.2::Bh r:=rfl
  rw[e]
  cases i with
  |zero=>exact⟨rfl,rfl⟩
  |succ i=>
   have:=ih i (by simpa using hli)
   rw[show(i+1) * 2=i * 2+1+1 by omega]
   simpa using this
end ch
namespace ch
open Go.ChangeShapes Go.WideShapes Go.ChangeAt Go.RowKit Go.Maps Go.WideMaps Go.Sort
open vl
theorem M7(p q:List (Int×Value)):Bh (p++q)=Bh p++Bh q:=by unfold Bh;rw[List.flatMap_append]
theorem Tw{p:List (Int×Value)}(h:∀x∈p,x.2.oneCell'=true):∀u∈Bh p,u.oneCell'=true:=by
 intro u hu
 unfold Bh at hu
 obtain⟨x,hx,hu⟩:=List.mem_flatMap.1 hu
 simp at hu
 rcases hu with rfl|rfl
 ·rfl
 ·exact h x hx
end ch
namespace ch
open Go.ChangeShapes Go.WideShapes Go.ChangeAt Go.RowKit Go.Maps Go.WideMaps
open vl
end ch
namespace bt
open Go.ChangeShapes Go.WideShapes Go.ChangeAt Go.RowKit
open vl
variable {w w' w2 : World} {base : Nat}
structure Own1 where
 v:Value
 e:TypeId
 s:Nat
 n:Nat
 xs:List Value
def Own1.here(x:Own1)(w:World)(base:Nat):Prop:=w.ownsRow base x.e x.s x.v x.n x.xs
def apart(x y:Own1):Prop:=∀g,x.v.ownBlock=some g->y.v.ownBlock≠some g
theorem Q6{x y:Own1}(h:apart x y):apart y x:=fun g h1 h2=>h g h2 h1
structure Est(w:World)(base:Nat)(E:List Own1):Prop where
 low:base<=w.heap.size
 own:∀x∈E,x.here w base
 two:E.Pairwise apart
theorem Zz9{E E':List Own1}(h:Est w base E)(hp:E.Perm E'):Est w base E':=
 ⟨h.low,fun x hx=>h.own x (hp.mem_iff.2 hx),hp.pairwise h.two (fun h=>Q6 h)⟩
theorem Fh{E:List Own1}(h:Est w base E)(hb:Bwz w w'):Est w' base E:=
 ⟨Nat.le_trans h.low hb.size,fun x hx=>ch.own_below (h.own x hx) hb,h.two⟩
theorem Tx{x x':Own1}{E:List Own1}(h:Est w base (x::E))(hs:w.heap.size<=w2.heap.size)(hblk:∀b,b<w.heap.size->x.v.ownBlock≠some b->w2.heap[b]? =w.heap[b]?)(hx:x'.here w2 base)
 (hat:∀g,x'.v.ownBlock=some g->x.v.ownBlock=some g\/w.heap.size<=g):Est w2 base (x'::E):=by
 have h2:=List.pairwise_cons.1 h.two
 refine⟨Nat.le_trans h.low hs,fun y hy=>?_,List.pairwise_cons.2 ⟨fun y hy g hg=>?_,h2.2⟩⟩
 ·rcases List.mem_cons.1 hy with rfl|hy
  ·exact hx
  ·have hy':=h.own y (List.mem_cons_of_mem _ hy)
   exact ch.A0 hy' (fun g hg=>hblk g (ch.AD hy' hg).2 (fun e=>h2.1 y hy g e hg))
 ·rcases hat g hg with h3|h3
  ·exact h2.1 y hy g h3
  ·intro e
   have:=(ch.AD (h.own y (List.mem_cons_of_mem _ hy)) e).2
   omega
theorem OW{x x':Own1}{E:List Own1}(h:Est w base (x::E))(hg:w.grownBy w2 x.v.ownBlock)(hx:x'.here w2 base)(hat:∀g,x'.v.ownBlock=some g->x.v.ownBlock=some g\/w.heap.size<=g):Est w2 base (x'::E):=
 Tx h hg.size (fun b hb ho=>hg.block b hb (fun e=>ho e.symm)) hx hat
theorem Nx{x:Own1}{E:List Own1}(h:Est w base E)(hb:Bwz w w')(hx:x.here w' base)(hn:∀g,x.v.ownBlock=some g->w.heap.size<=g):Est w' base (x::E):=by
 have h':=Fh h hb
 refine⟨h'.low,fun y hy=>?_,List.pairwise_cons.2 ⟨fun y hy g hg e=>?_,h.two⟩⟩
 ·rcases List.mem_cons.1 hy with rfl|hy
  ·exact hx
  ·exact h'.own y hy
 ·have:=(ch.AD (h.own y hy) e).2
  have:=hn g hg
  omega
end bt
namespace jn
open Go.ChangeShapes Go.WideShapes Go.ChangeAt Go.RowKit
open vl pl bt
attribute [local go_sem] Oper.semAt_some
variable {w w' w1 w2 : World} {b base : Nat} {s : Jn} {rv sv t v v' : Value} {row srow : List Cel} {k : Int} {o : Obj} {ops : Array Oper} {rest : List Oper} {a : Act} {Q : Exit -> Act -> World -> Prop} {p : pl.Pln} {x : pl.PA} {y : JX}
def Ny:Value->Option Addr
 | .slice a _ _=>a
 |_=>none
def Q7:Value->Nat
 | .slice _ _ c=>c
 |_=>0
theorem Lq{e:TypeId}{s:Nat}{n:Nat}{xs:List Value}(h:w.ownsRow base e s v n xs):v= .slice (Ny v) n (Q7 v):=by
 rcases h.2 with⟨hv,h0⟩|⟨g,cap,cur,hv,_⟩
 ·rw[hv,h0];rfl
 ·rw[hv];rfl
theorem JH{E E':List Own1}(h:∀[DecidableEq Own1] (a:Own1),E.count a=E'.count a):E.Perm E':=by
 haveI:DecidableEq Own1:=fun a b=>Classical.propDecidable (a=b)
 exact List.perm_iff_count.2 (fun a=>h a)
theorem LZ(w:World)(a b c d:Value)(t:TypeId):∀j u,[a,b,c,d][j]? =some u->(w.alloc (.cells #[a,b,c,d] t)).cell? ((⟨w.heap.size,0,none⟩:Addr).add j)=some u:=fun j u hj=>by
 rw[ch.addr_add]
 match j,hj with
 |0,hj=>simp at hj;subst hj;go_simp
 |1,hj=>simp at hj;subst hj;go_simp
 |2,hj=>simp at hj;subst hj;go_simp
 |3,hj=>simp at hj;subst hj;go_simp
 |k+4,hj=>simp at hj
def Cu(rv:Value)(row:List Cel):Own1:=⟨rv,103,3,row.length,celCells row⟩
structure CO where
 k:Int
 rv:Value
 row:List Cel
instance:Inhabited CO:=⟨⟨0,.slice none 0 0,[]⟩⟩
def CO.chg(x:CO):ch.Chg:=⟨x.k,x.row⟩
def CO.pair(x:CO):Int×Value:=(x.k,x.rv)
def CG(w:World)(base:Nat)(v:Value)(L:List CO):Prop:=Est w base ((⟨v,55,2,L.length,ch.Bh (L.map CO.pair)⟩:Own1)::L.map fun x=>Cu x.rv x.row)
theorem CG.start(h:base<=w.heap.size):CG w base (.slice none 0 0) []:=
 ⟨h,fun y hy=>by
  rcases List.mem_cons.1 hy with rfl|hy
  ·exact World.ownsRow_nil _ _ _ _
  ·exact absurd hy List.not_mem_nil,List.pairwise_cons.2 ⟨fun y hy=>absurd hy List.not_mem_nil,List.Pairwise.nil⟩⟩
theorem CG.below{L:List CO}(h:CG w base v L)(hb:Bwz w w'):CG w' base v L:=Fh h hb
theorem CG.own{L:List CO}(h:CG w base v L):w.ownsRow base 55 2 v L.length (ch.Bh (L.map CO.pair)):=Est.own h _ (List.mem_cons_self ..)
theorem CG.add{L:List CO}(h:CG w base v L)(hb:Bwz w w1)(hv:AA w1 w.heap.size rv row)(hg:(w1.alloc o).grownBy w2 v.ownBlock)(hx:w2.ownsRow base 55 2 v' (L.length+1) (ch.Bh (L.map CO.pair++[(k,rv)])))(hat:∀g,v'.ownBlock=some g->v.ownBlock=some g\/w1.heap.size+1<=g):CG w2 base v' (L++[⟨k,rv,row⟩]):=by
 have h1:Est w1 base (Cu rv row::(⟨v,55,2,L.length,ch.Bh (L.map CO.pair)⟩:Own1)::L.map fun x=>Cu x.rv x.row):=Nx (x:=Cu rv row) h hb (World.ownsRow.mono hv (Est.low h)) (fun g hg=>(ch.AD hv hg).1)
 have h2:=Fh (Zz9 h1 (List.Perm.swap _ _ _)) (bR.alloc nR o)
 have e1:(L++[(⟨k,rv,row⟩:CO)]).length=L.length+1:=by simp
 have e2:(L++[(⟨k,rv,row⟩:CO)]).map CO.pair=L.map CO.pair++[(k,rv)]:=by rw[List.map_append];rfl
 have h3:=OW (x':=(⟨v',55,2,(L++[(⟨k,rv,row⟩:CO)]).length,ch.Bh ((L++[(⟨k,rv,row⟩:CO)]).map CO.pair)⟩:Own1)) h2 hg (by rw[e1,e2];exact hx) (fun g hg=>by
  rcases hat g hg with h|h
  ·exact .inl h
  ·right;simp;exact h)
 refine Zz9 h3 (JH (fun a=>?_))
 simp only[List.map_append,List.map_cons,List.map_nil,List.count_append,List.count_cons,List.count_nil]
 omega
theorem CG.add2{L:List CO}{k2:Int}{E:List Own1}(h:Est w base ((⟨v,55,2,L.length,ch.Bh (L.map CO.pair)⟩:Own1)::Cu rv row::Cu sv srow::L.map fun x=>Cu x.rv x.row))(hb:Bwz w w1)(hg:(w1.alloc o).grownBy w2 v.ownBlock)(hx:w2.ownsRow base 55 2 v' (L.length+2) (ch.Bh (L.map CO.pair++[(k,rv),(k2,sv)])))(hat:∀g,v'.ownBlock=some g->v.ownBlock=some g\/w1.heap.size+1<=g):CG w2 base v' (L++[⟨k,rv,row⟩,⟨k2,sv,srow⟩]):=by
 have h2:=Fh (Fh h hb) (bR.alloc nR o)
 have e1:(L++[(⟨k,rv,row⟩:CO),⟨k2,sv,srow⟩]).length=L.length+2:=by simp
 have e2:(L++[(⟨k,rv,row⟩:CO),⟨k2,sv,srow⟩]).map CO.pair=L.map CO.pair++[(k,rv),(k2,sv)]:=by rw[List.map_append];rfl
 have h3:=OW (x':=(⟨v',55,2,(L++[(⟨k,rv,row⟩:CO),⟨k2,sv,srow⟩]).length,ch.Bh ((L++[(⟨k,rv,row⟩:CO),⟨k2,sv,srow⟩]).map CO.pair)⟩:Own1)) h2 hg (by rw[e1,e2];exact hx) (fun g hg=>by
  rcases hat g hg with h|h
  ·exact .inl h
  ·right;simp;exact h)
 refine Zz9 h3 (JH (fun a=>?_))
 simp only[List.map_append,List.map_cons,List.map_nil,List.count_append,List.count_cons,List.count_nil]
 omega
theorem CG.two{L:List CO}(h:CG w base v L)(hb1:Bwz w w1)(hv1:AA w1 w.heap.size rv row)(hb2:Bwz w1 w2)(hv2:AA w2 w1.heap.size sv srow):Est w2 base ((⟨v,55,2,L.length,ch.Bh (L.map CO.pair)⟩:Own1)::Cu rv row::Cu sv srow::L.map fun x=>Cu x.rv x.row):=by
 have h1:=Nx (x:=Cu rv row) h hb1 (World.ownsRow.mono hv1 (Est.low h)) (fun g hg=>(ch.AD hv1 hg).1)
 have h2:=Nx (x:=Cu sv srow) h1 hb2 (World.ownsRow.mono hv2 h1.low) (fun g hg=>(ch.AD hv2 hg).1)
 refine Zz9 h2 (JH (fun a=>?_))
 simp only[List.count_cons]
 omega
theorem CG.two2{L:List CO}(h:CG w base v L)(hb1:Bwz w w1)(hv1:AA w1 w.heap.size sv srow)(hb2:Bwz w1 w2)(hv2:AA w2 w1.heap.size rv row):Est w2 base ((⟨v,55,2,L.length,ch.Bh (L.map CO.pair)⟩:Own1)::Cu rv row::Cu sv srow::L.map fun x=>Cu x.rv x.row):=by
 refine Zz9 (h.two hb1 hv1 hb2 hv2) (JH (fun a=>?_))
 simp only[List.count_cons]
 omega
theorem Nz{o:Oper}(hgd:o.guard=none)(s x:Operand)
 (hop:o.op= .call {callee:=.builtin .append,args:=#[s,x],argTypes:=#[44,44]})
 (base:Nat) (v:Value) (l:List (Int×Value)) (n1:Int) (v1:Value) (n2:Int) (v2:Value) (w1:World) (ln:Nat) (hln:l.length=ln) (ho:w1.ownsRow base 55 2 v ln (ch.Bh l)) (hl:ln<=1000000000) (hb:base<=w1.heap.size) (o1:v1.oneCell'=true) (o2:v2.oneCell'=true)
 (hs:a.eval s=v) (hx:a.eval x= .slice (some ⟨w1.heap.size,0,none⟩) 2 2)
 (h:∀g cap2 w2,w2.ownsRow base 55 2 (.slice (some ⟨g,0,none⟩) (ln+2) cap2) (ln+2) (ch.Bh (l++[(n1,v1),(n2,v2)]))->(w1.alloc (.cells #[.int .i64 n1,v1,.int .i64 n2,v2] 55)).grownBy w2 v.ownBlock->(v.ownBlock=some g\/g=w1.heap.size+1)->g<w2.heap.size->wpList Tryz.prog ops Q rest (a.put o.dst (.slice (some ⟨g,0,none⟩) (ln+2) cap2)) w2):
 wpList Tryz.prog ops Q (o::rest) a (w1.alloc (.cells #[.int .i64 n1,v1,.int .i64 n2,v2] 55)):=by
 obtain⟨i0,hi,hz0,hz1,hz2⟩:=info_parts ch.VA
 refine wpList_append_lies _ hgd s x 44 hop base 55 i0 (.agg #[.int .i64 0,.slice none 0 0]) 2 32 underlying44 hi hz0 hz1 hz2 rfl (by decide) v ln (ch.Bh l) hs
  (ho.alloc _) ⟨w1.heap.size,0,none⟩ 2 2 [.int .i64 n1,v1,.int .i64 n2,v2] hx rfl (LZ _ _ _ _ _ _) (by intro u hu;simp at hu;rcases hu with rfl|rfl|rfl|rfl<;>first|rfl|assumption) (by decide) (by unfold maxLen;omega) (by omega) (by simp;omega) (w1.heap.size+1) (by simp) ?_
 intro g cap2 w2 h2 h3 h4 h5
 refine h g cap2 w2 ?_ h3 h4 h5
 rw[ch.M7]
 exact h2
theorem M8(L:List CO)(i:Nat)(h:i<L.length):(L.map CO.pair).getD i (0,.bool false)=((L.getD i default).k,(L.getD i default).rv)/\(L.map CO.chg).getD i default=⟨(L.getD i default).k,(L.getD i default).row⟩:=by
 simp[gDe,h,CO.pair,CO.chg]
theorem CG.chgs{L:List CO}(h:CG w base v L):v= .slice (Ny v) L.length (Q7 v)/\ch.Dv w (Ny v) (L.map CO.chg):=by
 have ho:=h.own
 refine⟨Lq ho,fun i hi=>?_⟩
 have hi2:i<L.length:=by simpa using hi
 rcases ho.2 with⟨hv,h0⟩|⟨g,c,cur,hv,_⟩
 ·omega
 ·have hc:=World.ownsRow.cells ho (g:=g) (by rw[hv];rfl)
  obtain⟨f1,f2⟩:=ch.OV (L.map CO.pair) i (by simpa using hi2)
  obtain⟨e1,e2⟩:=M8 L i hi2
  rw[e1]at f1 f2
  have c1:=hc _ _ f1
  have c2:=hc _ _ f2
  rw[ch.Cl,Nat.zero_add]at c1 c2
  have hr:AA w base (L.getD i default).rv (L.getD i default).row:=Est.own h (Cu (L.getD i default).rv (L.getD i default).row) (List.mem_cons_of_mem _ (List.mem_map.2 ⟨L.getD i default,by rw[gDe,gEe hi2];exact List.getElem_mem hi2,rfl⟩))
  have er:=Lq hr
  rw[er]at hr c2
  refine⟨g,0,Ny (L.getD i default).rv,Q7 (L.getD i default).rv,by rw[hv];rfl,?_,?_,?_⟩
  ·rw[e2,Nat.zero_add];exact c1
  ·rw[e2,Nat.zero_add];exact c2
  ·rw[e2];exact vl.D7 hr
theorem OX{o:Oper}(hgd:o.guard=none)(s x:Operand)
 (hop:o.op= .call {callee:=.builtin .append,args:=#[s,x],argTypes:=#[44,44]})
 (base:Nat) (v:Value) (l:List (Int×Value)) (n:Int) (ad:Option Addr) (rl cap:Nat) (w1:World) (ln:Nat) (hln:l.length=ln) (ho:w1.ownsRow base 55 2 v ln (ch.Bh l)) (hl:ln<=1000000000) (hb:base<=w1.heap.size)
 (hs:a.eval s=v) (hx:a.eval x= .slice (some ⟨w1.heap.size,0,none⟩) 1 1)
 (h:∀g cap2 w2,w2.ownsRow base 55 2 (.slice (some ⟨g,0,none⟩) (ln+1) cap2) (ln+1) (ch.Bh (l++[(n,.slice ad rl cap)]))->(w1.alloc (.cells #[.int .i64 n,.slice ad rl cap] 55)).grownBy w2 v.ownBlock->(v.ownBlock=some g\/g=w1.heap.size+1)->g<w2.heap.size->wpList Tryz.prog ops Q rest (a.put o.dst (.slice (some ⟨g,0,none⟩) (ln+1) cap2)) w2):
 wpList Tryz.prog ops Q (o::rest) a (w1.alloc (.cells #[.int .i64 n,.slice ad rl cap] 55)):=by
 obtain⟨i0,hi,hz0,hz1,hz2⟩:=info_parts ch.VA
 refine wpList_append_lies _ hgd s x 44 hop base 55 i0 (.agg #[.int .i64 0,.slice none 0 0]) 2 32 underlying44 hi hz0 hz1 hz2 rfl (by decide) v ln (ch.Bh l) hs
  (ho.alloc _) ⟨w1.heap.size,0,none⟩ 1 1 [.int .i64 n,.slice ad rl cap] hx rfl (cell_two_new _ _ _ _) (by intro u hu;simp at hu;rcases hu with rfl|rfl<;>rfl) (by decide) (by unfold maxLen;omega) (by omega) (by simp;omega) (w1.heap.size+1) (by simp) ?_
 intro g cap2 w2 h2 h3 h4 h5
 exact h g cap2 w2 (by rw[ch.Q5];exact h2) h3 h4 h5
theorem Gs(h:boxC w b p x s y t)(hs:w'.heap[b]? =w.heap[b]?):boxC w' b p x s y t:=by
 have hc:∀{i:Nat} {v:Value},w.cell? ⟨b,i,none⟩=some v->w'.cell? ⟨b,i,none⟩=some v:=fun {i v} hv=>(cOb (w:=w) (a:=⟨b,i,none⟩) hs).trans hv
 refine⟨?_,?_,hc h.told,fun j hj=>?_⟩
 ·obtain⟨v0,v1,v2,v3,v4,v5,v6,v7,v8,v9,v10,v11,v12⟩:=h.plan
  exact⟨hc v0,hc v1,hc v2,hc v3,hc v4,hc v5,hc v6,hc v7,hc v8,hc v9,hc v10,hc v11,hc v12⟩
 ·obtain⟨u0,u1,u2,u3,u4,u5,u6,u7,u8⟩:=h.join
  exact⟨hc u0,hc u1,hc u2,hc u3,hc u4,hc u5,hc u6,hc u7,hc u8⟩
 ·obtain⟨u,hu⟩:=Option.isSome_iff_exists.1 (h.room j hj).1
  exact⟨by rw[hc hu];rfl,(World.frozen?_of_block (w:=w) (a:=⟨b,0+j,none⟩) hs).trans (h.room j hj).2⟩
theorem M9(h:boxC w b p x s y t)(t':Value):boxC (w.setCell ⟨b,22,none⟩ t') b p x s y t':=by
 refine⟨?_,?_,World.cell?_setCell_same _ _ t' h.told,fun j hj=>?_⟩
 ·obtain⟨v0,v1,v2,v3,v4,v5,v6,v7,v8,v9,v10,v11,v12⟩:=h.plan
  exact⟨cell_far v0 (by decide),cell_far v1 (by decide),cell_far v2 (by decide),cell_far v3 (by decide),cell_far v4 (by decide),cell_far v5 (by decide),cell_far v6 (by decide),cell_far v7 (by decide),cell_far v8 (by decide),cell_far v9 (by decide),cell_far v10 (by decide),cell_far v11 (by decide),cell_far v12 (by decide)⟩
 ·obtain⟨u0,u1,u2,u3,u4,u5,u6,u7,u8⟩:=h.join
  exact⟨cell_far u0 (by decide),cell_far u1 (by decide),cell_far u2 (by decide),cell_far u3 (by decide),cell_far u4 (by decide),cell_far u5 (by decide),cell_far u6 (by decide),cell_far u7 (by decide),cell_far u8 (by decide)⟩
 ·exact⟨by
   obtain⟨u,hu⟩:=Option.isSome_iff_exists.1 (h.room j hj).1
   obtain⟨u',hu'⟩:=cell?_setCell_some (p:=⟨b,22,none⟩) (x:=t') hu
   rw[hu'];rfl,by rw[World.frozen?_setCell];exact(h.room j hj).2⟩
def OY(w w':World)(b:Nat)(t:Value):Prop:=Below 0 w w'/\(∀g,g<w.heap.size->g≠b->t.ownBlock≠some g->w'.heap[g]? =w.heap[g]?)/\∀T,bf.Ar w b T->bf.Ar w' b T
theorem N0{T:TypeId}{L:List CO}(h:CG w base v L)(hT:bf.Ar w b T)(h1:T≠55)(h2:T≠103)(k:Nat)(u:Value):CG (w.setCell ⟨b,k,none⟩ u) base v L:=by
 have hE:Est w base ((⟨v,55,2,L.length,ch.Bh (L.map CO.pair)⟩:Own1)::L.map fun x=>Cu x.rv x.row):=h
 refine Est.mk (by have:=Est.low hE;simpa[World.setCell]using this) (fun z hz=>?_) (Est.two hE)
 have ho:=Est.own hE z hz
 refine bf.A0 ho (fun g hg=>heap_setCell_other _ _ _ _ ?_)
 rcases List.mem_cons.1 hz with rfl|hz
 ·exact bf.tyAt_apart (bf.A8 ho hg) hT h1.symm
 ·obtain⟨c,_,rfl⟩:=List.mem_map.1 hz
  exact bf.tyAt_apart (bf.A8 ho hg) hT h2.symm
theorem Q8(b:Nat)(p:pl.Pln)(x:pl.PA)(s:Jn)(y:JX)(t:Value)(T:TypeId)(ra:Option Addr)(rn rc:Nat)(row:List Cel)(L:List CO)(base:Nat)(w0 w:World)(h:boxC w b p x s y t)(hT:bf.Ar w b T)(h1:T≠55)(h2:T≠103)(hc:CG w0 base t L)(hb:Bwz w0 w)(hv:AA w w0.heap.size (.slice ra rn rc) row)(hl:L.length<=1000000):
 Calls Tryz.prog 271 #[.pointer (some ⟨b,0,none⟩),.slice ra rn rc] w fun e w'=>e= .returned (.tuple #[])/\∃t',boxC w' b p x s y t'/\CG w' base t' (L++[⟨1,.slice ra rn rc,row⟩])/\OY w w' b t:=by
 have ht:=h.told
 have hc1:=hc.below hb
 have ho:=hc1.own
 have HB:Hid (boxC w b p x s y t):=h
 have HC:Hid (CG w0 base t L/\Bwz w0 w/\AA w w0.heap.size (.slice ra rn rc) row/\bf.Ar w b T):=⟨hc,hb,hv,hT⟩
 have hlow:base<=w.heap.size:=Est.low hc1
 have hbl:=h.lt
 have hnt:t.ownBlock≠some b:=fun e=>bf.tyAt_apart (bf.A8 ho e) hT h1.symm rfl
 obtain⟨ln,hln⟩:=nM L.length
 have HLN:Hid ((L.map CO.pair).length=ln):=by show _=_;rw[lMp,hln]
 rw[hln]at ho hl
 clear hc hb hv h hc1
 go_enter func271,ntmps271
 go_wp2_with (at_builtin;refine OX rfl (.tmp 8) (.tmp 11) rfl base t (L.map CO.pair) 1 ra rn rc w ln HLN.out ho (by omega) hlow rfl rfl ?_;intro g cap2 w2 hx hg hat hgl;have hbk:w2.heap[b]? =w.heap[b]? :=(hg.block b (by simp;omega) (fun e=>hnt e.symm)).trans (Below.heap_alloc _ _ _ hbl);have HB2:Hid (boxC w2 b p x s y t):=Gs HB.out hbk;have ht2:=HB2.out.told;have hf2:w2.frozen? ⟨b,22,none⟩=false:=(by have:=(HB2.out.room 22 (by decide)).2;simpa using this))
 refine bodyPost_end (v:=.tuple #[]) (by simp[results,results271,go_sem]) rfl ⟨rfl,.slice (some ⟨g,0,none⟩) (ln+1) cap2,M9 HB2.out _,?_,?_⟩
 ·obtain⟨k1,k2,k3,k4⟩:=HC.out
  exact N0 (CG.add k1 k2 k3 hg (by rw[hln];exact hx) (fun g' e=>by
   have e2:g=g':=by cases e;rfl
   subst e2
   exact hat.imp id (fun e=>by omega))) (bf.AH k4 hbk) h1 h2 _ _
 ·refine⟨⟨hg.os,hg.tape,hg.output,by have:=hg.size;simp[World.setCell]at this⊢;omega,fun k hk=>absurd hk (Nat.not_lt_zero k)⟩,fun g' hl' hb' ht'=>?_,fun T' hT'=>bf.AM (bf.AH hT' hbk) _ _⟩
  rw[heap_setCell_other _ _ _ _ (by exact hb')]
  exact(hg.block g' (by simp;omega) (fun e=>ht' e.symm)).trans (Below.heap_alloc _ _ _ hl')
end jn
end Go.Proofs.YtdohnkkbkfhphaaGreat
