import Derived.Test.YtdohnkkbkfhphaaGreatPc22
import Derived.Deep.Onto
set_option linter.all false
set_option maxHeartbeats 8000000
set_option maxRecDepth 100000
namespace Go.Proofs.YtdohnkkbkfhphaaGreat
open Go.Proofs.Tryz
namespace ch
open Go.ChangeShapes Go.WideShapes Go.ChangeAt Go.RowKit Go.Maps Go.WideMaps
open vl
variable {kv : KV} {k : List UInt8} {n : Int} {w w' w1 w2 : World} {B C base g size : Nat} {r : List Cel} {e : TypeId} {v : Value} {xs : List Value} {o row : Option Nat}
structure Cnt where
 r:List Cel
 n:Int
instance:Inhabited Cnt:=⟨⟨[],0⟩⟩
def viewAt(w:World)(a:Option Addr)(v:List Cnt):Prop:=
 ∀i,i<v.length->∃b off ra rc,a=some ⟨b,off,none⟩/\w.cell? ⟨b,off+i * 2,none⟩=some (.slice ra (v.getD i default).r.length rc)/\vl.rowAt w ra (v.getD i default).r/\w.cell? ⟨b,off+i * 2+1,none⟩=some (.int .i64 (v.getD i default).n)
def DO(v:List Cnt):Prop:=∀c∈v,BE c.r/\c.r.length<=9223372036854775807/\(-9223372036854775808<=c.n/\c.n<=9223372036854775807)
theorem Qz{v:List Cnt}(h:DO v)(k:Nat)(hk:k<v.length):BE (v.getD k default).r/\(v.getD k default).r.length<=9223372036854775807/\(-9223372036854775808<=(v.getD k default).n/\(v.getD k default).n<=9223372036854775807):=
 h _ (by simp[gDe,hk])
def F1(v:List Cnt)(i:Nat):Prop:=
 Au (v.getD i default).r=0/\1<=(v.getD i default).n/\(v.getD i default).n<=1073741824/\(0<i->Bc (v.getD (i - 1) default).r (v.getD i default).r<0)
def DP(v:List Cnt):Prop:=v.length<=4096/\∀i,i<v.length->F1 v i
instance(v:List Cnt)(i:Nat):Decidable (F1 v i):=by unfold F1;infer_instance
instance(v:List Cnt):Decidable (DP v):=by unfold DP;infer_instance
def Bf(v:List Cnt):Int:=if 4096<v.length then 2 else if DP v then 0 else 1
theorem Nu{v:List Cnt}(h:4096<v.length):Bf v=2:=by unfold Bf;rw[if_pos h]
theorem Q0{v:List Cnt}(h:DP v):Bf v=0:=by
 have h1:=h.1
 unfold Bf;rw[if_neg (by omega),if_pos h]
theorem OM{v:List Cnt}(h1:¬4096<v.length)(i:Nat)(hi:i<v.length)(h:¬F1 v i):Bf v=1:=by
 unfold Bf;rw[if_neg h1,if_neg (fun hv=>h (hv.2 i hi))]
def AK(v:List Cnt):KV:=v.map fun c=>(encR c.r,c.n)
theorem Ti(h:∀p∈kv,bytesBefore p.1 k=true):Ik kv k n=kv++[(k,n)]:=by
 have hd:GU kv k=kv:=by
  unfold GU
  rw[List.filter_eq_self]
  intro p hp
  have h1:=h p hp
  by_cases e:p.1=k
  ·rw[e,Dr]at h1
   exact absurd (of_decide_eq_true h1) (List.lt_irrefl k)
  ·simpa using e
 unfold Ik
 rw[hd]
 clear hd
 induction kv with
 |nil=>rfl
 |cons y r ih=>
  rw[insK]
  have h1:=h y (List.mem_cons_self ..)
  have h2:bytesBefore k y.1=false:=by
   rw[Dr]at h1⊢
   exact decide_eq_false (List.lt_asymm (of_decide_eq_true h1))
  rw[h2,if_neg (by decide),ih (fun p hp=>h p (List.mem_cons_of_mem _ hp))]
  rfl
theorem Tj(v:List Cnt)(c:Cnt):AK (v++[c])=AK v++[(encR c.r,c.n)]:=by simp[AK]
theorem Yh(v:List Cnt)(k:Nat)(h:k<v.length):v.take (k+1)=v.take k++[v.getD k default]:=by
 rw[List.take_succ_eq_append_getElem h];simp[gDe,h]
theorem LW{a b:List Cel}(ha:rowOk a)(hb:rowOk b)(h:Bc a b<0):bytesBefore (encR a) (encR b)=true:=by
 have h1:=Mq a b ha.2 hb.2
 have h2:=I3 (encR a) (encR b)
 rw[Dr]
 rw[h1]at h2
 rw[h2]at h
 split at h
 ·rename_i hl
  rw[EL]at hl
  exact hl
 ·split at h<;>omega
theorem Nv{v:List Cnt}{i:Nat}(hw:DO v)(hi:i<v.length)(h:F1 v i):rowOk (v.getD i default).r:=by
 have h1:=h.1
 unfold Au at h1
 split at h1
 ·cases h1
 ·rename_i h8
  exact⟨by omega,fun c hc=>⟨IM h1 c hc,(Qz hw i hi).1 c hc⟩⟩
theorem before_trans{a b c:List UInt8}(h1:bytesBefore a b=true)(h2:bytesBefore b c=true):bytesBefore a c=true:=by
 rw[Dr]at *
 exact decide_eq_true (List.lt_trans (of_decide_eq_true h1) (of_decide_eq_true h2))
theorem M6{v:List Cnt}(hw:DO v)(k:Nat)(hk:k<v.length)(h:∀i,i<=k->F1 v i):∀i,i<k->bytesBefore (encR (v.getD i default).r) (encR (v.getD k default).r)=true:=by
 induction k with
 |zero=>intro i hi;exact absurd hi (Nat.not_lt_zero i)
 |succ k ih=>
  intro i hi
  have hstep:bytesBefore (encR (v.getD k default).r) (encR (v.getD (k+1) default).r)=true:=by
   have h1:=h (k+1) nR
   exact LW (Nv hw (by omega) (h k (by omega))) (Nv hw hk h1) (by have:=h1.2.2.2 (by omega);simpa using this)
  rcases Nat.lt_succ_iff_lt_or_eq.1 hi with h1|h1
  ·exact before_trans (ih (by omega) (fun j hj=>h j (by omega)) i h1) hstep
  ·rw[h1];exact hstep
theorem YE{v:List Cnt}(hw:DO v)(k:Nat)(hk:k<v.length)(h:∀i,i<=k->F1 v i):∀p∈AK (v.take k),bytesBefore p.1 (encR (v.getD k default).r)=true:=by
 intro p hp
 unfold AK at hp
 obtain⟨c,hc,rfl⟩:=List.mem_map.1 hp
 obtain⟨i,hi,rfl⟩:=List.getElem_of_mem hc
 rw[List.length_take]at hi
 have e:(v.take k)[i]'(by rw[List.length_take];omega)=v.getD i default:=by
  rw[List.getElem_take]
  simp[gDe,show i<v.length by omega]
 rw[e]
 exact M6 hw k hk h i (by omega)
theorem Xt{v:List Cnt}(hw:DO v)(k:Nat)(hk:k<v.length)(h:∀i,i<=k->F1 v i):Ik (AK (v.take k)) (encR (v.getD k default).r) (v.getD k default).n=AK (v.take (k+1)):=by
 rw[Ti (YE hw k hk h),Yh v k hk,Tj]
theorem Tk{v:List Cnt}(hw:DO v)(h:DP v):rising (AK v):=by
 unfold rising AK
 rw[List.pairwise_map,List.pairwise_iff_getElem]
 intro i j hi hj hij
 have e1:v[i]=v.getD i default:=by simp[gDe,hi]
 have e2:v[j]=v.getD j default:=by simp[gDe,hj]
 rw[e1,e2]
 exact M6 hw j hj (fun m hm=>h.2 m (by omega)) i hij
theorem Vq(n:Int)(w:World):(Instr.makeMap 115 (some (.int .i64 n))).run Tryz.prog w= .ok (.map (some w.heap.size)) (w.alloc (.map #[] 0)):=by
 unfold Instr.makeMap
 simp[run_underlying underlying115,go_sem,asInt,Result.andThen]
theorem Tl(w:World):CS (w.alloc (.map #[] 0)) w.heap.size 0 []:=World.ownsMap_made _ _ _ _
theorem ON{nn:Nat}(h:w'.ownsMap Tryz.prog 9 (plainElem (H:=Unit) Tryz.prog 3) B (nn+1) ((toD kv).put (.string k) (.lit (.int .i64 n)))):CS w' B (nn+1) (Ik kv k n):=by
 rw[Nt]at h;exact h
theorem Lm(h:Au r=0)(hw:BE r):rowOk r:=by
 unfold Au at h
 split at h
 ·cases h
 ·rename_i h8
  exact⟨by omega,fun c hc=>⟨IM h c hc,hw c hc⟩⟩
theorem Tm{p:Nat->Prop}{j:Nat}(h:∀i,i<j->p i)(hj:p j):∀i,i<=j->p i:=fun i hi=>by
 rcases Nat.lt_or_ge i j with h1|h1
 ·exact h i h1
 ·rw[show i=j by omega];exact hj
theorem B7(x:Int):IntKind.i64.wrap x=(x+9223372036854775808) % 18446744073709551616 - 9223372036854775808:=by
 simp only[IntKind.wrap,IntKind.signed,IntKind.bits]
 simp
 split<;>omega
def Tn(v:List Cnt)(base:Nat)(e:Ending)(w':World):Prop:=
 (Bf v=0/\DP v/\∃B,e= .returned (.tuple #[.map (some B),.int .i64 0])/\base<=B/\CS w' B v.length (AK v))\/
 (Bf v≠0/\e= .returned (.tuple #[.map none,.int .i64 (Bf v)]))
theorem Im{a b:Int}(h:a=b):Ending.returned (.tuple #[.map none,.int .i64 a])= .returned (.tuple #[.map none,.int .i64 b]):=by rw[h]
attribute [local go_sem ↓] Go.wp_at_zero Go.wp_at_succ
theorem Q1(a:Option Addr)(cap:Nat)(v:List Cnt)(w:World)(hv:viewAt w a v)(hw:DO v)(hl:v.length<=9223372036854775807):
 Calls Tryz.prog 69 #[.slice a v.length cap] w fun e w'=>Tn v w.heap.size e w'/\Bwz w w':=by
 obtain⟨n,hn⟩:∃n,v.length=n:=⟨_,rfl⟩
 have HN:Hid (v.length=n):=hn
 rw[hn]at hl⊢
 clear hn
 have hmm:=Vq
 by_cases h4:4096<n
 ·have HE:Hid (Bf v=2):=Nu (by rw[HN.out];exact h4)
  go_enter func69,ntmps69
  go_wp2
  go_ret2
  exact⟨.inr ⟨by rw[HE.out];decide,Im HE.out.symm⟩,bR⟩
 ·go_enter func69,ntmps69
  go_wp2
  go_loopw [17] (fun i wr=> ∃k:Nat,k<=n/\i= .int .i64 k/\CS wr w.heap.size k (AK (v.take k))/\Bwz w wr/\(∀i,i<k->F1 v i)) (fun i _=>n - (intOf i).toNat)
  case atStart=>exact⟨0,by omega,rfl,Tl w,bR.alloc nR _,fun i hi=>absurd hi (Nat.not_lt_zero i)⟩
  case round=>
   obtain⟨k,hk,rfl,hcm,hnx,hall⟩:=hrel
   have HC:Hid (CS wr w.heap.size k (AK (v.take k))):=hcm
   have HA:Hid (∀i,i<k->F1 v i):=hall
   have hsz:=hnx.size
   have hBlt:=JF hcm
   clear hcm hall
   by_cases hlt:k<n
   ·have hkv:k<v.length:=by rw[HN.out];exact hlt
    obtain⟨b,o,ra,rc,e,x1,x2,x3⟩:=hv k hkv
    subst e
    obtain⟨ww1,ww2,ww3,ww4⟩:=Qz hw k hkv
    have q1:=cLz hnx x1
    have q3:=cLz hnx x3
    have HR:Hid (vl.rowAt wr ra (v.getD k default).r):=Ac x2 hnx
    have i1:(0:Int)<=(k:Int):=by omega
    have i2:(k:Int)<(n:Int):=by omega
    have HB:Hid (¬F1 v k->Bf v=1):=OM (by rw[HN.out];exact h4) k hkv
    have HS:Hid ((∀i,i<=k->F1 v i)->Ik (AK (v.take k)) (encR (v.getD k default).r) (v.getD k default).n=AK (v.take (k+1))):=Xt hw k hkv
    have HOK:Hid (F1 v k->rowOk (v.getD k default).r):=fun h=>Nv hw hkv h
    have HDEF:Hid (F1 v k↔Au (v.getD k default).r=0/\1<=(v.getD k default).n/\(v.getD k default).n<=1073741824/\(0<k->Bc (v.getD (k - 1) default).r (v.getD k default).r<0)):=Iff.rfl
    obtain⟨⟨r,m⟩,hcv⟩:∃c,v.getD k default=c:=⟨_,rfl⟩
    rw[hcv]at q1 q3 HR HS HOK HDEF ww1 ww2 ww3 ww4
    dsimp only at q1 q3 HR HS HOK HDEF ww1 ww2 ww3 ww4
    clear x1 x2 x3
    obtain⟨rl,hrl⟩:∃l,r.length=l:=⟨_,rfl⟩
    rw[hrl]at q1
    have KK:Hid (∀w,vl.rowAt w ra r->CTz 109 #[.slice ra rl rc] w fun e w'=>e= .returned (.tuple #[.string (E9 r),.int .i64 (Au r)])/\Bwz w w'):=by
     subst hrl;exact fun w h=>JB ra rc r w h ww1 ww2
    by_cases e1:Au r=0
    ·by_cases e2:m<1
     ·have HE:Hid (Bf v=1):=HB.out (fun h=>by have:=(HDEF.out.1 h).2.1;omega)
      go_wp2_with (go_at_call 109;refine(KK.out _ (Ac HR.out (bR.alloc nR _))).mono ?_;rintro e wa ⟨rfl,hba⟩;have g0:=cLz hba (a:=⟨wr.heap.size,0,none⟩) (v:=.slice ra rl rc) (by go_simp);have g1:=cLz hba (a:=⟨wr.heap.size,1,none⟩) (v:=.int .i64 m) (by go_simp);have hla:=(hnx.alloc hsz _).trans (hba.mono (by simp;omega));have HCW:=BV (Dj HC.out _) hba;have hbw:Bwz wr wa:=(bR.alloc nR _).trans (hba.mono (by simp)))
      go_ret2
      exact⟨.inr ⟨by rw[HE.out];decide,Im HE.out.symm⟩,hla⟩
     ·have e2':decide (m<1)=false:=decide_eq_false e2
      by_cases e3:1073741824<m
      ·have HE:Hid (Bf v=1):=HB.out (fun h=>by have:=(HDEF.out.1 h).2.2.1;omega)
       go_wp2_with (go_at_call 109;refine(KK.out _ (Ac HR.out (bR.alloc nR _))).mono ?_;rintro e wa ⟨rfl,hba⟩;have g0:=cLz hba (a:=⟨wr.heap.size,0,none⟩) (v:=.slice ra rl rc) (by go_simp);have g1:=cLz hba (a:=⟨wr.heap.size,1,none⟩) (v:=.int .i64 m) (by go_simp);have hla:=(hnx.alloc hsz _).trans (hba.mono (by simp;omega));have HCW:=BV (Dj HC.out _) hba;have hbw:Bwz wr wa:=(bR.alloc nR _).trans (hba.mono (by simp)))
       go_ret2
       exact⟨.inr ⟨by rw[HE.out];decide,Im HE.out.symm⟩,hla⟩
      ·have e3':decide (1073741824<m)=false:=decide_eq_false e3
       have hok8:rowOk r:=Lm e1 ww1
       have HKS:Hid ((E9 r).data.toList=encR r):=Ii hok8
       have HKL:Hid ((E9 r).size<=maxLen):=Nat.le_trans (OA hok8) (by unfold maxLen;omega)
       obtain⟨ks,hks⟩:∃s,E9 r=s:=⟨_,rfl⟩
       rw[hks]at KK HKS HKL
       have HKY:Hid (keyOf Tryz.prog 9 (.string ks)=some (.string (encR r))):=by
        have h:=keyOf_string_mk underlying9 HKL.out
        rw[HKS.out]at h
        exact h
       clear hks hok8
       by_cases e4:k=0
       ·subst e4
        simp only[Nat.zero_mul,Nat.add_zero]at q1 q3
        have HE:Hid (F1 v 0):=HDEF.out.2 ⟨e1,by omega,by omega,fun h=>absurd h (by omega)⟩
        go_wp2_with (go_at_call 109;refine(KK.out _ (Ac HR.out (bR.alloc nR _))).mono ?_;rintro e wa ⟨rfl,hba⟩;have g0:=cLz hba (a:=⟨wr.heap.size,0,none⟩) (v:=.slice ra rl rc) (by go_simp);have g1:=cLz hba (a:=⟨wr.heap.size,1,none⟩) (v:=.int .i64 m) (by go_simp);have hla:=(hnx.alloc hsz _).trans (hba.mono (by simp;omega));have HCW:=BV (Dj HC.out _) hba;have hbw:Bwz wr wa:=(bR.alloc nR _).trans (hba.mono (by simp)))
        go_quiet (fail)
        have HCD:CS (wa.drewN nq) w.heap.size 0 (AK (v.take 0)):=HCW
        have hld:=below_drewN hla nq
        go_wp2_with (at_mapUpdate;refine wpList_mapUpdate_own _ rfl (.tmp 54) (.tmp 55) (.tmp 57) 115 rfl 9 3 law underlying115 _ w.heap.size 0 _ rfl HCD (by unfold maxLen;omega) _ _ (.string (encR r)) rfl rfl HKY.out _ [] (plainElem_int underlying3 (WalkArith.wf_i64 (by omega))) ?_;intro w1 hown1 hgrow1)
        go_roundw
        case rel=>exact⟨0+1,by omega,by go_num,by rw[<-HS.out (fun i hi=>by rw[show i=0 by omega];exact HE.out)];exact ON hown1,hld.grown hgrow1 hld.size (fun j hj=>by cases hj;exact Nat.le_refl _),fun i hi=>by rw[show i=0 by omega];exact HE.out⟩
        case measure=>simp[intOf];omega
       ·obtain⟨j,rfl⟩:∃j,k=j+1:=⟨k - 1,by omega⟩
        have hjv:j<v.length:=by rw[HN.out];omega
        obtain⟨b',o',pa,pc,e',y1,y2,y3⟩:=hv j hjv
        cases e'
        have p1:=cLz hnx y1
        have HPR:Hid (vl.rowAt wr pa (v.getD j default).r):=Ac y2 hnx
        obtain⟨vv1,vv2,_,_⟩:=Qz hw j hjv
        have HD2:Hid (F1 v (j+1)↔Au r=0/\1<=m/\m<=1073741824/\(Bc (v.getD j default).r r<0)):=by
         show F1 v (j+1)↔_
         rw[HDEF.out]
         simp
        obtain⟨pr,hpr⟩:∃c,(v.getD j default).r=c:=⟨_,rfl⟩
        rw[hpr]at p1 HPR HD2 vv1 vv2
        clear y1 y2 y3 hpr HDEF e4
        obtain⟨pl,hpl⟩:∃l,pr.length=l:=⟨_,rfl⟩
        rw[hpl]at p1
        have KR:Hid (∀w,vl.rowAt w pa pr->vl.rowAt w ra r->CTz 130 #[.slice pa pl pc,.slice ra rl rc] w fun e w'=>e= .returned (.int .i64 (Bc pr r))/\Bwz w w'):=by
         subst hpl hrl;exact fun w h h'=>Wi pa ra pc rc pr r w h h' vv2 ww2
        have hj1:(0:Int)<((j:Int)+1):=by omega
        have hj2:((j:Int))<(n:Int):=by omega
        have hj3:(0:Int)<=(j:Int):=by omega
        have hwj1:IntKind.i64.wrap ((j:Int)+1 - 1)=(j:Int):=by rw[B7];omega
        have hwj2:IntKind.i64.wrap (j:Int)=(j:Int):=by rw[B7];omega
        obtain⟨cc,hcc⟩:∃c,Bc pr r=c:=⟨_,rfl⟩
        rw[hcc]at KR HD2
        clear hcc hpl hrl vv1 vv2
        by_cases e5:0<=cc
        ·have HE:Hid (Bf v=1):=HB.out (fun h=>by have:=(HD2.out.1 h).2.2.2;omega)
         go_wp2_with (go_at_call 109;refine(KK.out _ (Ac HR.out (bR.alloc nR _))).mono ?_;rintro e wa ⟨rfl,hba⟩;have g0:=cLz hba (a:=⟨wr.heap.size,0,none⟩) (v:=.slice ra rl rc) (by go_simp);have g1:=cLz hba (a:=⟨wr.heap.size,1,none⟩) (v:=.int .i64 m) (by go_simp);have hla:=(hnx.alloc hsz _).trans (hba.mono (by simp;omega));have HCW:=BV (Dj HC.out _) hba;have hbw:Bwz wr wa:=(bR.alloc nR _).trans (hba.mono (by simp)))
         have p1a:=cLz hbw p1
         have HPA:Hid (vl.rowAt wa.drew pa pr):=Ac HPR.out hbw.drew
         have HRA:Hid (vl.rowAt wa.drew ra r):=Ac HR.out hbw.drew
         go_region_held3 (fun w'=>w'.cell? ⟨b,o+j * 2,none⟩=some (.slice pa pl pc)/\w'.cell? ⟨wr.heap.size,0,none⟩=some (.slice ra rl rc)) (first|go_keep|exact⟨cLz hbr p1a,cLz hbr g0⟩)
          (first|(go_at_call 130;refine(KR.out wa.drew HPA.out HRA.out).mono ?_;rintro e wq ⟨rfl,hbr⟩))
         all_goals
          go_wp2
          go_ret2
          exact⟨.inr ⟨by rw[HE.out];decide,Im HE.out.symm⟩,by first|exact hla.trans (hbr.mono hla.size)|exact hla.drew.trans (hbr.mono hla.size)⟩
        ·have HE:Hid (F1 v (j+1)):=HD2.out.2 ⟨e1,by omega,by omega,by omega⟩
         have e5':¬0<=cc:=e5
         go_wp2_with (go_at_call 109;refine(KK.out _ (Ac HR.out (bR.alloc nR _))).mono ?_;rintro e wa ⟨rfl,hba⟩;have g0:=cLz hba (a:=⟨wr.heap.size,0,none⟩) (v:=.slice ra rl rc) (by go_simp);have g1:=cLz hba (a:=⟨wr.heap.size,1,none⟩) (v:=.int .i64 m) (by go_simp);have hla:=(hnx.alloc hsz _).trans (hba.mono (by simp;omega));have HCW:=BV (Dj HC.out _) hba;have hbw:Bwz wr wa:=(bR.alloc nR _).trans (hba.mono (by simp)))
         have p1a:=cLz hbw p1
         have HPA:Hid (vl.rowAt wa.drew pa pr):=Ac HPR.out hbw.drew
         have HRA:Hid (vl.rowAt wa.drew ra r):=Ac HR.out hbw.drew
         go_region_held3 (fun w'=>w'.cell? ⟨b,o+j * 2,none⟩=some (.slice pa pl pc)/\w'.cell? ⟨wr.heap.size,0,none⟩=some (.slice ra rl rc)) (first|go_keep|exact⟨cLz hbr p1a,cLz hbr g0⟩)
          (first|(go_at_call 130;refine(KR.out wa.drew HPA.out HRA.out).mono ?_;rintro e wq ⟨rfl,hbr⟩))
         all_goals
          have hlq:Bwz w wq:=by first|exact hla.trans (hbr.mono hla.size)|exact hla.drew.trans (hbr.mono hla.size)
          have g1q:=cLz hbr g1
          have HCD:CS wa.drew w.heap.size (j+1) (AK (v.take (j+1))):=HCW
          have HCQ:=BV HCD hbr
          go_wp2_with (at_mapUpdate;refine wpList_mapUpdate_own _ rfl (.tmp 54) (.tmp 55) (.tmp 57) 115 rfl 9 3 law underlying115 _ w.heap.size (j+1) _ rfl HCQ (by unfold maxLen;omega) _ _ (.string (encR r)) rfl rfl HKY.out _ [] (plainElem_int underlying3 (WalkArith.wf_i64 (by omega))) ?_;intro w1 hown1 hgrow1)
          go_roundw
          case rel=>exact⟨j+1+1,by omega,by go_num,by rw[<-HS.out (Tm HA.out HE.out)];exact ON hown1,hlq.grown hgrow1 hlq.size (fun x hx=>by cases hx;exact Nat.le_refl _),fun i hi=>by
           rcases Nat.lt_or_ge i (j+1)with h|h
           ·exact HA.out i h
           ·rw[show i=j+1 by omega];exact HE.out⟩
          case measure=>simp[intOf];omega
    ·have e1':(Au r==0)=false:=by simpa using e1
     have HE:Hid (Bf v=1):=HB.out (fun h=>e1 (HDEF.out.1 h).1)
     go_wp2_with (go_at_call 109;refine(KK.out _ (Ac HR.out (bR.alloc nR _))).mono ?_;rintro e wa ⟨rfl,hba⟩;have g0:=cLz hba (a:=⟨wr.heap.size,0,none⟩) (v:=.slice ra rl rc) (by go_simp);have g1:=cLz hba (a:=⟨wr.heap.size,1,none⟩) (v:=.int .i64 m) (by go_simp);have hla:=(hnx.alloc hsz _).trans (hba.mono (by simp;omega));have HCW:=BV (Dj HC.out _) hba;have hbw:Bwz wr wa:=(bR.alloc nR _).trans (hba.mono (by simp)))
     go_ret2
     exact⟨.inr ⟨by rw[HE.out];decide,Im HE.out.symm⟩,hla⟩
   ·have hkn:k=n:=by omega
    have HT:Hid (v.take k=v):=List.take_of_length_le (by rw[HN.out];omega)
    have HO:Hid (DP v):=⟨by rw[HN.out];omega,fun i hi=>HA.out i (by rw[HN.out]at hi;omega)⟩
    go_wp2
    go_ret2
    exact⟨.inl ⟨Q0 HO.out,HO.out,w.heap.size,rfl,Nat.le_refl _,by have h:=HC.out;rw[HT.out,hkn]at h;rw[HN.out];exact h⟩,hnx⟩
theorem Ln:(Tryz.prog.info? 177).map (fun i=>(i.zero,i.size,i.bytes))=some (some (.agg #[.slice none 0 0,.int .i64 0]),2,32):=by kernel_rfl
theorem Fg(r:List Cel)(k:ByteArray)(w:World)(h:rowOk r)(hk:encR r=k.data.toList)(hl:k.size<=maxLen):
 Calls Tryz.prog 134 #[.string k] w fun e w'=>(∃ad cap,e= .returned (.slice ad r.length cap)/\AA w' w.heap.size (.slice ad r.length cap) r)/\Bwz w w':=by
 obtain⟨n,hn⟩:∃n,r.length=n:=⟨_,rfl⟩
 have KB:=O8 k r w hl h hk
 rw[hn]at KB⊢
 clear hn
 go_enter func134,ntmps134
 go_wp2_with fail
 refine KB.mono ?_
 rintro e w1 ⟨⟨ad,cap,rfl,ho⟩,hb⟩
 go_wp2
 go_ret
 exact⟨⟨ad,cap,rfl,ho⟩,hb⟩
theorem own_below{n:Nat}(h:w.ownsRow base e size v n xs)(hb:Bwz w w'):w'.ownsRow base e size v n xs:=by
 refine⟨h.1,?_⟩
 rcases h.2 with h0|⟨g,cap,cur,hv,h1,hg,h2⟩
 ·exact .inl h0
 ·have hlt:g<w.heap.size:=by
   rcases Nat.lt_or_ge g w.heap.size with hlt|hge
   ·exact hlt
   ·rw[Array.getElem?_eq_none hge]at hg;cases hg
  exact .inr ⟨g,cap,cur,hv,h1,by rw[hb.block g hlt];exact hg,h2⟩
def flat(l:List (Value×Int)):List Value:=l.flatMap fun p=>[p.1,.int .i64 p.2]
theorem IC(l:List (Value×Int))(x:Value)(n:Int):flat (l++[(x,n)])=flat l++[x,.int .i64 n]:=by
 unfold flat;rw[List.flatMap_append];simp
theorem Vr{ops:Array Oper}{o:Oper}{a:Act}{K:Act->World->Prop}{Q:Exit->Act->World->Prop}{E:Prop}(hgd:o.guard=none)(s x:Operand)
 (hop:o.op= .call {callee:=.builtin .append,args:=#[s,x],argTypes:=#[74,74]})
 (base:Nat) (v:Value) (l:List (Value×Int)) (n:Int) (ad:Option Addr) (rl cap:Nat) (w1:World) (ln:Nat) (hln:l.length=ln) (ho:w1.ownsRow base 177 2 v ln (flat l)) (hl:ln<=1000000) (hb:base<=w1.heap.size)
 (hs:a.eval s=v) (hx:a.eval x= .slice (some ⟨w1.heap.size,0,none⟩) 1 1)
 (h:∀g cap2 w2,w2.ownsRow base 177 2 (.slice (some ⟨g,0,none⟩) (ln+1) cap2) (ln+1) (flat (l++[(.slice ad rl cap,n)]))->(w1.alloc (.cells #[.slice ad rl cap,.int .i64 n] 177)).grownBy w2 v.ownBlock->(v.ownBlock=some g\/g=w1.heap.size+1)->g<w2.heap.size->K (a.put o.dst (.slice (some ⟨g,0,none⟩) (ln+1) cap2)) w2):
 if Region.wanted o (yielded ops a.tmps)=true then Oper.wp Tryz.prog o a (w1.alloc (.cells #[.slice ad rl cap,.int .i64 n] 177)) K Q else E:=by
 obtain⟨i0,hi,hz0,hz1,hz2⟩:=info_parts Ln
 refine step_append_lies _ hgd s x 74 hop base 177 i0 (.agg #[.slice none 0 0,.int .i64 0]) 2 32 underlying74 hi hz0 hz1 hz2 rfl (by decide) v ln (flat l) hs
  (ho.alloc _) ⟨w1.heap.size,0,none⟩ 1 1 [.slice ad rl cap,.int .i64 n] hx rfl (cell_two_new _ _ _ _) (by intro u hu;simp at hu;rcases hu with rfl|rfl<;>rfl) (by decide) (by unfold maxLen;omega) (by omega) (by simp;omega) (w1.heap.size+1) (by simp) ?_
 intro g cap2 w2 h2 h3 h4 h5
 exact h g cap2 w2 (by rw[IC];exact h2) h3 h4 h5
theorem OO{o:Obj}(hg:(w1.alloc o).grownBy w2 row)(hc:w1.cell? ⟨C,0,none⟩=some v)(hne:row≠some C):w2.cell? ⟨C,0,none⟩=some v:=by
 have hlt:=bLt _ _ hc
 refine hg.cell ?_ (fun h=>hne h.symm)
 rw[World.cell?_alloc_lt]
 ·exact hc
 ·exact hlt
theorem Lo{o:Obj}(hg:(w1.alloc o).grownBy w2 row)(hc:w1.cell? ⟨C,0,none⟩=some v)(hne:row≠some C)(hf:w1.frozen? ⟨C,0,none⟩=false):w2.frozen? ⟨C,0,none⟩=false:=by
 have hlt:=bLt _ _ hc
 have hlt':C<w1.heap.size:=hlt
 rw[hg.frozen_far ⟨C,0,none⟩ (by simp;omega) (fun h=>hne h.symm)]
 have hb:=((Below.refl w1.heap.size w1).alloc nR o).frozen (p:=⟨C,0,none⟩) hlt'
 exact hb.trans hf
theorem Vs(C base:Nat)(k:ByteArray)(n:Int)(v:Value)(l:List (Value×Int))(r:List Cel)(w:World)(hc:w.cell? ⟨C,0,none⟩=some v)(hf:w.frozen? ⟨C,0,none⟩=false)
 (ho:w.ownsRow base 177 2 v l.length (flat l)) (hCv:v.ownBlock≠some C) (hl:l.length<=1000000) (hb:base<=w.heap.size) (hr:rowOk r) (hk:encR r=k.data.toList) (hkl:k.size<=maxLen):
 Calls Tryz.prog 133 #[.string k,.int .i64 n,.pointer (some ⟨C,0,none⟩)] w fun e w'=>e= .returned (.tuple #[])/\∃w1 w2 ad cap g cap2,
  Below w.drew.heap.size w.drew w1/\AA w1 w.heap.size (.slice ad r.length cap) r/\w2.ownsRow base 177 2 (.slice (some ⟨g,0,none⟩) (l.length+1) cap2) (l.length+1) (flat (l++[(.slice ad r.length cap,n)]))/\
  (w1.alloc (.cells #[.slice ad r.length cap,.int .i64 n] 177)).grownBy w2 v.ownBlock/\(v.ownBlock=some g\/g=w1.heap.size+1)/\w'=w2.setCell ⟨C,0,none⟩ (.slice (some ⟨g,0,none⟩) (l.length+1) cap2):=by
 have hclt:=bLt _ _ hc
 have HF:=Fg r k w.drew hr hk hkl
 obtain⟨rl,hrl⟩:∃x,r.length=x:=⟨_,rfl⟩
 have HRL:Hid (r.length=rl):=hrl
 rw[hrl]at HF
 obtain⟨ln,hln⟩:∃x,l.length=x:=⟨_,rfl⟩
 have HLN:Hid (l.length=ln):=hln
 rw[hln]at ho hl
 obtain⟨i0,hi,hz0,hz1,hz2⟩:=info_parts Ln
 have HI:Hid (Tryz.prog.info? 177=some i0/\i0.zero=some (.agg #[.slice none 0 0,.int .i64 0])/\i0.size=2/\i0.bytes=32):=⟨hi,hz0,hz1,hz2⟩
 have HFF:Hid (CTz 134 #[.string k] w.drew fun e w'=>(∃ad cap,e= .returned (.slice ad rl cap)/\AA w' w.drew.heap.size (.slice ad rl cap) r)/\Below w.drew.heap.size w.drew w'):=HF
 have HO:Hid (w.drew.ownsRow base 177 2 v ln (flat l)):=ho.drew
 clear HF hrl hln hi hz0 hz1 hz2 ho
 go_enter func133,ntmps133
 go_wp2
 go_region_law (first
  |(refine Vr (by rfl) (.tmp 5) (.tmp 10) (by rfl) base v l n ad rl cap w1 ln HLN.out HO1.out hl (Nat.le_trans hb hb1.size) (by rfl) (by rfl) ?_;intro g cap2 w2 hown2 hgrow2 hat2 hlt2;have hc2:w2.cell? ⟨C,0,none⟩=some v:=OO hgrow2 hc1 hCv;have hf2:w2.frozen? ⟨C,0,none⟩=false:=Lo hgrow2 hc1 hCv ((hb1.frozen (p:=⟨C,0,none⟩) hclt).trans hf))
  |(go_simp;go_at_call 134;refine HFF.out.mono ?_;rintro e w1 ⟨⟨ad,cap,rfl,hov⟩,hb1⟩;have hc1:w1.cell? ⟨C,0,none⟩=some v:=cLz hb1 hc;have hc1a:∀o,(w1.alloc o).cell? ⟨C,0,none⟩=some v:=fun o=>cLz (bR.alloc nR o) hc1;have HO1:Hid (w1.ownsRow base 177 2 v ln (flat l)):=own_below HO.out hb1))
 all_goals
  go_wp2
  go_end0
  refine⟨rfl,w1,w2,ad,cap,g,cap2,hb1,?_,?_,?_,hat2,?_⟩
  ·rw[HRL.out];exact hov
  ·rw[HLN.out,HRL.out];exact hown2
  ·rw[HRL.out];exact hgrow2
  ·rw[HLN.out]
theorem A0{n:Nat}(h:w.ownsRow base e size v n xs)(hb:∀g,v.ownBlock=some g->w'.heap[g]? =w.heap[g]?):w'.ownsRow base e size v n xs:=by
 refine⟨h.1,?_⟩
 rcases h.2 with h0|⟨g,cap,cur,hv,h1,hg,h2⟩
 ·exact .inl h0
 ·exact .inr ⟨g,cap,cur,hv,h1,by rw[hb g (by rw[hv];rfl)];exact hg,h2⟩
structure fr(C:Nat)(o:Option Nat)(w w':World):Prop where
 os:w'.os=w.os
 tape:w'.tape=w.tape
 output:w'.output=w.output
 size:w.heap.size<=w'.heap.size
 block:∀b,b<w.heap.size->b≠C->o≠some b->w'.heap[b]? =w.heap[b]?
theorem Vt{a:World}(h:Below B a w)(k:fr C o w w')(hC:B<=C)(ho:∀b,o=some b->B<=b)(hB:B<=w.heap.size):Below B a w':=
 h.trans ⟨k.os,k.tape,k.output,k.size,fun b hb=>k.block b (by omega) (by omega) (fun e=>by have:=ho b e;omega)⟩
theorem Vu(h:Bwz w w'):fr C o w w':=⟨h.os,h.tape,h.output,h.size,fun b hb _ _=>h.block b hb⟩
theorem OQ{o2:Option Nat}(h:fr C o w w1)(k:fr C o2 w1 w2)(ho:o2=o\/∃g,o2=some g/\w.heap.size<=g):fr C o w w2:=
 ⟨k.os.trans h.os,k.tape.trans h.tape,k.output.trans h.output,Nat.le_trans h.size k.size,fun b hb hC hne=>by
  have h1:=h.block b hb hC hne
  rw[<-h1]
  refine k.block b (Nat.lt_of_lt_of_le hb h.size) hC ?_
  rcases ho with rfl|⟨g,rfl,hg⟩
  ·exact hne
  ·intro e;cases e;omega⟩
theorem Xu(h:fr C o w w'){p:Addr}(hp:p.block<w.heap.size)(hC:p.block≠C)(ho:o≠some p.block):w'.cell? p=w.cell? p:=cOb (w:=w) (h.block p.block hp hC ho)
structure VS(w:World)(C base:Nat)(v:Value)(out:List Cnt):Prop where
 cell:w.cell? ⟨C,0,none⟩=some v
 frz:w.frozen? ⟨C,0,none⟩=false
 apart:v.ownBlock≠some C
 low:base<=w.heap.size
 rows:∃l:List (Value×Int),l.length=out.length/\w.ownsRow base 177 2 v l.length (flat l)/\∀i,i<out.length->
  (l.getD i (.bool false,0)).2=(out.getD i default).n/\∃ad cap,(l.getD i (.bool false,0)).1= .slice ad (out.getD i default).r.length cap/\AA w base (.slice ad (out.getD i default).r.length cap) (out.getD i default).r/\
   ∀g,(Value.slice ad (out.getD i default).r.length cap).ownBlock=some g->g≠C/\v.ownBlock≠some g
theorem AD{n:Nat}(h:w.ownsRow base e size v n xs)(hg:v.ownBlock=some g):base<=g/\g<w.heap.size:=World.ownsRow.lt h g hg
theorem In{α:Type}(l:List α)(x d:α)(i:Nat)(h:i<l.length):(l++[x]).getD i d=l.getD i d:=by
 simp only[gDe,List.getElem?_append_left h]
theorem Io{α:Type}(l:List α)(x d:α)(i:Nat)(h:i=l.length):(l++[x]).getD i d=x:=by
 subst h;simp[gDe]
theorem Xv{out:List Cnt}{l:List (Value×Int)}{ad:Option Addr}{cap cap2:Nat}(h:VS w C base v out)
 (hll:l.length=out.length) (hlo:w.ownsRow base 177 2 v l.length (flat l)) (hlr:∀i,i<out.length->
 (l.getD i (.bool false,0)).2=(out.getD i default).n/\∃ad cap,(l.getD i (.bool false,0)).1= .slice ad (out.getD i default).r.length cap/\AA w base (.slice ad (out.getD i default).r.length cap) (out.getD i default).r/\
  ∀g,(Value.slice ad (out.getD i default).r.length cap).ownBlock=some g->g≠C/\v.ownBlock≠some g)
 (hb1:Below w.drew.heap.size w.drew w1) (hov:AA w1 w.heap.size (.slice ad r.length cap) r) (hown2:w2.ownsRow base 177 2 (.slice (some ⟨g,0,none⟩) (l.length+1) cap2) (l.length+1) (flat (l++[(.slice ad r.length cap,n)])))
 (hg2:(w1.alloc (.cells #[.slice ad r.length cap,.int .i64 n] 177)).grownBy w2 v.ownBlock) (hat:v.ownBlock=some g\/g=w1.heap.size+1):
 VS (w2.setCell ⟨C,0,none⟩ (.slice (some ⟨g,0,none⟩) (l.length+1) cap2)) C base (.slice (some ⟨g,0,none⟩) (l.length+1) cap2) (out++[⟨r,n⟩])/\fr C v.ownBlock w (w2.setCell ⟨C,0,none⟩ (.slice (some ⟨g,0,none⟩) (l.length+1) cap2)):=by
 have hClt:C<w.heap.size:=bLt _ _ h.cell
 have hs1:w.heap.size<=w1.heap.size:=hb1.size
 have hs2:w1.heap.size+1<=w2.heap.size:=by have:=hg2.size;simpa using this
 have hc1:w1.cell? ⟨C,0,none⟩=some v:=cLz hb1 h.cell
 have hf1:w1.frozen? ⟨C,0,none⟩=false:=(hb1.frozen (p:=⟨C,0,none⟩) hClt).trans h.frz
 have hc2:=OO hg2 hc1 h.apart
 have hf2:=Lo hg2 hc1 h.apart hf1
 have hvlt:∀b,v.ownBlock=some b->base<=b/\b<w.heap.size:=fun b hb=>AD hlo hb
 have hgC:g≠C:=by
  rcases hat with h1|h1
  ·intro e;subst e;exact h.apart h1
  ·omega
 have hblk:∀b,b<w1.heap.size->b≠C->v.ownBlock≠some b->(w2.setCell ⟨C,0,none⟩ (.slice (some ⟨g,0,none⟩) (l.length+1) cap2)).heap[b]? =w1.heap[b]? :=fun b hb hne ho=>by
  rw[Below.heap_setCell _ _ _ b hne,hg2.block b (by simp;omega) (fun e=>ho e.symm)]
  exact Below.heap_alloc _ _ b hb
 have hfr:fr C v.ownBlock w (w2.setCell ⟨C,0,none⟩ (.slice (some ⟨g,0,none⟩) (l.length+1) cap2)):=by
  have hb0:=(((hb1.mono (Nat.zero_le _)).alloc (Nat.zero_le _) (.cells #[.slice ad r.length cap,.int .i64 n] 177)).grown hg2 (Nat.zero_le _) (fun _ _=>Nat.zero_le _)).setCell (p:=⟨C,0,none⟩) (Nat.zero_le _) (.slice (some ⟨g,0,none⟩) (l.length+1) cap2)
  exact⟨hb0.os,hb0.tape,hb0.output,hb0.size,fun b hb hne ho=>(hblk b (by omega) hne ho).trans (hb1.block b hb)⟩
 refine⟨⟨World.cell?_setCell_same _ _ _ hc2,by rw[World.frozen?_setCell];exact hf2,fun e=>hgC (by cases e;rfl),Nat.le_trans h.low hfr.size,?_⟩,hfr⟩
 refine⟨l++[(.slice ad r.length cap,n)],by rw[lAp,lAp,hll];rfl,?_,?_⟩
 ·rw[lAp]
  refine A0 hown2 (fun b hb=>?_)
  have:b=g:=by cases hb;rfl
  subst this
  exact Below.heap_setCell _ _ _ b hgC
 ·intro i hi
  rw[lAp]at hi
  by_cases hlt:i<out.length
  ·rw[In out _ _ i hlt,In l _ _ i (by omega)]
   obtain⟨e1,ad',cap',e2,e3,e4⟩:=hlr i hlt
   refine⟨e1,ad',cap',e2,?_,?_⟩
   ·refine A0 e3 (fun b hb=>?_)
    obtain⟨n1,n2⟩:=e4 b hb
    exact hfr.block b (AD e3 hb).2 n1 n2
   ·intro b hb
    obtain⟨n1,n2⟩:=e4 b hb
    refine⟨n1,fun e=>?_⟩
    have hbg:g=b:=by cases e;rfl
    subst hbg
    rcases hat with h1|h1
    ·exact n2 h1
    ·have:=(AD e3 hb).2;omega
  ·have hie:i=out.length:=by simp at hi;omega
   rw[Io out _ _ i hie,Io l _ _ i (by omega)]
   refine⟨rfl,ad,cap,rfl,?_,?_⟩
   ·refine A0 (World.ownsRow.mono hov h.low) (fun b hb=>?_)
    have hbb:=AD hov hb
    exact hblk b hbb.2 (by omega) (fun e=>by have:=(hvlt b e).2;omega)
   ·intro b hb
    have hbb:=AD hov hb
    refine⟨by omega,fun e=>?_⟩
    have hbg:g=b:=by cases e;rfl
    subst hbg
    rcases hat with h1|h1
    ·have:=(hvlt g h1).2;omega
    ·omega
end ch
end Go.Proofs.YtdohnkkbkfhphaaGreat
