import Derived.Test.YtfkihidbnfkbaaaGreatDoorPv31
set_option linter.all false
set_option maxHeartbeats 16000000
set_option maxRecDepth 100000
open Go.ChangeShapes Go.WideShapes Go.ChangeAt Go.RowKit List
open Inhabited renaming default->ϰ
namespace Go.Proofs.YtfkihidbnfkbaaaGreatDoor
open Go.Proofs.Tryz
namespace bf
open vl
attribute [local go_sem] Oper.semAt_some
variable {b : Buf} {k : Nat} {l : List Ent} {f : Bool}
def Ir(b:Buf)(k:Nat):Nat:=b.mem.length+((b.runs.take k).flatten).length
def Hu(b:Buf)(k:Nat):Bool:=(b.runs.take k).any λr=>decide (r.length=0)
theorem XX(b:Buf):Ir b 0=b.mem.length:=by simp[Ir]
theorem XY(h:k<b.runs.length):Ir b (k+1)=Ir b k+(b.runs.getD k ϰ).length:=by
 unfold Ir;rw[D9 (d:=ϰ) h,flatten_append,lAp];simp;omega
theorem Aay(b:Buf):Ir b b.runs.length=(Ab b).length:=by
 unfold Ir;rw[take_length,DO,lAp]
theorem AcY(k:Nat):Ir b k<=(Ab b).length:=by
 unfold Ir;rw[DO,lAp];have:b.runs.flatten=(b.runs.take k).flatten++(b.runs.drop k).flatten:=by rw[<-flatten_append,take_append_drop]
 rw[this,lAp];omega
theorem XZ(h:k<b.runs.length):Hu b (k+1)=(Hu b k||decide ((b.runs.getD k ϰ).length=0)):=by
 unfold Hu;rw[D9 (d:=ϰ) h,any_append];simp
theorem Aaz(h:Hu b k=true):¬okB b:=λok=>by
 unfold Hu at h;obtain⟨r,c,e⟩:=any_eq_true.1 h;have:=ok.full r (mem_of_mem_take c);have d:r.length=0:=by simpa using e
 omega
theorem AcZ(h:Hu b b.runs.length=false):∀r∈b.runs,0<r.length:=λr c=>by
 unfold Hu at h;rw[take_length]at h;have:=any_eq_false.1 h r c;simp at this;rcases Nat.eq_zero_or_pos r.length with e|e
 ·exact absurd (length_eq_zero_iff.1 e) this
 ·exact e
theorem UF(h:AA b.lim 1 64=false):3=DK b:=by unfold DK;rw[if_pos h]
theorem Aa0(h:AA b.lim 1 64=true)(c:(Ab b).length>4096\/(b.mem.length:Int)>b.lim):2=DK b:=by
 have d:countB b=false:=by
  unfold countB;rcases c with c|c
  ·rw[decide_eq_false (by omega:¬(Ab b).length<=4096),Bool.and_false]
  ·rw[decide_eq_false (by omega:¬(b.mem.length:Int)<=b.lim),Bool.false_and]
 unfold DK;rw[h,d];rfl
theorem Aa1(h:AA b.lim 1 64=true)(d:(Ab b).length<=4096)(g:(b.mem.length:Int)<=b.lim)(j:¬okB b):1=DK b:=by
 have c:countB b=true:=by
  unfold countB;rw[decide_eq_true d,decide_eq_true g];rfl
 have i:FM b=false:=by
  cases e:FM b with
  |false=>rfl
  |true=>exact absurd (Fx (by unfold DK;rw[h,c,e];rfl)) j
 unfold DK;rw[h,c,i];rfl
theorem Ada(h1:AA b.lim 1 64=true)(h:(Ab b).length<=4096)(i:(b.mem.length:Int)<=b.lim)(m:Hu b b.runs.length=false)(n:upB b.mem=true)(o:∀j,j<b.runs.length->upB (b.runs.getD j ϰ)=true)(g:ES (Ab b) l f)(e:f=true/\∀j,j<l.length->Dv (l.getD j ϰ)=true):okB b:=by
 have d:=g.perm e.1;refine QP ((Bh _ _ _).1 h1) i h (λy hy=>?_) (λp d=>?_) (AcZ m) (g.fine.1 e.1)
 ·obtain⟨j,c,rfl⟩:=getElem_of_mem (d.mem_iff.2 hy);have:=e.2 j c;rw[getD_at c]at this;exact Md.1 this
 ·rcases mem_cons.1 d with rfl|d
  ·exact MK.1 n
  ·obtain⟨j,c,rfl⟩:=getElem_of_mem d;have:=o j c;rw[getD_at c]at this;exact MK.1 this
theorem Aa2(ok:okB b)(h:l∈partsB b)(k:upB l=false):False:=by
 rw[MK.2 (ok.rises h)]at k;cases k
theorem Adb{j:Nat}(ok:okB b)(c:ES (Ab b) l f)(g:j<l.length)(k:Dv (l.getD j ϰ)=false):False:=by
 have e:=c.fine.2 ok.once;have:=ok.entry ((c.perm e).mem_iff.1 (AN (d:=ϰ) g));rw[Gb this]at k;cases k
theorem Fp(b:Buf)(x:BX)(w:Ϡ)(h:bufAt w b x)(hw:∀y∈Ab b,wfE y/\y.key.size<=140737488355328/\y.row.length<=2000000)(hs:(Ab b).length<=4611686018427387904):
 χ 114 #[B5 b x] w (ψ w (vI (DK b))):=by
 have KE:Ϣ (∀c,(Ab b).length<=4096->ϣ w c->CT 187 #[B5 b x] c λr w'=>(∃(hh:Hdr) (B:List EM) (l:List Ent) (f:Bool),r= .returned (.tuple #[hdV hh,.bool f])/\OE w' (c.heap.size+1) (hdV hh) B l/\ES (Ab b) l f)/\ϣ c w'):=
  λc hl O=>M3 b x c (Ar h O) Ϥ (λy hy=>(hw y hy).2.2)
 have aj:x.m∈x.m::x.rs:=mem_cons_self ..;have KM:Ϣ (∀c,b.mem.length<=4096->ϣ w c->CT 186 #[hdV x.m.1] c (ψ c (.bool (upB b.mem)))):=λc hl O=>by
  have k:=Qa x.m.1.1 x.m.1.2.2 x.m.2 b.mem c (Cj (h.ems _ aj) O) (h.mem.below O) Ϥ;unfold hdV;rw[(h.len _ aj).1,h.mem.1];exact k
 have KR:Ϣ (∀i c,i<b.runs.length->(b.runs.getD i ϰ).length<=4096->ϣ w c->CT 186 #[hdV (x.rs.getD i ϰ).1] c (ψ c (.bool (upB (b.runs.getD i ϰ))))):=λi c hi hl O=>by
  have g1:x.rs.getD i ϰ∈x.m::x.rs:=mem_cons_of_mem _ (AN (by rw[h.rlen];exact hi));have e1:=h.runs i hi;have k:=Qa (x.rs.getD i ϰ).1.1 (x.rs.getD i ϰ).1.2.2 (x.rs.getD i ϰ).2 (b.runs.getD i ϰ) c (Cj (h.ems _ g1) O) (e1.below O) Ϥ;unfold hdV;rw[(h.len _ g1).1,e1.1];exact k
 have KF:=hIz (λe y (c:Ϡ) (he:ER c e y) (hy:y∈Ab b)=>Y7 e y c he (hw y hy).1 (hw y hy).2.1);have KW:Ϣ (∀c,CT 83 #[vI b.lim,vI 1,vI 64] c λe w'=>e= .returned (.bool (AA b.lim 1 64))/\w'=c):=λc=>Ap _ _ _ c;obtain⟨R,V⟩:=nM (DK b);have H3:Ϣ (AA b.lim 1 64=false->3=R):=λh=>by rw[<-V];exact UF h
 have H2:Ϣ (AA b.lim 1 64=true->(Ab b).length>4096\/(b.mem.length:Int)>b.lim->2=R):=λh k=>by rw[<-V];exact Aa0 h k
 have Q:Ϣ (AA b.lim 1 64=true->(Ab b).length<=4096->(b.mem.length:Int)<=b.lim->¬okB b->1=R):=λh k1 k2 k3=>by rw[<-V];exact Aa1 h k1 k2 k3
 have H0:Ϣ (∀l f,AA b.lim 1 64=true->(Ab b).length<=4096->(b.mem.length:Int)<=b.lim->Hu b b.runs.length=false->upB b.mem=true->(∀j,j<b.runs.length->upB (b.runs.getD j ϰ)=true)->ES (Ab b) l f->(f=true/\∀j,j<l.length->Dv (l.getD j ϰ)=true)->0=R):=λl f v h2 h3 h4 h5 h6 h7 h8=>by rw[<-V];exact(FW (Ada v h2 h3 h4 h5 h6 h7 h8)).symm
 rw[V];have HD:Ϣ (FH w x.ra (x.rs.map (·.1))):=h.hds;have bi:=h.few;have a4:Ϣ (∀k,k<b.runs.length->b.runs.getD k ϰ∈partsB b):=λk t=>mem_cons_of_mem _ (AN t);have a0:Ϣ (∀k,k<b.runs.length->(b.runs.getD k ϰ).length<=(Ab b).length):=λk t=>QZ (mem_cons_of_mem _ (AN t));have a1:Ϣ (b.mem.length<=(Ab b).length):=QZ (mem_cons_self ..);have a5:Ϣ (Ir b 0=b.mem.length):=XX b;have a6:Ϣ (∀k,k<b.runs.length->Ir b (k+1)=Ir b k+(b.runs.getD k ϰ).length):=λk t=>XY t;have al:Ϣ (∀k,Ir b k<=(Ab b).length):=λk=>AcY k;have a7:Ϣ (Ir b b.runs.length=(Ab b).length):=Aay b;have ay:Ϣ (∀k,k<b.runs.length->Hu b (k+1)=(Hu b k||decide ((b.runs.getD k ϰ).length=0))):=λk t=>XZ t;have bv:Ϣ (∀k,Hu b k=true->¬okB b):=λk t=>Aaz t;have a3:Ϣ (∀i,i<b.runs.length->(x.rs.getD i ϰ).1.2.1=(b.runs.getD i ϰ).length):=λi hi=>by
  have g1:x.rs.getD i ϰ∈x.m::x.rs:=mem_cons_of_mem _ (AN (by rw[h.rlen];exact hi));rw[(h.len _ g1).1,(h.runs i hi).1]
 have a2:Ϣ (x.m.1.2.1=b.mem.length):=by show _=_;rw[(h.len _ aj).1,h.mem.1]
 have ak:=h.rlen;have bq:Ϣ (Hu b 0=false):=by show _=_;simp[Hu]
 clear V h hw aj;obtain⟨ra,rc,⟨⟨Y,D,Z⟩,ml⟩,J⟩:=x;obtain⟨F,bk⟩:=nM b.lim;obtain⟨RN,bd⟩:∃z:Nat->List Ent,(λk=>b.runs.getD k ϰ)=z:=⟨_,rfl⟩;have be:∀k,b.runs.getD k ϰ=RN k:=λk=>congrFun bd k;obtain⟨n,hn⟩:=nM b.runs.length;obtain⟨T,hT⟩:=nM ((Ab b).length);have br:Ϣ (∀k,k<=(Ab b).length->k<=T):=λk t=>by rw[<-hT];exact t
 have bn:b.mem.length=D:=a2.o.symm;unfold B5 hdV at KE⊢;unfold hdV at KM;simp only[be,hn,bk,hT,bn]at KE KM KR KW H3 H2 Q H0 a4 a0 a1 a5 a6 al a7 ay a3 hs ak bi⊢;have U:Ϣ (J.length=n/\True):=⟨ak,trivial⟩;rw[ak]at KE bi⊢;clear bk bd be hn bn ak a2;have E:ϣ w (ϊ w (τ F Y D Z ra n rc) 36):=ϯ;have k0:Δ (ϊ w (τ F Y D Z ra n rc) 36) w 0 (vI F):=Ϩ;have k1:Δ (ϊ w (τ F Y D Z ra n rc) 36) w 1 (vS Y D Z):=Ϩ;have k2:Δ (ϊ w (τ F Y D Z ra n rc) 36) w 2 (vS ra n rc):=Ϩ;have ca:D<=T:=a1.o;obtain⟨BT,bc⟩:=nM (AA F 1 64);rw[bc]at KW H3 H2 Q H0;clear bc
 cases BT with
 |false=>
  have m:Ϣ (3=R):=H3.o rfl;go_enter func114,ntmps114;go_wp2_with (go_at_call 83;refine(KW.o _).mono ?_;rintro e w' ⟨rfl,au⟩;subst au);go_ret;exact⟨Ad m.o,E⟩
 |true=>
  have H:true=true:=rfl;go_enter func114,ntmps114;go_wp2_with (go_at_call 83;refine(KW.o _).mono ?_;rintro e w' ⟨rfl,au⟩;subst au);generalize w.alloc (.cells (τ F Y D Z ra n rc) 36)=W0 at *
  go_loopw [3,4,5] (λsn ho A wr=> ∃k:Nat,k<=n/\A=vI k/\sn=vI (Ir b k)/\ho= .bool (Hu b k)/\wr=W0) (λ_ _ A _=>n - (intOf A).toNat)
  case atStart=>exact⟨0,Nat.zero_le _,rfl,by rw[a5.o],by rw[bq.o],rfl⟩
  case round=>
   obtain⟨k,t,rfl,rfl,rfl,rfl⟩:=hrel;have lw:w.heap.size<wr.heap.size:=bLt _ _ k0;obtain⟨p,hp⟩:=nM (Ir b k);have HP:=hV0 hp;have cb:p<=T:=by rw[<-hp];exact al.o k
   obtain⟨ho,aq⟩:=nM (Hu b k);have HO:=hV0 aq;rw[hp,aq];clear hp aq;by_cases o:k<n
   ·obtain⟨b4,o4,e4,L⟩:=HD.o k (by rw[lMp,U.o.1];exact o);subst e4;have G:=cLz E L;have aa:(J.map (·.1)).getD k (none,0,0)=(J.getD k ϰ).1:=by rw[gDe,getElem?_map,gEe (by rw[U.o.1];exact o),gDe,gEe (by rw[U.o.1];exact o)];rfl
    rw[aa]at G;have ai:=a3.o k o;have af:=a6.o k o;have ac:=ay.o k o;have b7:=al.o (k+1);rw[HP.o]at af;rw[HO.o]at ac;obtain⟨⟨⟨s1,K,s3⟩,sl⟩,I⟩:∃z,J.getD k ϰ=z:=⟨_,rfl⟩;rw[I]at G ai;unfold hdV at G;dsimp only at G ai;rw[<-ai]at af ac;obtain⟨zb,av⟩:=nM (decide (K=0));rw[av]at ac;have cd:((K:Int)==0)=zb:=by rw[<-av];by_cases e:K=0<;>simp[e]
    have a8:=hV0 af;have az:=hV0 ac;rw[af]at b7;have cc:IntKind.i64.wrap ((p:Int)+(K:Int))=(p:Int)+(K:Int):=by rw[Cq];omega
    have i1:=nn0 k;have i2:(k:Int)<(n:Int):=Ϥ;clear I ai aa L af ac av;by_cases b2:(p:Int)+(K:Int)>4096
    ·have m:Ϣ (2=R):=H2.o H (.inl Ϥ)
     cases ho
     all_goals
      go_wp2;go_ret;exact⟨Ad m.o,E⟩
    ·have b8:¬4096<(p:Int)+(K:Int):=Ϥ
     cases ho with
     |false=>
      go_wp2;go_roundw
      case rel=>exact⟨k+1,Ϥ,by go_num,by rw[a8.o];go_num,by rw[az.o];rfl,Ϭ⟩
      case measure=>simp[intOf]<;>omega
     |true=>
      go_wp2;go_roundw
      case rel=>exact⟨k+1,Ϥ,by go_num,by rw[a8.o];go_num,by rw[az.o];rfl,Ϭ⟩
      case measure=>simp[intOf]<;>omega
   ·have W:n=k:=Ϥ;subst W;have b5:p=T:=by rw[<-HP.o];exact a7.o
    subst b5;by_cases b2:(p:Int)>4096
    ·have m:Ϣ (2=R):=H2.o H (.inl Ϥ);go_wp2;go_ret;exact⟨Ad m.o,E⟩
    ·have X:p<=4096:=Ϥ;by_cases b3:(D:Int)>F
     ·have m:Ϣ (2=R):=H2.o H (.inr b3);go_wp2;go_ret;exact⟨Ad m.o,E⟩
     ·have hm:(D:Int)<=F:=Ϥ
      cases ho with
      |true=>
       have m:Ϣ (1=R):=Q.o H X hm (bv.o _ HO.o);go_wp2;go_ret;exact⟨Ad m.o,E⟩
      |false=>
       have bw:=hV0 HO.o;have d:=KM.o wr Ϥ E;obtain⟨UM,ao⟩:=nM (upB b.mem);have bb:=hV0 ao;rw[ao]at d;clear ao
       cases UM with
       |false=>
        have m:Ϣ (1=R):=Q.o H X hm (λok=>Aa2 ok (mem_cons_self ..) bb.o);go_wp2_with (go_at_call 186;refine d.mono ?_;rintro e6 w6 ⟨rfl,u⟩);go_ret;exact⟨Ad m.o,bT E u⟩
       |true=>
        go_wp2_with (go_at_call 186;refine d.mono ?_;rintro e6 w2 ⟨rfl,u⟩;have bz:ϣ w w2:=bT E u;have c0:=cLz u k0;have c1:=cLz u k1;have c2:=cLz u k2;have cg:w.heap.size<w2.heap.size:=bLt _ _ c0)
        go_loopw [6] (λA wr=> ∃k:Nat,k<=n/\A=vI k/\ϣ w2 wr/\∀j,j<k->upB (RN j)=true) (λA _=>n - (intOf A).toNat)
        case atStart=>exact⟨0,Nat.zero_le _,rfl,bR,λj C=>absurd C (Nat.not_lt_zero j)⟩
        case round=>
         obtain⟨k,t,rfl,ar,bo⟩:=hrel;have ba:=hV0 bo;have ab:ϣ w wr:=bT bz ar;obtain⟨d0,d1,d2⟩:=lk3 ar c0 c1 c2;have cf:w.heap.size<wr.heap.size:=bLt _ _ d0;clear bo;by_cases o:k<n
         ·obtain⟨b4,o4,e4,L⟩:=HD.o k (by rw[lMp,U.o.1];exact o);subst e4;have G:=cLz ab L;have aa:(J.map (·.1)).getD k (none,0,0)=(J.getD k ϰ).1:=by rw[gDe,getElem?_map,gEe (by rw[U.o.1];exact o),gDe,gEe (by rw[U.o.1];exact o)];rfl
          rw[aa]at G;have d:Ϣ (CT 186 #[hdV (J.getD k ϰ).1] wr (ψ wr (.bool (upB (RN k))))):=KR.o k wr o (Nat.le_trans (a0.o k o) Ϥ) ab;obtain⟨UB,an⟩:=nM (upB (RN k));have a9:=hV0 an;rw[an]at d;obtain⟨⟨⟨s1,K,s3⟩,sl⟩,I⟩:∃z,J.getD k ϰ=z:=⟨_,rfl⟩;rw[I]at G d;unfold hdV at G d;dsimp only at G d;have i1:=nn0 k;have i2:(k:Int)<(n:Int):=Ϥ;clear I an aa L
          cases UB with
          |false=>
           have m:Ϣ (1=R):=Q.o H X hm (λok=>Aa2 ok (a4.o k o) a9.o);go_wp2_with (go_at_call 186;refine d.o.mono ?_;rintro e6 w6 ⟨rfl,u⟩);go_ret;exact⟨Ad m.o,bT ab u⟩
          |true=>
           go_wp2_with (go_at_call 186;refine d.o.mono ?_;rintro e6 w6 ⟨rfl,u⟩);go_roundw
           case rel=>exact⟨k+1,Ϥ,by go_num,bT ar u,λj C=>by
            rcases Nat.lt_succ_iff_lt_or_eq.1 C with v|v
            ·exact ba.o j v
            ·rw[v];exact a9.o⟩
           case measure=>simp[intOf]<;>omega
         ·have W:k=n:=Ϥ;subst W;have bx:=hV0 ba.o;have d:=KE.o wr Ϥ ab;go_wp2_with (go_at_call 187;refine d.mono ?_;rintro e6 w3 ⟨⟨⟨q1,q2,q3⟩,B,l,f,rfl,P,ap⟩,bg⟩;have b0:ϣ w w3:=bT ab bg;have M:Ϣ (ES (Ab b) l f/\B.length=l.length):=⟨ap,P.len⟩;have bs:Ϣ (ERs w3 B l):=P.ers;(try dsimp only);dsimp only at P;have b6:q2=B.length:=(by obtain⟨ad,cp,e⟩:=P.form;cases e;rfl);subst b6;have bp:Ϣ (BR w3 q1 B):=P.at;obtain⟨N,ah⟩:=nM B.length;have ag:Ϣ (B.length=N):=ah;rw[ah];have b9:N<=4096:=(by rw[<-ah,P.len];exact Nat.le_trans (br.o _ ap.len) X);clear P ap bg ah)
          go_loopw [8,9] (λfi A wr=> ∃(k:Nat) (g:Bool),k<=N/\A=vI k/\fi= .bool g/\ϣ w3 wr/\(g=true↔f=true/\∀j,j<k->Dv (l.getD j ϰ)=true)) (λ_ A _=>N - (intOf A).toNat)
          case atStart=>exact⟨0,f,Nat.zero_le _,rfl,rfl,bR,Ϧ⟩
          case round=>
           obtain⟨k,g,t,rfl,rfl,ae,hg⟩:=hrel;have S:=hV0 hg;have bh:ϣ w wr:=bT b0 ae;clear hg;by_cases W:k<N
           ·have bj:k<l.length:=by rw[<-M.o.2,ag.o];exact W
            have i1:=nn0 k;have i2:(k:Int)<(N:Int):=Ϥ
            cases g with
            |false=>
             go_wp2;go_roundw
             case rel=>exact⟨k+1,false,Ϥ,by go_num,rfl,ae,by
              constructor
              ·intro h;cases h
              ·rintro ⟨v,h2⟩;exact S.o.2 ⟨v,λj C=>h2 j Ϥ⟩⟩
             case measure=>simp[intOf]<;>omega
            |true=>
             have ax:Ϣ (f=true):=(S.o.1 rfl).1;have bm:l.getD k ϰ∈Ab b:=(M.o.1.perm ax.o).mem_iff.1 (AN bj);obtain⟨b1,o1,ee,x1,x2,x3,L,x5⟩:=bp.o k (by rw[ag.o];exact W);subst ee;obtain⟨z1,z2,z3,z4,z5⟩:=lk5 ae x1 x2 x3 L x5;have d:Ϣ (CT 188 #[(B.getD k ϰ).val] wr (ψ wr (.bool (Dv (l.getD k ϰ))))):=KF.o _ _ wr ((bs.o.2 k bj).below ae) bm;obtain⟨FB,am⟩:=nM (Dv (l.getD k ϰ));have aw:=hV0 am;rw[am]at d;obtain⟨⟨fk,ft,fs,⟨f1,f3,f4⟩,fm⟩,I⟩:∃z,B.getD k ϰ=z:=⟨_,rfl⟩;rw[I]at z1 z2 z3 z4 z5 d;unfold EM.val at d;unfold hdV at z4;dsimp only at z1 z2 z3 z4 z5 d;rw[show hdV (f1,f3,f4)=vS f1 f3 f4 from rfl]at d;clear I am x1 x2 x3 L x5 bm;go_wp2_with (go_at_call 188;refine d.o.mono ?_;rintro e6 w6 ⟨rfl,u⟩);have bu:Ϣ (FB=true↔f=true/\∀j,j<k+1->Dv (l.getD j ϰ)=true):=by
              constructor
              ·intro h;refine⟨ax.o,λj C=>?_⟩;rcases Nat.lt_succ_iff_lt_or_eq.1 C with v|v
               ·exact(S.o.1 Ϭ).2 j v
               ·rw[v,aw.o];exact h
              ·rintro ⟨_,h2⟩;rw[<-aw.o];exact h2 k Ϥ
             go_roundw
             case rel=>exact⟨k+1,FB,Ϥ,by go_num,rfl,bT ae u,bu.o⟩
             case measure=>simp[intOf]<;>omega
           ·have o:k=N:=Ϥ;subst o
            cases g with
            |false=>
             have m:Ϣ (1=R):=Q.o H X hm (λok=>by
              have h9:=M.o.1.fine.2 ok.once;have:false=true:=S.o.2 ⟨h9,λj C=>by
               cases e:Dv (l.getD j ϰ)with
               |true=>rfl
               |false=>exact(Adb ok M.o.1 (by rw[<-M.o.2,ag.o];exact C) e).elim⟩
              cases this)
             go_wp2;go_ret;exact⟨Ad m.o,bh⟩
            |true=>
             have m:Ϣ (0=R):=H0.o l f H X hm bw.o bb.o bx.o M.o.1 ⟨(S.o.1 rfl).1,λj C=>(S.o.1 rfl).2 j (by rw[<-ag.o,M.o.2];exact C)⟩;go_wp2;go_ret;exact⟨Ad m.o,bh⟩
theorem okB.ents(ok:okB b)(h:ES (Ab b) l f):f=true/\l.Perm (Ab b)/\DW l:=by
 have c:=h.fine.2 ok.once;exact⟨c,h.perm c,h.rise⟩
theorem okB.size(ok:okB b):(Ab b).length<=100000/\∀y∈Ab b,y.row.length<=2000000:=
 ⟨by have:=ok.all;omega,λy hy=>by have:=ok.small.2.2 y hy;omega⟩
theorem S8(b:Buf)(x:BX)(w:Ϡ)(h:bufAt w b x)(ok:okB b):
 χ 115 #[B5 b x] w λe g=>(∃(d:Hdr) (c:List EM) (l:List Ent),e= .returned (hdV d)/\OE g w (hdV d) c l/\l.Perm (Ab b)/\DW l)/\ϣ w g:=by
 have m:Ϣ (∀j,ϣ w j->CT 187 #[B5 b x] j λr g=>(∃(d:Hdr) (c:List EM) (l:List Ent) (f:Bool),r= .returned (.tuple #[hdV d,.bool f])/\OE g w (hdV d) c l/\l.Perm (Ab b)/\DW l)/\ϣ j g):=λj C=>
  (M3 b x j (Ar h C) ok.size.1 ok.size.2).mono (λe g ⟨⟨d,c,l,f,H,i,I⟩,G⟩=>⟨⟨d,c,l,f,H,i.mono (by have:=C.size;omega),(ok.ents I).2⟩,G⟩)
 obtain⟨L,B⟩:=nM (Ab b);rw[B]at m⊢;clear h ok B;obtain⟨y,z,⟨⟨t,u,v⟩,N⟩,A⟩:=x;obtain⟨o,M,R⟩:=b;rw[show B5 ⟨o,M,R⟩ ⟨y,z,((t,u,v),N),A⟩= .agg #[vI o,vS t u v,vS y A.length z]from rfl]at m⊢;obtain⟨n,E⟩:∃n,A.length=n:=⟨_,rfl⟩;rw[E]at m⊢;clear E;have D:ϣ w (ϊ w (τ o t u v y n z) 36):=ϯ;go_enter func115,ntmps115;go_wp2_with (go_at_call 187;refine(m.o _ D).mono ?_;rintro e S ⟨⟨⟨O,P,Q⟩,c,l,f,rfl,i,J,K⟩,F⟩;unfold hdV at i⊢;dsimp only at i⊢);go_ret;exact⟨⟨(O,P,Q),c,l,rfl,i,J,K⟩,bT D F⟩
end bf
namespace jn
open vl bf
variable {p : pl.Pln} {s : Jn} {a b q : List Ent} {k : Nat}
def sqE(y:Ent):Ent:=⟨⟨#[]⟩,0,y.seq,[],false⟩
structure CJ(p:pl.Pln)(s:Jn)(D:List (Int×Ent))(q:List Ent):Prop where
 below:∀e∈D,e.2.seq<s.seq
 row:∀e∈D,FT p e.1 e.2=true
 once:(D.map (·.2.seq)).Nodup
 perm:q.Perm (D.map λe=>sqE e.2)
 rise:DW q
theorem AeW(p:pl.Pln)(s:Jn):CJ p s [] []:=⟨λe c=>absurd c not_mem_nil,λe c=>absurd c not_mem_nil,nodup_nil,List.Perm.refl _,List.Pairwise.nil⟩
theorem CJ.has{D:List (Int×Ent)}(h:CJ p s D q)(y:Ent):hasB q (AK (sqE y))=true↔y.seq∈D.map (·.2.seq):=by
 unfold hasB;rw[any_eq_true]
 constructor
 ·rintro ⟨z,i,d⟩;obtain⟨e,g,rfl⟩:=mem_map.1 (h.perm.mem_iff.1 i);have d:=of_decide_eq_true d;have:e.2.seq=y.seq:=congrArg (λt=>t.2.2) d;exact mem_map.2 ⟨e,g,this⟩
 ·intro hy;obtain⟨e,g,c⟩:=mem_map.1 hy;refine⟨sqE e.2,h.perm.mem_iff.2 (mem_map.2 ⟨e,g,rfl⟩),decide_eq_true ?_⟩;show(_,_,_)=(_,_,_);have c:e.2.seq=y.seq:=c;rw[show(sqE e.2).seq=(sqE y).seq from c];rfl
theorem CJ.more{D:List (Int×Ent)}{i:List Ent}{d:Int}{y:Ent}(h:CJ p s D q)(h1:y.seq<s.seq)(j:FT p d y=true)(m:hasB q (AK (sqE y))=false)(o:i.Perm (sqE y::q))(r:DW i):CJ p s (D++[(d,y)]) i:=by
 have n:y.seq ∉ D.map (·.2.seq):=λk=>by
  have:=(h.has y).2 k;rw[m]at this
  cases this
 refine⟨λe g=>?_,λe g=>?_,?_,?_,r⟩
 ·rcases mem_append.1 g with k|k
  ·exact h.below e k
  ·rw[mem_singleton.1 k];exact h1
 ·rcases mem_append.1 g with k|k
  ·exact h.row e k
  ·rw[mem_singleton.1 k];exact j
 ·rw[map_append];refine nodup_append.2 ⟨h.once,pairwise_singleton ..,λa ha b c e=>?_⟩;have c:b=y.seq:=mem_singleton.1 c;rw[c]at e;exact n (e▸ha)
 ·rw[map_append];exact o.trans ((h.perm.cons _).trans (perm_append_singleton (sqE y) _).symm)
def Cn(a b:List Ent):List (Int×Ent):=a.map (λy=>((1:Int),y))++b.map (λy=>((2:Int),y))
theorem WB(a b:List Ent):(Cn a b).map (·.2.seq)=(a++b).map (·.seq):=by
 unfold Cn;rw[map_append,map_append,map_map,map_map];rfl
def PM(p:pl.Pln)(s:Jn):Bool:=decide (s.L.lim=p.limit)&&decide (s.R.lim=p.limit)
theorem Aa3(ha:a.Perm (Ab s.L))(e:b.Perm (Ab s.R))(c:PM p s=true)(h:CJ p s (Cn a b) q):Cx p s=true:=by
 have d:(a++b).Perm (Ab s.L++Ab s.R):=ha.append e;unfold PM at c;rw[Bool.and_eq_true]at c;have j:J4 s=true:=by
  unfold J4;refine decide_eq_true ⟨λy hy=>?_,?_⟩
  ·rcases mem_append.1 (d.mem_iff.2 hy)with k|k
   ·exact h.below (1,y) (mem_append.2 (.inl (mem_map.2 ⟨y,k,rfl⟩)))
   ·exact h.below (2,y) (mem_append.2 (.inr (mem_map.2 ⟨y,k,rfl⟩)))
  ·have:=h.once;rw[WB]at this;exact((d.map (·.seq)).nodup_iff).1 this
 have g:Io p 1 s.L=true:=all_eq_true.2 λy hy=>h.row (1,y) (mem_append.2 (.inl (mem_map.2 ⟨y,ha.mem_iff.2 hy,rfl⟩)));have i:Io p 2 s.R=true:=all_eq_true.2 λy hy=>h.row (2,y) (mem_append.2 (.inr (mem_map.2 ⟨y,e.mem_iff.2 hy,rfl⟩)));unfold Cx;rw[c.1,c.2,j,g,i];rfl
theorem PN(c:PM p s=false):Cx p s=false:=by
 unfold PM at c;unfold Cx;rw[c];simp
theorem Adc(ha:a.Perm (Ab s.L))(m:b.Perm (Ab s.R))(h:CJ p s ((Cn a b).take k) q)(o:k<(Cn a b).length)
 (c:s.seq<=((Cn a b).getD k (0,ϰ)).2.seq\/FT p ((Cn a b).getD k (0,ϰ)).1 ((Cn a b).getD k (0,ϰ)).2=false\/hasB q (AK (sqE ((Cn a b).getD k (0,ϰ)).2))=true):Cx p s=false:=by
 have w:(a++b).Perm (Ab s.L++Ab s.R):=ha.append m;have r:(Cn a b).getD k (0,ϰ)∈Cn a b:=AN o;have n:∀e∈Cn a b,(e.1=1/\e.2∈Ab s.L)\/(e.1=2/\e.2∈Ab s.R):=λe x=>by
  rcases mem_append.1 x with j|j
  ·obtain⟨y,hy,rfl⟩:=mem_map.1 j;exact .inl ⟨rfl,ha.mem_iff.1 hy⟩
  ·obtain⟨y,hy,rfl⟩:=mem_map.1 j;exact .inr ⟨rfl,m.mem_iff.1 hy⟩
 have t:∀d:¬Fy s.seq (Ab s.L++Ab s.R),Cx p s=false:=λd=>by
  have e:J4 s=false:=decide_eq_false d;unfold Cx;rw[e];simp
 rcases c with c|c|c
 ·refine t (λd=>?_);have:((Cn a b).getD k (0,ϰ)).2∈Ab s.L++Ab s.R:=by
   rcases n _ r with⟨_,j⟩|⟨_,j⟩
   ·exact mem_append.2 (.inl j)
   ·exact mem_append.2 (.inr j)
  have:=d.1 _ this;omega
 ·rcases n _ r with⟨g,j⟩|⟨g,j⟩
  ·rw[g]at c;have:Io p 1 s.L=false:=all_eq_false.2 ⟨_,j,by rw[c];decide⟩;unfold Cx;rw[this];simp
  ·rw[g]at c;have:Io p 2 s.R=false:=all_eq_false.2 ⟨_,j,by rw[c];decide⟩;unfold Cx;rw[this];simp
 ·refine t (λd=>?_);have u:=(h.has _).1 c;have i:((Cn a b).map (·.2.seq)).Nodup:=by
   rw[WB];exact((w.map (·.seq)).nodup_iff).2 d.2
  have e:Cn a b=(Cn a b).take k++((Cn a b).getD k (0,ϰ)::(Cn a b).drop (k+1)):=by
   rw[getD_at o,getElem_cons_drop,take_append_drop]
  rw[e,map_append,map_cons]at i;have v:=(nodup_append.1 i).2.2 _ u _ (mem_cons_self ..);exact v rfl
theorem Ade(h:k<a.length):(Cn a b).getD k (0,ϰ)=(1,a.getD k ϰ)/\(Cn a b).take (k+1)=(Cn a b).take k++[(1,a.getD k ϰ)]:=by
 have c:k<(Cn a b).length:=by unfold Cn;rw[lAp,lMp];omega
 have e:(Cn a b).getD k (0,ϰ)=(1,a.getD k ϰ):=by
  rw[gDe,gDe];unfold Cn;rw[getElem?_append_left (by rw[lMp];exact h),getElem?_map,gEe h];rfl
 refine⟨e,?_⟩;rw[take_succ_eq_append_getElem c,<-getD_at (d:=(0,ϰ)) c,e]
theorem Adf(h:k<b.length):(Cn a b).getD (a.length+k) (0,ϰ)=(2,b.getD k ϰ)/\(Cn a b).take (a.length+(k+1))=(Cn a b).take (a.length+k)++[(2,b.getD k ϰ)]:=by
 have c:a.length+k<(Cn a b).length:=by unfold Cn;rw[lAp,lMp,lMp];omega
 have e:(Cn a b).getD (a.length+k) (0,ϰ)=(2,b.getD k ϰ):=by
  rw[gDe,gDe];unfold Cn;rw[getElem?_append_right (by rw[lMp];omega),lMp,Nat.add_sub_cancel_left,getElem?_map,gEe h];rfl
 refine⟨e,?_⟩;rw[<-Nat.add_assoc,take_succ_eq_append_getElem c,<-getD_at (d:=(0,ϰ)) c,e]
theorem PO(m:Int):bf.AA m (-1099511627777) 1099511627776=Du m:=by
 unfold bf.AA Du tm.Bt noMark;rw[Bool.eq_iff_iff];simp only[Bool.or_eq_true,decide_eq_true_eq];omega
end jn
end Go.Proofs.YtfkihidbnfkbaaaGreatDoor
