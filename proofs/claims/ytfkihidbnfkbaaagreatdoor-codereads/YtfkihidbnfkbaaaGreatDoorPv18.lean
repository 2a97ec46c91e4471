import Derived.Test.YtfkihidbnfkbaaaGreatDoorPv17
set_option linter.all false
set_option maxHeartbeats 64000000
set_option maxRecDepth 100000
open Inhabited renaming default->ϰ
open List renaming length->ϲ
namespace Go.Proofs.YtfkihidbnfkbaaaGreatDoor
open ChangeShapes WideShapes ChangeAt RowKit Proofs.Tryz
namespace gr
open vl pl bt jn
attribute [local go_sem] Oper.semAt_some
theorem TT(p:Pln)(x:PA)(a:Int×Int)(n:Int)(ta:Ϡ)(tc:Nat)(l:List Tal)(w:ϟ)(hp:planAt w p x)(n1:0<ϲ p.left)(n2:0<ϲ p.right)(m1:ϲ p.left<=400)(m2:ϲ p.right<=400)
 (a5:0<=a.2/\a.2.toNat<ϲ (A5 p)) (hl:ϲ l<=ύ) (ha:GW w ta l) (hn:i64 n) (hw:∀t∈l,t.1.s.size<=maxLen/\i64 t.1.n/\i64 t.2):
 χ 121 #[Ai p x,.agg #[vI a.1,vI a.2],vI n,vS ta (ϲ l) tc] w (ψ w (.bool (Jh (A5 p) a n l))):=by
 have HA:=hV0 ha;have HW:ϡ (∀k,k<ϲ l->(l.getD k ϰ).1.s.size<=maxLen/\i64 (l.getD k ϰ).2):=λk hk=>by
  have:=hw (l.getD k ϰ) (by rw[gDe,gEe hk];exact List.getElem_mem hk);exact⟨this.1,this.2.2⟩
 have KT:ϡ (∀f,Ϣ w f->CT 87 #[Ai p x] f λe q=>(∃ad cp,e= .returned (vS ad (ϲ (A5 p)) cp)/\Au q ad (A5 p))/\Ϣ f q):=λf hb=>
  (Gr p x f (Ae hp hb) n1 n2 m1 m2).mono (λe q ⟨⟨ad,cp,N,I⟩,J⟩=>⟨⟨ad,cp,N,(Eg I).1⟩,J⟩)
 have ap:ϲ (A5 p)<=800:=by unfold A5;rw[lAp];omega
 obtain⟨fn,a9⟩:=a;obtain⟨ah,X⟩:=a5;dsimp only at ah X⊢;obtain⟨H,rfl⟩:=SK ah;rw[SM]at X;obtain⟨R,hR⟩:=nM (Jh (A5 p) (fn,(H:Int)) n l);have A:=hV0 hR;rw[hR];unfold Jh at A;dsimp only at A;rw[SM]at A;have al:=hV0 X;obtain⟨CO,an⟩:=nM (A5 p);rw[an]at KT A al ap X;obtain⟨i,ai⟩:=nM (CO.getD H 0);have a0:=hV0 ai;rw[ai]at A;obtain⟨cn,aq⟩:=nM (ϲ CO);rw[aq]at KT ap X;obtain⟨L,aj⟩:=nM (ϲ l);have HN:=hV0 aj;rw[aj]at hl A⊢;clear hR ha hw hp n1 n2 m1 m2 an ai aq ah aj;obtain⟨a7,a8⟩:=hn;have bd:=nn0 H;have be:(H:Int)<(cn:Int):=ϣ;unfold Ai at KT⊢;by_cases N:fn=1
 ·subst N;have HE:ϡ (decide (L=0)=R):=by show _=_;rw[<-A.o,AE rfl]
  go_enter func121,ntmps121;go_wp2;go_ret;exact⟨Aa (by rw[<-HE.o];by_cases h:L=0<;>simp[h]),Ϯ.alloc ϥ _⟩
 have a3:(fn==1)=false:=by simpa using N
 have a1:ϡ (Dp i n (BR l 0) (l.drop 0)=R):=by show Dp i n none l=R;rw[<-A.o,AC N]
 clear A;go_enter func121,ntmps121;go_wp2;generalize hV:((World.alloc w _).alloc _)=W;have a4:Ϣ w W:=by subst hV;exact Ϯ.alloc ϥ _
 have ak:ϡ (boxP W w p x):=by subst hV;exact Af (BF ..) Ϯ
 have va:Δ W (w+1) 1 (vI (H:Int)):=by subst hV;go_simp
 have lv:w.heap.size+1<W.heap.size:=bLt _ _ va;clear hV
 go_loopw [9,10] (λrr t wr=> ∃(k:Nat) (r:Int),k<=L/\t=vI k/\rr=vI r/\i64 r/\Dp i r (BR l k) (l.drop k)=R/\Ϣ W wr) (λ_ t _=>L - (intOf t).toNat)
 case atStart=>exact⟨0,n,At _,rfl,rfl,⟨a7,a8⟩,a1.o,bR⟩
 case round=>
  obtain⟨k,r,hk,rfl,rfl,hr,au,ae⟩:=hrel;have aa:=hV0 au;obtain⟨ba,bb⟩:=hr;have ab:Ϣ w wr:=bT a4 ae;have az:ϡ (boxP wr w p x):=Af ak.o ae;have ca:=cLz ae va;have bh:w.heap.size+1<wr.heap.size:=bLt _ _ ca;have bg:w.heap.size<wr.heap.size:=ϣ;clear au;by_cases a6:k<L
  case neg=>
   have HE:ϡ (decide (r=0)=R):=by show _=_;rw[<-aa.o];exact(TY (by rw[HN.o];omega)).symm
   go_wp2;go_ret;exact⟨Aa (by rw[<-HE.o];by_cases h:r=0<;>simp[h]),ab⟩
  have ac:k<ϲ l:=by rw[HN.o];exact a6
  obtain⟨b,o,e,O,x2,x3,x4⟩:=HA.o k ac;obtain⟨j,hj⟩:∃j,j=k - 1:=⟨_,rfl⟩;obtain⟨b',o',e',P,Q,T,_⟩:=HA.o j ϣ;subst e;injection e' with e'
  injection e' with e1 e2
  subst e1 e2;obtain⟨aw,ax,ay⟩:=HW.o k ac;have zz:=lk7 ab O x2 x3 x4 P Q T;clear O x2 x3 x4 P Q T;obtain⟨O,x2,x3,x4,P,Q,T⟩:=zz;have lb:b<wr.heap.size:=bLt _ _ O;have i1:=nn0 k;have i2:(k:Int)<(L:Int):=ϣ;have i8:=nn0 j;have i9:(j:Int)<(L:Int):=ϣ;have G:ϡ (Jg i r (BR l k) (l.getD k ϰ)=false->false=R):=λh=>by rw[<-aa.o];exact(Tr ac h).symm
  have V:ϡ (Jg i r (BR l k) (l.getD k ϰ)=true->Dp i (r - (l.getD k ϰ).2) (BR l (k+1)) (l.drop (k+1))=R):=λh=>by rw[<-aa.o];exact(Qu ac h).symm
  have KV:ϡ (∀f,CT 191 #[.agg #[vI (l.getD k ϰ).1.k,vI (l.getD k ϰ).1.n,.string (l.getD k ϰ).1.s]] f (ψ f (vI (chk (l.getD k ϰ).1.k (l.getD k ϰ).1.n (l.getD k ϰ).1.s)))):=λf=>Fz _ _ _ f aw;have af:ϡ (BR l k=if k=0 then none else some (l.getD j ϰ).1):=by rw[hj];rfl
  obtain⟨⟨⟨d,C,D⟩,g⟩,hx⟩:∃z,l.getD k ϰ=z:=⟨_,rfl⟩;obtain⟨⟨Y,Z,qs⟩,ar⟩:∃z,(l.getD j ϰ).1=z:=⟨_,rfl⟩;rw[hx]at O x2 x3 x4 G V KV ax ay;rw[ar]at P Q T af;dsimp only at O x2 x3 x4 P Q T KV V ax ay;have KC:ϡ (∀f,CT 192 #[.agg #[vI Y,vI Z,.string qs],.agg #[vI d,vI C,.string D]] f (ψ f (vI (FI ⟨Y,Z,qs⟩ ⟨d,C,D⟩)))):=by exact λf=>vl.Ii Y Z qs d C D f
  obtain⟨CV,ag⟩:=nM (FI ⟨Y,Z,qs⟩ ⟨d,C,D⟩);obtain⟨E,hE⟩:=nM (chk d C D);have am:ϡ (Jg i r (BR l k) (⟨d,C,D⟩,g)=((decide (E=0)&&(decide (d=0)||decide (d=i)))&&decide (1<=g)&&decide (g<=r)&&(decide (k=0)||decide (CV<0)))):=by
   show _=_;unfold Jg PV;rw[af.o,hE];by_cases h:k=0
   ·simp[h]
   ·simp[h,ag]
  rw[ag]at KC;rw[hE]at KV;rw[am.o]at G V;have ao:Ϣ wr (ϊ wr #[vI d,vI C,.string D] 119):=Ϯ;have HJ:=hV0 hj;clear hj;clear hx ar ag hE am af aw aa HA HW ak va a3 N;by_cases M:E=0
  case' neg=>
   have F:ϡ (false=R):=G.o (by simp[M]);have N1:=Fg (x:=E) (y:=0) true (by simpa using M)
  case' pos=>
   have N1:=Fg (x:=E) (y:=0) false (by simpa using M);by_cases I:d=0
   case' pos=>
    have U:ϡ (d=0\/d=i):=.inl I;have N2:=Fg (x:=d) (y:=0) false (by simpa using I)
   case' neg=>
    have N2:=Fg (x:=d) (y:=0) true (by simpa using I);by_cases J:d=i
    case' pos=>
     have U:ϡ (d=0\/d=i):=.inr J;have N3:=Fg (x:=d) (y:=i) false (by simpa using J)
    case' neg=>
     have F:ϡ (false=R):=G.o (by simp[I,J]);have N3:=Fg (x:=d) (y:=i) true (by simpa using J)
  all_goals
   try
    have U:=U;by_cases h4:g<1
    case' pos=>
     have F:ϡ (false=R):=G.o (by simp;intros;omega);have N4:=Km (x:=g) (y:=1) true (by simpa using h4)
    case' neg=>
     have N4:=Km (x:=g) (y:=1) false (by simpa using h4);by_cases h5:g>r
     case' pos=>
      have F:ϡ (false=R):=G.o (by simp;intros;omega);have N5:=EH (x:=g) (y:=r) true (by simpa using h5)
     case' neg=>
      have N5:=EH (x:=g) (y:=r) false (by simpa using h5);have bc:IntKind.i64.wrap (r - g)=r - g:=by rw[RW];omega
      have a2:ϡ (i64 (r - g)):=⟨ϣ,ϣ⟩;by_cases h6:k=0
      case' pos=>
       have HY:=(show ϡ _ from V.o (by simp[M,h6,U.o];omega));have N6:=EH (x:=(k:Int)) (y:=0) false Ϩ
      case' neg=>
       have N6:=EH (x:=(k:Int)) (y:=0) true Ϩ;have i7:IntKind.i64.wrap ((k:Int) - 1)=(j:Int):=by have:=HJ.o;rw[RW];omega
       by_cases h7:CV≥0
       case' pos=>
        have F:ϡ (false=R):=G.o (by simp;intros;omega);have N7:=Kn (x:=CV) (y:=0) true (by simpa using h7)
       case' neg=>
        have HY:=(show ϡ _ from V.o (by simp[M,U.o];omega));have N7:=Kn (x:=CV) (y:=0) false (by simpa using h7)
  all_goals
   try clear M
   try clear I
   try clear J
   try clear h6
   go_upto_region 8 with fail;refine CZ (S:=λq=>boxP q w p x/\Δ q (w+1) 1 (vI (H:Int))/\Ϙ q wr (vI d) (vI C) (.string D) (Δ q b (o+k * 4+3) (vI g)/\Δ q b (o+j * 4) (vI Y)/\Δ q b (o+j * 4+1) (vI Z)/\Δ q b (o+j * 4+2) (.string qs))) 51 rfl Ϧ ⟨Af az.o ao.drew,ϧ,ϧ,ϧ,ϧ,ϧ,ϧ,ϧ,ϧ⟩ (λc=>?_);have B:=ao.drew;refine C9 51 c ?_;refine rD 1 λK m=>?_;go_simp;refine(KV.o _).mono ?_;rintro e P ⟨rfl,s⟩;replace B:=bT B s;go_wp2_with fail;refine m.out _ _ ⟨Af c.1 s,cLz s c.2.1,cLz s c.2.2.1,cLz s c.2.2.2.1,cLz s c.2.2.2.2.1,cLz s c.2.2.2.2.2.1,cLz s c.2.2.2.2.2.2.1,cLz s c.2.2.2.2.2.2.2.1,cLz s c.2.2.2.2.2.2.2.2⟩ (λc=>?_);clear m K
   try simp only[Act.put,sI,sZ,sSz]
   repeat first|refine C9 51 c ?_|refine Hd 51 c ?_
   try
    iterate 2 refine C9 52 c ?_
    refine rD 11 λK m=>?_;go_simp;refine(KT.o _ (bT ab B)).mono ?_;rintro e Q ⟨⟨bi,bj,rfl,av⟩,u⟩;replace B:=bT B u;obtain⟨tb,bk,et,tz⟩:=av H al.o;subst et;rw[a0.o]at tz;clear av;go_wp2_with fail;refine m.out _ _ ⟨Af c.1 u,cLz u c.2.1,cLz u c.2.2.1,cLz u c.2.2.2.1,cLz u c.2.2.2.2.1,cLz u c.2.2.2.2.2.1,cLz u c.2.2.2.2.2.2.1,cLz u c.2.2.2.2.2.2.2.1,cLz u c.2.2.2.2.2.2.2.2⟩ (λc=>?_);clear m K
    try simp only[Act.put,sI,sZ,sSz]
    refine C9 51 c ?_;refine rD 15 λK m=>?_;go_simp;refine m.out _ _ c (λc=>?_);clear m K
    try simp only[Act.put,sI,sZ,sSz]
    repeat first|refine C9 51 c ?_|refine Hd 51 c ?_
   try
    refine rD 47 λK m=>?_;go_simp;refine(KC.o _).mono ?_;rintro e T ⟨rfl,v⟩;replace B:=bT B v;go_wp2_with fail;refine m.out _ _ ⟨Af c.1 v,cLz v c.2.1,cLz v c.2.2.1,cLz v c.2.2.2.1,cLz v c.2.2.2.2.1,cLz v c.2.2.2.2.2.1,cLz v c.2.2.2.2.2.2.1,cLz v c.2.2.2.2.2.2.2.1,cLz v c.2.2.2.2.2.2.2.2⟩ (λc=>?_);clear m K
    try simp only[Act.put,sI,sZ,sSz]
    repeat first|refine C9 51 c ?_|refine Hd 51 c ?_
   refine GT Ϧ ?_ _;have tm:=c.2.2.2.2.2.1
   first
    |have F:=F
     go_wp2;go_ret;exact⟨Aa F.o,bT ab B⟩
    |have HY:ϡ _:=HY
     go_wp2;go_roundw;exact⟨k+1,r - g,ϣ,by go_num,rfl,a2.o,HY.o,bT ae B⟩;simp[intOf];omega
end gr
