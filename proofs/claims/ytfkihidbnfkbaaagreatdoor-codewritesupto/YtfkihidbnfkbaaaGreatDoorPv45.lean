import Derived.Test.YtfkihidbnfkbaaaGreatDoorPv46
set_option linter.all false
set_option maxHeartbeats 64000000
set_option maxRecDepth 100000
open Go.ChangeShapes Go.WideShapes Go.ChangeAt Go.RowKit Go.Sort Go.Shelf List
open Inhabited renaming default->ϰ
namespace Go.Proofs.YtfkihidbnfkbaaaGreatDoor
open Go.Proofs.Tryz
namespace gr
open vl pl bt jn
attribute [local go_sem] Oper.semAt_some
theorem TK(p:Pln)(x:PA)(a:Int×Int)(n:Int)(ta:ϡ)(tc:Nat)(l:List Tal)(w:Ϡ)(hp:planAt w p x)(n1:0<p.left.length)(n2:0<p.right.length)(m1:p.left.length<=400)(m2:p.right.length<=400)
 (a7:0<=a.2/\a.2.toNat<(A7 p).length) (hl:l.length<=ύ) (ha:FL w ta l) (hn:i64 n) (hw:∀t∈l,t.1.s.size<=maxLen/\i64 t.1.n/\i64 t.2):
 χ 121 #[Aj p x,.agg #[vI a.1,vI a.2],vI n,vS ta l.length tc] w (ψ w (.bool (I2 (A7 p) a n l))):=by
 have HA:=hV0 ha;have HW:Ϣ (∀k,k<l.length->(l.getD k ϰ).1.s.size<=maxLen/\i64 (l.getD k ϰ).2):=λk hk=>by
  have:=hw (l.getD k ϰ) (by rw[gDe,gEe hk];exact getElem_mem hk);exact⟨this.1,this.2.2⟩
 have KT:Ϣ (∀g,ϣ w g->CT 87 #[Aj p x] g λe u=>(∃ad cp,e= .returned (vS ad (A7 p).length cp)/\Ay u ad (A7 p))/\ϣ g u):=λg hb=>
  (Gf p x g (Ae hp hb) n1 n2 m1 m2).mono (λe u ⟨⟨ad,cp,N,O⟩,T⟩=>⟨⟨ad,cp,N,(Ea O).1⟩,T⟩)
 have ar:(A7 p).length<=800:=by unfold A7;rw[lAp];omega
 obtain⟨fn,bb⟩:=a;obtain⟨aj,ab⟩:=a7;dsimp only at aj ab⊢;obtain⟨L,rfl⟩:=Int.eq_ofNat_of_zero_le aj;rw[Int.toNat_natCast]at ab;obtain⟨R,hR⟩:=nM (I2 (A7 p) (fn,(L:Int)) n l);have D:=hV0 hR;rw[hR];unfold I2 at D;dsimp only at D;rw[Int.toNat_natCast]at D;have an:=hV0 ab;obtain⟨CO,ap⟩:=nM (A7 p);rw[ap]at KT D an ar ab;obtain⟨q,ak⟩:=nM (CO.getD L 0);have a2:=hV0 ak;rw[ak]at D;obtain⟨cn,au⟩:=nM CO.length;rw[au]at KT ar ab;obtain⟨M,al⟩:=nM l.length;have HN:=hV0 al;rw[al]at hl D⊢;clear hR ha hw hp n1 n2 m1 m2 ap ak au aj al;obtain⟨a9,ba⟩:=hn;have bg:=nn0 L;have bh:(L:Int)<(cn:Int):=Ϥ;unfold Aj at KT⊢;by_cases N:fn=1
 ·subst N;have HE:Ϣ (decide (M=0)=R):=by show _=_;rw[<-D.o,if_pos rfl]
  go_enter func121,ntmps121;go_wp2;go_ret;exact⟨Aa (by rw[<-HE.o];by_cases h:M=0<;>simp[h]),ϯ.alloc Ϧ _⟩
 have a5:(fn==1)=false:=by simpa using N
 have a3:Ϣ (Dl q n (BS l 0) (l.drop 0)=R):=by show Dl q n none l=R;rw[<-D.o,if_neg N]
 clear D;go_enter func121,ntmps121;go_wp2;generalize hV:((World.alloc w _).alloc _)=W0;have a6:ϣ w W0:=by subst hV;exact ϯ.alloc Ϧ _
 have am:Ϣ (boxP W0 w p x):=by subst hV;exact Af (BQ ..) ϯ
 have va:Δ W0 (w+1) 1 (vI (L:Int)):=by subst hV;go_simp
 have lv:w.heap.size+1<W0.heap.size:=bLt _ _ va;clear hV
 go_loopw [9,10] (λrr t wr=> ∃(k:Nat) (r:Int),k<=M/\t=vI k/\rr=vI r/\i64 r/\Dl q r (BS l k) (l.drop k)=R/\ϣ W0 wr) (λ_ t _=>M - (intOf t).toNat)
 case atStart=>exact⟨0,n,Nat.zero_le _,rfl,rfl,⟨a9,ba⟩,a3.o,bR⟩
 case round=>
  obtain⟨k,r,hk,rfl,rfl,hr,aw,ag⟩:=hrel;have ac:=hV0 aw;obtain⟨bc,bd⟩:=hr;have ae:ϣ w wr:=bT a6 ag;have a1:Ϣ (boxP wr w p x):=Af am.o ag;have ca:=cLz ag va;have bj:w.heap.size+1<wr.heap.size:=bLt _ _ ca;have bi:w.heap.size<wr.heap.size:=Ϥ;clear aw;by_cases a8:k<M
  case neg=>
   have HE:Ϣ (decide (r=0)=R):=by show _=_;rw[<-ac.o];exact(Sy (by rw[HN.o];omega)).symm
   go_wp2;go_ret;exact⟨Aa (by rw[<-HE.o];by_cases h:r=0<;>simp[h]),ae⟩
  have af:k<l.length:=by rw[HN.o];exact a8
  obtain⟨b,o,e,U,x2,x3,x4⟩:=HA.o k af;obtain⟨j,hj⟩:∃j,j=k - 1:=⟨_,rfl⟩;obtain⟨b',o',e',V,Z,y3,_⟩:=HA.o j Ϥ;subst e;injection e' with e'
  injection e' with e1 e2
  subst e1 e2;obtain⟨ay,az,a0⟩:=HW.o k af;have zz:=lk7 ae U x2 x3 x4 V Z y3;clear U x2 x3 x4 V Z y3;obtain⟨U,x2,x3,x4,V,Z,y3⟩:=zz;have lb:b<wr.heap.size:=bLt _ _ U;have i1:=nn0 k;have i2:(k:Int)<(M:Int):=Ϥ;have i8:=nn0 j;have i9:(j:Int)<(M:Int):=Ϥ;have J:Ϣ (I1 q r (BS l k) (l.getD k ϰ)=false->false=R):=λh=>by rw[<-ac.o];exact(Sz af h).symm
  have aa:Ϣ (I1 q r (BS l k) (l.getD k ϰ)=true->Dl q (r - (l.getD k ϰ).2) (BS l (k+1)) (l.drop (k+1))=R):=λh=>by rw[<-ac.o];exact(PI af h).symm
  have KV:Ϣ (∀g,CT 191 #[.agg #[vI (l.getD k ϰ).1.k,vI (l.getD k ϰ).1.n,.string (l.getD k ϰ).1.s]] g (ψ g (vI (chk (l.getD k ϰ).1.k (l.getD k ϰ).1.n (l.getD k ϰ).1.s)))):=λg=>Fp _ _ _ g ay;have ah:Ϣ (BS l k=if k=0 then none else some (l.getD j ϰ).1):=by rw[hj];rfl
  obtain⟨⟨⟨f,G,H⟩,m⟩,hx⟩:∃z,l.getD k ϰ=z:=⟨_,rfl⟩;obtain⟨⟨qk,qn,qs⟩,av⟩:∃z,(l.getD j ϰ).1=z:=⟨_,rfl⟩;rw[hx]at U x2 x3 x4 J aa KV az a0;rw[av]at V Z y3 ah;dsimp only at U x2 x3 x4 V Z y3 KV aa az a0;have KC:Ϣ (∀g,CT 192 #[.agg #[vI qk,vI qn,.string qs],.agg #[vI f,vI G,.string H]] g (ψ g (vI (FC ⟨qk,qn,qs⟩ ⟨f,G,H⟩)))):=by exact λg=>vl.Hz qk qn qs f G H g
  obtain⟨CV,ai⟩:=nM (FC ⟨qk,qn,qs⟩ ⟨f,G,H⟩);obtain⟨E,hE⟩:=nM (chk f G H);have ao:Ϣ (I1 q r (BS l k) (⟨f,G,H⟩,m)=((decide (E=0)&&(decide (f=0)||decide (f=q)))&&decide (1<=m)&&decide (m<=r)&&(decide (k=0)||decide (CV<0)))):=by
   show _=_;unfold I1 Pa;rw[ah.o,hE];by_cases h:k=0
   ·simp[h]
   ·simp[h,ai]
  rw[ai]at KC;rw[hE]at KV;rw[ao.o]at J aa;have aq:ϣ wr (ϊ wr #[vI f,vI G,.string H] 119):=ϯ;have Hj:Ϣ (j=k - 1):=hj;clear hj hx av ai hE ao ah ay ac HA HW am va a5 N;by_cases h0:E=0
  case' neg=>
   have I:Ϣ (false=R):=J.o (by simp[h0]);have N1:=EO (x:=E) (y:=0) true (by simpa using h0)
  case' pos=>
   have N1:=EO (x:=E) (y:=0) false (by simpa using h0);by_cases O:f=0
   case' pos=>
    have HV:Ϣ (f=0\/f=q):=.inl O;have N2:=EO (x:=f) (y:=0) false (by simpa using O)
   case' neg=>
    have N2:=EO (x:=f) (y:=0) true (by simpa using O);by_cases T:f=q
    case' pos=>
     have HV:Ϣ (f=0\/f=q):=.inr T;have N3:=EO (x:=f) (y:=q) false (by simpa using T)
    case' neg=>
     have I:Ϣ (false=R):=J.o (by simp[O,T]);have N3:=EO (x:=f) (y:=q) true (by simpa using T)
  all_goals
   try
    have HV:=HV;by_cases h4:m<1
    case' pos=>
     have I:Ϣ (false=R):=J.o (by simp;intros;omega);have N4:=JD (x:=m) (y:=1) true (by simpa using h4)
    case' neg=>
     have N4:=JD (x:=m) (y:=1) false (by simpa using h4);by_cases h5:m>r
     case' pos=>
      have I:Ϣ (false=R):=J.o (by simp;intros;omega);have N5:=Ex (x:=m) (y:=r) true (by simpa using h5)
     case' neg=>
      have N5:=Ex (x:=m) (y:=r) false (by simpa using h5);have be:IntKind.i64.wrap (r - m)=r - m:=by rw[IntKind.wrap_i64];omega
      have a4:Ϣ (i64 (r - m)):=⟨Ϥ,Ϥ⟩;by_cases h6:k=0
      case' pos=>
       have HY:=(show Ϣ _ from aa.o (by simp[h0,h6,HV.o];omega));have N6:=Ex (x:=(k:Int)) (y:=0) false ϩ
      case' neg=>
       have N6:=Ex (x:=(k:Int)) (y:=0) true ϩ;have i7:IntKind.i64.wrap ((k:Int) - 1)=(j:Int):=by have:=Hj.o;rw[IntKind.wrap_i64];omega
       by_cases h7:CV≥0
       case' pos=>
        have I:Ϣ (false=R):=J.o (by simp;intros;omega);have N7:=JF (x:=CV) (y:=0) true (by simpa using h7)
       case' neg=>
        have HY:=(show Ϣ _ from aa.o (by simp[h0,HV.o];omega));have N7:=JF (x:=CV) (y:=0) false (by simpa using h7)
  all_goals
   try clear h0
   try clear O
   try clear T
   try clear h6
   go_upto_region 8 with fail;refine Dm (S:=λu=>boxP u w p x/\Δ u (w+1) 1 (vI (L:Int))/\ϟ u wr (vI f) (vI G) (.string H) (Δ u b (o+k * 4+3) (vI m)/\Δ u b (o+j * 4) (vI qk)/\Δ u b (o+j * 4+1) (vI qn)/\Δ u b (o+j * 4+2) (.string qs))) 51 rfl ϧ ⟨Af a1.o aq.drew,Ϩ,Ϩ,Ϩ,Ϩ,Ϩ,Ϩ,Ϩ,Ϩ⟩ (λc=>?_);have F:=aq.drew;refine CE 51 c ?_;refine rD 1 λK s=>?_;go_simp;refine(KV.o _).mono ?_;rintro e V ⟨rfl,A⟩;replace F:=bT F A;go_wp2_with fail;refine s.out _ _ ⟨Af c.1 A,cLz A c.2.1,cLz A c.2.2.1,cLz A c.2.2.2.1,cLz A c.2.2.2.2.1,cLz A c.2.2.2.2.2.1,cLz A c.2.2.2.2.2.2.1,cLz A c.2.2.2.2.2.2.2.1,cLz A c.2.2.2.2.2.2.2.2⟩ (λc=>?_);clear s K
   try simp only[Act.put,sI,sZ,sSz]
   repeat first|refine CE 51 c ?_|refine GI 51 c ?_
   try
    iterate 2 refine CE 52 c ?_
    refine rD 11 λK s=>?_;go_simp;refine(KT.o _ (bT ae F)).mono ?_;rintro e Z ⟨⟨bk,bm,rfl,ax⟩,B⟩;replace F:=bT F B;obtain⟨tb,bn,et,tz⟩:=ax L an.o;subst et;rw[a2.o]at tz;clear ax;go_wp2_with fail;refine s.out _ _ ⟨Af c.1 B,cLz B c.2.1,cLz B c.2.2.1,cLz B c.2.2.2.1,cLz B c.2.2.2.2.1,cLz B c.2.2.2.2.2.1,cLz B c.2.2.2.2.2.2.1,cLz B c.2.2.2.2.2.2.2.1,cLz B c.2.2.2.2.2.2.2.2⟩ (λc=>?_);clear s K
    try simp only[Act.put,sI,sZ,sSz]
    refine CE 51 c ?_;refine rD 15 λK s=>?_;go_simp;refine s.out _ _ c (λc=>?_);clear s K
    try simp only[Act.put,sI,sZ,sSz]
    repeat first|refine CE 51 c ?_|refine GI 51 c ?_
   try
    refine rD 47 λK s=>?_;go_simp;refine(KC.o _).mono ?_;rintro e y3 ⟨rfl,C⟩;replace F:=bT F C;go_wp2_with fail;refine s.out _ _ ⟨Af c.1 C,cLz C c.2.1,cLz C c.2.2.1,cLz C c.2.2.2.1,cLz C c.2.2.2.2.1,cLz C c.2.2.2.2.2.1,cLz C c.2.2.2.2.2.2.1,cLz C c.2.2.2.2.2.2.2.1,cLz C c.2.2.2.2.2.2.2.2⟩ (λc=>?_);clear s K
    try simp only[Act.put,sI,sZ,sSz]
    repeat first|refine CE 51 c ?_|refine GI 51 c ?_
   refine wpAnyH_done ϧ ?_ _;have tm:=c.2.2.2.2.2.1
   first
    |have I:=I
     go_wp2;go_ret;exact⟨Aa I.o,bT ae F⟩
    |have HY:Ϣ _:=HY
     go_wp2;go_roundw;exact⟨k+1,r - m,Ϥ,by go_num,rfl,a4.o,HY.o,bT ag F⟩;simp[intOf];omega
end gr
end Go.Proofs.YtfkihidbnfkbaaaGreatDoor
