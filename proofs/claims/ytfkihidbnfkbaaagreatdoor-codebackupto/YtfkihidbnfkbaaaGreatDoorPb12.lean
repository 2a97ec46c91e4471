import Derived.Test.YtfkihidbnfkbaaaGreatDoorPb11
set_option linter.all false
set_option maxHeartbeats 8000000
set_option maxRecDepth 100000
open Go.ChangeShapes Go.WideShapes Go.ChangeAt Go.RowKit List
open Inhabited renaming default->ϰ
namespace Go.Proofs.YtfkihidbnfkbaaaGreatDoor
open Go.Proofs.Tryz
namespace pl
open vl
variable {r : List Cel} {p : Pln} {side : Int}
def Dg(r:List Cel)(l:List Int):List Cel:=l.map λi=>r.getD i.toNat ϰ
theorem Mv(l:List Int)(k:Nat)(h:k<l.length):l.take (k+1)=l.take k++[l.getD k 0]:=by
 rw[take_succ_eq_append_getElem h,Hj h]
theorem YK(a ad:Ϛ)(ca cp:Nat)(r:List Cel)(l:List Int)(w:ϙ)(ai:r.length<=χ)(ah:l.length<=1000)(ha:vl.rowAt w a r)(O:Ay w ad l)(s:∀x∈l,0<=x/\x<(r.length:Int)):
 η 217 #[vS a r.length ca,vS ad l.length cp] w λe w'=>(∃K L,e= .returned (vS K (Dg r l).length L)/\AA w' w (vS K (Dg r l).length L) (Dg r l))/\Ϝ w w':=by
 have HA:=hqz ha;have HL:=hqz O;have u:ϛ (∀i,i<l.length->0<=l.getD i 0/\l.getD i 0<(r.length:Int)):=λi j=>s _ (Dw j);obtain⟨m,A⟩:=nM r.length;obtain⟨n,B⟩:=nM l.length;have HM:=hqz A;have h:=hqz B;rw[A]at ai u⊢;rw[B]at ah u⊢;clear A B ha O s;obtain⟨i0,j,W,X,Y⟩:=info_parts Tryz.infoV;obtain⟨w0,aj,R,N⟩:=run_make_own (P:=Tryz.prog) w w.heap.size 80 119 i0 (.agg #[ω,ω,ϊ]) 3 underlying80 j W X .i64 .i64 n (by rw[Y];omega) ϧ nR;have ae:Ϝ w w0:=bR.grown N nR (λb hb=>by cases hb);have aa:=hqz R;clear j W X Y R N;have H:ϛ (∀k,k<n->Dg r (l.take (k+1))=Dg r (l.take k)++[r.getD (l.getD k 0).toNat ϰ]):=λk q=>by
  show Dg r (l.take (k+1))=_;rw[Mv l k (by rw[h.o];exact q)];simp[Dg]
 have F:ϛ (∀k,n<=k->Dg r (l.take k)=Dg r l):=λk q=>by
  show Dg r (l.take k)=_;rw[take_of_length_le (by rw[h.o];exact q)]
 have J:ϛ (∀k,(Dg r (l.take k)).length<=n):=λk=>by
  show(Dg r (l.take k)).length<=n;have:(l.take k).length<=l.length:=by rw[length_take];omega
  unfold Dg;rw[lMp,<-h.o];exact this
 obtain⟨pn,D⟩:=nM ((Dg r l).length);have ab:=hqz D;rw[D];clear D;go_enter func217,ntmps217;go_wp2
 go_loopw [5,7,13] (λv _ i wr=> ∃k:Nat,k<=n/\i=vI k/\AA wr w v (Dg r (l.take k))/\Ϝ w wr) (λ_ _ i _=>n - (intOf i).toNat)
 case atStart=>exact⟨0,Nat.zero_le _,rfl,aa.o,ae⟩
 case round=>
  obtain⟨k,q,rfl,Q,c⟩:=hrel;have d:=hqz Q;have U:=c.size;clear Q aj;by_cases y:k<n
  ·obtain⟨b,o,e,E⟩:=HL.o k (by rw[h.o];exact y);subst e;have C:=u.o k y;have f:=H.o k y;obtain⟨z,V⟩:=nM (l.getD k 0);rw[V]at E C f;obtain⟨t,rfl⟩:=Int.eq_ofNat_of_zero_le C.1;rw[Int.toNat_natCast]at f;obtain⟨b1,o1,e1,x1,x2,x3⟩:=HA.o t (by rw[HM.o];omega);subst e1;have qk:=cLz c E;have q1:=cLz c x1;have q2:=cLz c x2;have q3:=cLz c x3;obtain⟨⟨Z,nv,sv⟩,M⟩:∃z,r.getD t ϰ=z:=⟨_,rfl⟩;rw[M]at q1 q2 q3 f;dsimp only at q1 q2 q3;have I:ϛ (Dg r (l.take (k+1))=Dg r (l.take k)++[⟨Z,nv,sv⟩]):=f;have i1:(0:Int)<=(k:Int):=ϝ;have i2:(k:Int)<(n:Int):=ϝ;have i3:(0:Int)<=(t:Int):=ϝ;have i4:(t:Int)<(m:Int):=ϝ;have s:=J.o k;obtain⟨pr,T⟩:=nM (Dg r (l.take k));rw[T]at d I s;clear E x1 x2 x3 V M f C T;go_wp2_with (at_builtin;refine Ls rfl (.tmp 17) (.tmp 22) rfl w.heap.size u5 pr rfl wr d.o ⟨Z,nv,sv⟩ wr.heap.size rfl rfl ϝ U ?_;intro v2 w3 S ag);obtain⟨ac,c2,g,_⟩:=Ce S;have af:=IB c U d.o ag;subst g;go_roundw
   case rel=>exact⟨k+1,ϝ,by go_num,by rw[I.o];exact S,af⟩
   case measure=>simp[intOf];omega
  ·have G:=F.o k ϝ;obtain⟨ac,c2,g,_⟩:=Ce d.o;rw[G]at d g;rw[ab.o]at g;subst g;clear G F H J;go_wp2;go_ret;exact⟨⟨_,_,rfl,d.o⟩,c⟩
def J5(r:List Cel):Bool:=r.any λc=>c.k==0
theorem Wm{i:Nat}(a:i<r.length)(h:(r.getD i ϰ).k=0):J5 r=true:=by
 unfold J5;rw[any_eq_true];exact⟨_,Dw a,by simpa using h⟩
theorem YL(h:∀i,i<r.length->(r.getD i ϰ).k≠0):J5 r=false:=by
 unfold J5;rw[any_eq_false];intro c a;have:=(Hi (d:=ϰ) (Q:=λc:Cel=>c.k≠0)).1 h c a;simpa using this
def Er(p:Pln)(side:Int)(r:List Cel):List Cel:=Dg r (keysOf p side)
def hasB(p:Pln)(side:Int)(r:List Cel):Bool:=decide (Bn p side r=0)&& !J5 (Er p side r)
def As(p:Pln)(side:Int)(r:List Cel):ByteArray:=⟨(if hasB p side r=true then encR (Er p side r)else []).toArray⟩
theorem Dk(h:Bn p side r=0):Ag p=0/\Bm side=true/\r.length=(AD p side).length/\FR r=0/\DZ r (AD p side)=true:=by
 unfold Bn at h;by_cases a:Ag p=0
 ·rw[if_pos a]at h;unfold Aeu at h
  cases h1:Bm side with
  |false=>rw[h1]at h;cases h
  |true=>
   rw[h1,if_neg Ϟ]at h;by_cases c:r.length=(AD p side).length
   ·rw[if_neg (by simp[c])]at h;by_cases b:FR r=0
    ·rw[if_neg (by simp[b])]at h
     cases h4:DZ r (AD p side)with
     |false=>rw[h4]at h;cases h
     |true=>exact⟨a,rfl,c,b,rfl⟩
    ·rw[if_pos b]at h;exact absurd h b
   ·rw[if_pos c]at h;cases h
 ·rw[if_neg a]at h;exact absurd h a
theorem keys_in(h:Ag p=0):(∀x∈keysOf p side,0<=x/\x<((AD p side).length:Int))/\(keysOf p side).length<=4:=by
 obtain⟨_,_,b,_,a⟩:=Bf h;have c:=Fo b;unfold keysOf AD;split
 ·exact⟨a.2.1.2.2.1.1,ϝ⟩
 ·exact⟨a.2.1.2.1.1,ϝ⟩
theorem UE{l:List Int}(f:l.length<=8)(g:∀x∈l,0<=x/\x<(r.length:Int))(d:FR r=0)(h:B9 r):rowOk (Dg r l):=by
 refine⟨by unfold Dg;rw[lMp];exact f,λc b=>?_⟩;obtain⟨i,e,rfl⟩:=mem_map.1 b;have:=g i e;have a:r.getD i.toNat ϰ∈r:=Dw ϝ;exact⟨H3 d _ a,h _ a⟩
theorem Ky{s t:ByteArray}{a b:Bool}{x y:Int}(c:s=t)(d:a=b)(e:x=y):Ending.returned (.tuple #[.string s,.bool a,vI x])= .returned (.tuple #[.string t,.bool b,vI y]):=by rw[c,d,e]
theorem Ow(p:Pln)(x:PA)(side:Int)(D:Ϛ)(L:Nat)(r:List Cel)(w:ϙ)(hw:wfPlan p)(hp:planAt w p x)(hr:vl.rowAt w D r)(ai:B9 r)(ah:r.length<=χ):
 η 214 #[Ap p x,vI side,vS D r.length L] w (θ w (.tuple #[.string (As p side r),.bool (hasB p side r),vI (Bn p side r)])):=by
 have v:=hIz (λ(d:ϙ) (c:Ϝ w d)=>GI p x side D L r d hw (Ae hp c) (Ab hr c) ai ah);have y:=hIz (λ(d:ϙ)=>WH p x side d);have K:ϛ (∀d,Bn p side r=0->Ϝ w d->CT 217 #[vS D r.length L,vS (kA x side) (keysOf p side).length (kC x side)] d λe w'=>(∃s A,e= .returned (vS s (Er p side r).length A)/\AA w' d (vS s (Er p side r).length A) (Er p side r))/\Ϝ d w'):=λd k c=>by
  have h:=Dk k;have m:=keys_in (side:=side) h.1;exact YK D (kA x side) L (kC x side) r (keysOf p side) d ah ϝ (Ab hr c) (Ao (Gx hp side) c) (by rw[h.2.2.1];exact m.1)
 have P:ϛ (Bn p side r=0->rowOk (Er p side r)):=λk=>by
  have h:=Dk k;have m:=keys_in (side:=side) h.1;exact UE ϝ (by rw[h.2.2.1];exact m.1) h.2.2.2.1 ai
 have G:ϛ (hasB p side r=(decide (Bn p side r=0)&& !J5 (Er p side r))):=rfl;have H:ϛ (As p side r=⟨(if hasB p side r=true then encR (Er p side r)else []).toArray⟩):=rfl;obtain⟨re,B⟩:=nM (Bn p side r);obtain⟨b,F⟩:=nM (Er p side r);obtain⟨c,M⟩:=nM (hasB p side r);obtain⟨o,ag⟩:=nM (As p side r);obtain⟨ca,a3⟩:=nM (cA x side);obtain⟨cc,a4⟩:=nM (cC x side);obtain⟨ka,ab⟩:=nM (kA x side);obtain⟨kc,ae⟩:=nM (kC x side);obtain⟨cn,a5⟩:=nM ((AD p side).length);obtain⟨kn,af⟩:=nM ((keysOf p side).length);obtain⟨n,N⟩:=nM r.length;rw[B,N]at v;rw[ab,ae,af]at y;rw[B,ab,ae,af,F,N]at K;rw[B,F]at P;rw[B,F,M]at G;rw[M,F,ag]at H;rw[ag,M,B,N];clear B F M ag a3 a4 ab ae a5 af N hp hw hr ai ah;obtain⟨q,hq⟩:=nM b.length;have u:=hqz hq;rw[hq]at K;clear hq;obtain⟨bg,bk,bj,bc,bp,bh,left,right,a8,a9,ba,az,ay⟩:=p;obtain⟨l,lc,rr,rc,lk,bi,rk,bo,g,gc,a,ac⟩:=x;unfold Ap at v y⊢;dsimp only at v y⊢;obtain⟨n6,T⟩:∃n,left.length=n:=⟨_,rfl⟩;obtain⟨n7,U⟩:∃n,right.length=n:=⟨_,rfl⟩;obtain⟨n8,V⟩:∃n,a8.length=n:=⟨_,rfl⟩;obtain⟨n9,W⟩:∃n,a9.length=n:=⟨_,rfl⟩;obtain⟨bm,R⟩:∃n,az.length=n:=⟨_,rfl⟩;obtain⟨bn,S⟩:∃n,ay.length=n:=⟨_,rfl⟩;rw[T,U,V,W,R,S]at v y;rw[T,U,V,W,R,S];clear T U V W R S;go_enter func214,ntmps214;go_wp2_with fail;refine(v.o _ Ϩ).mono ?_;rintro e d ⟨rfl,X⟩;have Y:=Ϩ.trans (X.mono ϟ);obtain⟨a2,a6⟩:=DF X;by_cases k:re=0
 ·subst k;have O:ϛ (rowOk b):=P.o rfl;have HH:=hqz G.o;clear P G;go_wp2_with fail;refine(y.o _).mono ?_;rintro e w2 ⟨rfl,an⟩;have Z:=bT Y an;go_wp2_with fail;refine(K.o _ ϥ Z).mono ?_;rintro e w3 ⟨⟨s,A,rfl,au⟩,ao⟩;have a1:=bT Z ao;have ak:ϛ (vl.rowAt w3 s b):=by
   have:=Fg (r:=b) (cap:=A) (ad:=s) (base:=w2.heap.size) (w:=w3) (by rw[u.o];exact au);exact this
  clear a2 a6 v y K X an ao au Y Z;have be:q<=8:=by have:=O.o.1;rw[u.o]at this;exact this
  go_wp2
  go_loopw [12,29] (λ_ i wr=> ∃j:Nat,j<=q/\i=vI j/\Ϝ w3 wr/\∀i,i<j->(b.getD i ϰ).k≠0) (λ_ i _=>q - (intOf i).toNat)
  case atStart=>exact⟨0,Nat.zero_le _,rfl,bR,λi E=>absurd E (Nat.not_lt_zero i)⟩
  case round=>
   obtain⟨j,hj,rfl,t,am⟩:=hrel;have aj:=hqz am;have a7:=t.size;have aa:=bT a1 t;clear am;by_cases aq:j<q
   ·obtain⟨b1,o1,e1,x1,x2,x3⟩:=ak.o j (by rw[u.o];exact aq);subst e1;have q1:=cLz t x1;have q2:=cLz t x2;have q3:=cLz t x3;have I:ϛ ((b.getD j ϰ).k=0->J5 b=true):=λh=>Wm (by rw[u.o];exact aq) h;have J:ϛ ((b.getD j ϰ).k≠0->∀i,i<j+1->(b.getD i ϰ).k≠0):=λh i E=>by
     rcases Nat.lt_succ_iff_lt_or_eq.1 E with Q|Q
     ·exact aj.o i Q
     ·rw[Q];exact h
    obtain⟨⟨kv,nv,sv⟩,ap⟩:∃z,b.getD j ϰ=z:=⟨_,rfl⟩;rw[ap]at q1 q2 q3 I J;dsimp only at q1 q2 q3 I J;have i1:(0:Int)<=(j:Int):=ϝ;have i2:(j:Int)<(q:Int):=ϝ;clear ap x1 x2 x3;by_cases m:kv=0
    ·subst m;have f:ϛ (c=false):=by show c=false;rw[HH.o,I.o rfl];rfl
     have C:ϛ (o=⟨#[]⟩):=by show o=_;rw[H.o,f.o];rfl
     go_wp2
     go_ret3
     exact⟨Ky C.o.symm f.o.symm rfl,aa.alloc aa.size _⟩
    ·have bd:(kv==0)=false:=by simpa using m
     have al:=J.o m;have ax:ϛ (∀i,i<j+1->(b.getD i ϰ).k≠0):=al;clear m al J I;go_wp2;go_roundw
     case rel=>exact⟨j+1,ϝ,by go_num,t.alloc a7 _,ax.o⟩
     case measure=>simp[intOf];omega
   ·have aw:ϛ (J5 b=false):=YL (λi E=>aj.o i (by rw[u.o]at E;omega));have f:ϛ (c=true):=by show c=true;rw[HH.o,aw.o];rfl
    have C:ϛ (o=⟨(encR b).toArray⟩):=by show o=_;rw[H.o,f.o];rfl
    have KK:ϛ (CT 112 #[vS s q A] wr (θ wr (.tuple #[.string (EY b),ω]))):=by
     have:=vl.Adg s A b wr (Ab ak.o t) O.o;rwa[u.o]at this
    have av:ϛ (EY b=o):=by
     show EY b=o;rw[C.o];apply str_eq;rw[Jo O.o]
    go_wp2_with fail;refine KK.o.mono ?_;rintro e w4 ⟨rfl,a0⟩;go_wp2
    go_ret3
    exact⟨Ky av.o f.o.symm rfl,bT aa a0⟩
 ·have bb:(re !=0)=true:=by simpa using k
  have f:ϛ (c=false):=by show c=false;rw[G.o,decide_eq_false k];rfl
  have C:ϛ (o=⟨#[]⟩):=by show o=_;rw[H.o,f.o];rfl
  clear k;go_wp2
  go_ret3
  exact⟨Ky C.o.symm f.o.symm rfl,Y⟩
end pl
namespace bt
open vl pl
end bt
namespace bt
open vl pl
def CN(n:Nat):List Cel:=List.replicate n ⟨0,0,⟨#[]⟩⟩
end bt
namespace bt
open vl pl
theorem Aei:(Tryz.prog.info? 119).map (λi=>(i.zero,i.size,i.bytes))=some (some (.agg #[ω,ω,ϊ]),3,32):=Ϡ
theorem YM(n:Nat)(w:ϙ)(e:n<=400):
 (Instr.makeSlice 80 (vI (n:Int)) (vI (n:Int))).run Tryz.prog w= .ok (vS (τ w) n n) (ξ w (madeCells #[ω,ω,ϊ] (n * 3)) 119):=by
 have a:=Aei
 cases hi:Tryz.prog.info? 119 with
 |none=>rw[hi]at a;cases a
 |some i=>
  rw[hi]at a;simp only[Option.map_some,Option.some.injEq,Prod.mk.injEq]at a;obtain⟨d,b,c⟩:=a;have:=run_makeSlice (P:=Tryz.prog) (w:=w) 80 119 i _ underlying80 hi d .i64 .i64 n n ϝ (Int.le_refl _) (by rw[b];simp;omega) (by rw[c];omega) ϝ;rw[b,Int.toNat_natCast]at this;exact this
theorem YN(n:Nat)(w:ϙ)(k:1<=n)(l:n<=4):vl.rowAt (ξ w (madeCells #[ω,ω,ϊ] (n * 3)) 119) (τ w) (CN n):=by
 have b:madeCells #[ω,ω,ϊ] (1 * 3)=#[vI 0,vI 0,.string ⟨#[]⟩]:=Ϡ;have c:madeCells #[ω,ω,ϊ] (2 * 3)=#[vI 0,vI 0,.string ⟨#[]⟩,vI 0,vI 0,.string ⟨#[]⟩]:=Ϡ;have d:madeCells #[ω,ω,ϊ] (3 * 3)=#[vI 0,vI 0,.string ⟨#[]⟩,vI 0,vI 0,.string ⟨#[]⟩,vI 0,vI 0,.string ⟨#[]⟩]:=Ϡ;have f:madeCells #[ω,ω,ϊ] (4 * 3)=#[vI 0,vI 0,.string ⟨#[]⟩,vI 0,vI 0,.string ⟨#[]⟩,vI 0,vI 0,.string ⟨#[]⟩,vI 0,vI 0,.string ⟨#[]⟩]:=Ϡ;have j:n=1\/n=2\/n=3\/n=4:=ϝ;intro i g;have a:i<n:=by simpa[CN]using g
 refine⟨_,_,rfl,?_⟩;have e:(CN n).getD i ϰ=⟨0,0,⟨#[]⟩⟩:=by simp[CN,gDe,a]
 rw[e];have h:i=0\/i=1\/i=2\/i=3:=ϝ;rcases j with rfl|rfl|rfl|rfl<;>rcases h with rfl|rfl|rfl|rfl<;>first|(exact absurd a Ϟ)|((first|rw[b]|rw[c]|rw[d]|rw[f]);clear b c d f;refine⟨?_,?_,?_⟩<;>go_simp)
theorem Wn(p:Pln)(x:PA)(side:Int)(w:ϙ)(t:1<=(AD p side).length)(u:(AD p side).length<=4):
 η 365 #[Ap p x,vI side] w λe B=>(∃d,e= .returned (vS (τ d) (AD p side).length (AD p side).length)/\w.heap.size<=d/\vl.rowAt B (τ d) (CN (AD p side).length))/\Ϝ w B:=by
 have c:=hIz (λ(b:ϙ)=>Lz p x side b);have q:ϛ (∀b,vl.rowAt (ξ b (madeCells #[ω,ω,ϊ] ((AD p side).length * 3)) 119) (τ b) (CN (AD p side).length)):=λb=>YN _ b t u;have s:ϛ (∀b,(Instr.makeSlice 80 (vI ((AD p side).length:Int)) (vI ((AD p side).length:Int))).run Tryz.prog b= .ok (vS (τ b) (AD p side).length (AD p side).length) (ξ b (madeCells #[ω,ω,ϊ] ((AD p side).length * 3)) 119)):=λb=>YM _ b ϝ;obtain⟨n,o⟩:∃n,(AD p side).length=n:=⟨_,rfl⟩;obtain⟨I,y⟩:=nM (cA x side);obtain⟨J,z⟩:=nM (cC x side);rw[o]at q s⊢;rw[o,y,z]at c;clear o y z t u;obtain⟨O,U,T,M,ab,Q,left,right,F,G,L,D,C⟩:=p;obtain⟨l,P,rr,rc,R,S,rk,aa,g,K,a,H⟩:=x;unfold Ap at c⊢;dsimp only at c⊢;obtain⟨X,i⟩:∃n,left.length=n:=⟨_,rfl⟩;obtain⟨Y,j⟩:∃n,right.length=n:=⟨_,rfl⟩;obtain⟨Z,k⟩:∃n,F.length=n:=⟨_,rfl⟩;obtain⟨n9,m⟩:∃n,G.length=n:=⟨_,rfl⟩;obtain⟨V,f⟩:∃n,D.length=n:=⟨_,rfl⟩;obtain⟨W,h⟩:∃n,C.length=n:=⟨_,rfl⟩;rw[i,j,k,m,f,h]at c;rw[i,j,k,m,f,h];clear i j k m f h;go_enter func365,ntmps365;go_wp2_with fail;refine(c.o _).mono ?_;rintro e b ⟨rfl,E⟩;have v:=Ϩ.trans (E.mono ϟ);have N:=s.o b;have A:=v.size;go_wp2;go_ret;exact⟨⟨_,rfl,A,q.o b⟩,v.alloc A _⟩
end bt
namespace pl
open vl
theorem IQ{f:Array Oper}{rest:List Oper}{o:Oper}{a:Act}{Q:Exit->Act->World->Prop}(k:o.guard=none)(s x:Operand)
 (q:o.op= .call {callee:=.builtin .append,args:=#[s,x],argTypes:=#[29,29]}) (base:Nat) (v:Value) (l:List Int) (w:a.eval s=v) (b:ϙ)
 (t:CQ b base v l) (n:Int) (B:Nat) (j:b.heap.size=B) (y:a.eval x=vS (τ B) 1 1) (F:l.length<=1000000) (E:base<=b.heap.size)
 (h:∀d c,CQ c base d (l++[n])->(b.alloc (.cells #[vI n] 3)).grownBy c v.ownBlock->wpList Tryz.prog f Q rest (a.put o.dst d) c):
 wpList Tryz.prog f Q (o::rest) a (ξ b #[vI n] 3):=by
 subst j;obtain⟨D,m,z,A,C⟩:=info_parts Tryz.info3;refine wpList_append_own _ k s x 29 q base 3 D (vI 0) 1 8 underlying29 m z A C rfl Ϟ v l.length (l.map IW) w
  (World.ownsRow.alloc t _) ⟨b,0,none⟩ 1 1 [vI n] y rfl (cell_one_new _ _ _) (by intro u e;simp at e;subst e;rfl) ϧ ϝ Ϣ ?_
 intro d c g i _;refine h d c ?_ i;unfold CQ;rw[lAp,map_append];exact g
theorem FN{base:Nat}{w a b:ϙ}{v:Value}{l:List Int}{o:Obj}(d:Below base w a)(c:base<=a.heap.size)(g:CQ a base v l)(e:(a.alloc o).grownBy b v.ownBlock):Below base w b:=
 (d.alloc c o).grown e Ϣ (λk f=>(World.ownsRow.lt g k f).1)
def IA(c:List Int)(a:Int×Int):Int:=if a.1=3\/a.1=4 then c.getD a.2.toNat 0 else 2
def Dv(p:Pln):List Int:=if p.grouped=true then p.group.map (λi=>(Bb p).getD i.toNat 0)++p.aggs.map (IA (Bb p))else Bb p
theorem QJ(f k:Int)(ad:Ϛ)(y:Nat)(c:List Int)(w:ϙ)(l:Ay w ad c)(A:c.length<=χ)(ha:FZ c (f,k))(E:1<=f/\f<=4):
 η 173 #[.agg #[vI f,vI k],vS ad c.length y] w (θ w (vI (IA c (f,k)))):=by
 have a:ϛ (IA c (f,k)=if f=3\/f=4 then c.getD k.toNat 0 else 2):=rfl;obtain⟨n,g⟩:=nM c.length;have x:=hqz g;have i:ϛ (f≠1->0<=k/\k<(n:Int)):=λh=>by
  unfold FZ at ha;dsimp only at ha;rw[if_neg h]at ha;rw[<-g];exact ha.1
 rw[g]at A⊢;clear g ha;obtain⟨D,q⟩:=nM (IA c (f,k));rw[q]at a⊢;clear q;by_cases d:f=3\/f=4
 ·rw[if_pos d]at a;have s:=i.o ϝ;obtain⟨m,rfl⟩:=Int.eq_ofNat_of_zero_le s.1;rw[Int.toNat_natCast]at a;obtain⟨b,o,e,v⟩:=l m (by rw[x.o];omega);subst e;have t:=bLt _ _ v;have F:b<w.heap.size:=t;obtain⟨z,u⟩:=nM (c.getD m 0);rw[u]at v a;have G:(0:Int)<=(m:Int):=ϝ;have H:(m:Int)<(n:Int):=ϝ;have j:=hqz a.o;clear u l s a i t;rcases d with rfl|rfl
  all_goals
   go_enter func173,ntmps173;go_wp2;go_ret;exact⟨Aj j.o.symm,Ϩ⟩
 ·rw[if_neg d]at a;have B:(f==3)=false:=Ϣ;have C:(f==4)=false:=Ϣ;have j:=hqz a.o;clear d l a i;go_enter func173,ntmps173;go_wp2;go_ret;exact⟨Aj j.o.symm,Ϩ⟩
theorem takeA(l:List (Int×Int))(k:Nat)(h:k<l.length):l.take (k+1)=l.take k++[l.getD k (0,0)]:=by
 rw[take_succ_eq_append_getElem h];simp[gDe,h]
def Pv(p:Pln)(base:Nat)(e:Ending)(w':World):Prop:=
 (Ag p≠0/\e= .returned (.tuple #[ψ,vI (Ag p)]))\/
 (Ag p=0/\∃ad cap,e= .returned (.tuple #[vS ad (Dv p).length cap,ω])/\Ay w' ad (Dv p))
theorem UF(p:Pln)(x:PA)(w:ϙ)(hw:wfPlan p)(W:planAt w p x):
 η 105 #[Ap p x] w λe d=>Pv p w.heap.size e d/\Ϝ w d:=by
 have I:=hIz (λ(f:ϙ) (T:Ϝ w f)=>C0 p x f hw (Ae W T));have L:=λh:Ag p=0=>Bf h;have B:ϛ (∀f,Ag p=0->Ϝ w f->CT 133 #[Ap p x] f λe d=>(∃s A,e= .returned (vS s (Bb p).length A)/\CQ d f.heap.size (vS s (Bb p).length A) (Bb p))/\Ϝ f d):=λf h T=>by
  have hm:=Fo (L h).2.2.1;exact Cy p x f (Ae W T) ϝ ϝ ϝ ϝ
 have F:ϛ (Ag p=0->(∀j,j<p.group.length->0<=p.group.getD j 0/\p.group.getD j 0<((Bb p).length:Int))/\p.group.length<=8/\p.aggs.length<=4/\(Bb p).length<=8):=λh=>by
  have hm:=Fo (L h).2.2.1;refine⟨Ad7 (L h).2.2.2.2,ϝ,ϝ,?_⟩;unfold Bb;rw[lAp];omega
 have E:ϛ (Ag p=0->p.grouped=true->∀j,j<p.aggs.length->FZ (Bb p) (p.aggs.getD j (0,0))/\(1<=(p.aggs.getD j (0,0)).1/\(p.aggs.getD j (0,0)).1<=4)):=λh hg j hj=>⟨Ad8 (L h).2.2.2.2 j hj,(L h).1.2.2 hg _ (Dw hj)⟩;have H:yes p.grouped (Dv p=p.group.map (λi=>(Bb p).getD i.toNat 0)++p.aggs.map (IA (Bb p))):=λh=>if_pos h;have G:yes (!p.grouped) (Dv p=Bb p):=λh=>if_neg (by simpa using h);have a2:ϛ (Ay w x.g p.group):=W.g;have a1:ϛ (Es w x.a p.aggs):=W.a;have af:ϛ (Ag p≠0->∀e d,e= .returned (.tuple #[ψ,vI (Ag p)])->Pv p w.heap.size e d):=λh e d he=>.inl ⟨h,he⟩;have R:ϛ (Ag p=0->∀e d s A,e= .returned (.tuple #[vS s (Dv p).length A,ω])->Ay d s (Dv p)->Pv p w.heap.size e d):=λh e d s A he hi=>.inr ⟨h,s,A,he,hi⟩;obtain⟨a3,a5⟩:=nM (Pv p w.heap.size);rw[a5]at af R⊢;obtain⟨pe,bi⟩:=nM (Ag p);rw[bi]at I B F E af R;obtain⟨c,a7⟩:=nM (Bb p);rw[a7]at B F E H G;obtain⟨N,be⟩:=nM (Dv p);rw[be]at H G R;clear a5 bi a7 be hw W L;obtain⟨b6,ca,b9,b5,cf,b7,left,right,bv,bw,a4,u,t⟩:=p;obtain⟨l,lc,r,rc,lk,b8,rk,cb,g,gc,a,ac⟩:=x;unfold Ap at I B⊢;dsimp only at I B F E H G a2 a1⊢;obtain⟨n6,h6⟩:∃n,left.length=n:=⟨_,rfl⟩;obtain⟨n7,h7⟩:∃n,right.length=n:=⟨_,rfl⟩;obtain⟨n8,h8⟩:∃n,bv.length=n:=⟨_,rfl⟩;obtain⟨n9,h9⟩:∃n,bw.length=n:=⟨_,rfl⟩;obtain⟨Z,K⟩:∃n,u.length=n:=⟨_,rfl⟩;obtain⟨M,C⟩:∃n,t.length=n:=⟨_,rfl⟩;obtain⟨cn,aj⟩:∃n,c.length=n:=⟨_,rfl⟩;have aa:=hqz K;have al:=hqz C;have ab:=hqz aj;rw[h6,h7,h8,h9,K,C]at I;rw[h6,h7,h8,h9,K,C,aj]at B;rw[K,C,aj]at F;rw[C]at E;rw[h6,h7,h8,h9,K,C];clear h6 h7 h8 h9 K C aj;go_enter func105,ntmps105;go_wp2_with fail;refine(I.o _ Ϩ).mono ?_;rintro e f ⟨rfl,ah⟩;have an:=Ϩ.trans (ah.mono ϟ);obtain⟨ai,br⟩:=DF ah;have ax:w.heap.size<f.heap.size:=(by have:=ah.size;simp at this;omega);by_cases h0:pe=0
 ·subst h0;go_wp2_with fail;refine(B.o _ ϥ an).mono ?_;rintro e y ⟨⟨s,A,rfl,ho⟩,U⟩;have ao:=bT an U;have ae:ϛ (Ay y s c):=(Il ho).1;have cc:Δ y w 10 (.bool a4):=by rw[(DF U).1 _ _ ax,ai _ _ ϟ];go_simp
  have cd:Δ y w 11 (vS g Z gc):=by rw[(DF U).1 _ _ ax,ai _ _ ϟ];go_simp
  have bx:Δ y w 12 (vS a M ac):=by rw[(DF U).1 _ _ ax,ai _ _ ϟ];go_simp
  obtain⟨bb,bs,b3,b4⟩:=F.o ϥ;have bo:=hqz bb;have HR:ϛ (∀e d s A,e= .returned (.tuple #[vS s N.length A,ω])->Ay d s N->a3 e d):=R.o ϥ;clear ai br ah U ho I B bb F af R
  cases a4 with
  |false=>
   have Q:ϛ (N=c):=G rfl;clear H G;go_wp2
   go_ret2
   exact⟨HR.o _ _ s A (by rw[Q.o,ab.o];rfl) (by rw[Q.o];exact ae.o),ao⟩
  |true=>
   have Q:ϛ (N=u.map (λi=>c.getD i.toNat 0)++t.map (IA c)):=H rfl;clear H G;have bn:ϛ (∀j,j<M->FZ c (t.getD j (0,0))/\(1<=(t.getD j (0,0)).1/\(t.getD j (0,0)).1<=4)):=E.o ϥ ϥ;clear E;go_wp2
   go_loopw [6,8,25] (λv _ i wr=> ∃k:Nat,k<=Z/\i=vI k/\CQ wr y.heap.size v ((u.take k).map (λi=>c.getD i.toNat 0))/\Ϝ y wr) (λ_ _ i _=>Z - (intOf i).toNat)
   case atStart=>exact⟨0,Nat.zero_le _,rfl,World.ownsRow_nil _ _ _ _,bR⟩
   case round=>
    obtain⟨k,hk,rfl,bg,D⟩:=hrel;have O:=hqz bg;have bj:=D.size;have bq:=bT ao D;have b0:=cLz D bx;clear bg;by_cases au:k<Z
    ·obtain⟨b,o,e,xk⟩:=a2.o k (by rw[aa.o];exact au);subst e;have aw:=bo.o k au;have q:ϛ ((u.take (k+1)).map (λi=>c.getD i.toNat 0)=(u.take k).map (λi=>c.getD i.toNat 0)++[c.getD (u.getD k 0).toNat 0]):=by
      show(u.take (k+1)).map _=_;rw[Mv u k (by rw[aa.o];exact au),map_append];rfl
     have am:((u.take k).map (λi=>c.getD i.toNat 0)).length<=8:=by rw[lMp,length_take];omega
     obtain⟨z,hz⟩:=nM (u.getD k 0);rw[hz]at xk aw q;obtain⟨zn,rfl⟩:=Int.eq_ofNat_of_zero_le aw.1;rw[Int.toNat_natCast]at q;obtain⟨b1,o1,e1,x1⟩:=ae.o zn (by rw[ab.o];omega);subst e1;have qk:=cLz bq xk;have q1:=cLz D x1;obtain⟨cv,a8⟩:=nM (c.getD zn 0);rw[a8]at q1 q;obtain⟨pr,X⟩:=nM ((u.take k).map (λi=>c.getD i.toNat 0));rw[X]at O q am;have i1:(0:Int)<=(k:Int):=ϝ;have i2:(k:Int)<(Z:Int):=ϝ;have i3:(0:Int)<=(zn:Int):=ϝ;have i4:(zn:Int)<(cn:Int):=ϝ;clear xk x1 hz a8 aw X;go_wp2_with (at_builtin;refine IQ rfl (.tmp 29) (.tmp 34) rfl y.heap.size u6 pr rfl wr O.o cv wr.heap.size rfl rfl ϝ bj ?_;intro v2 w3 V ar);obtain⟨ag,c2,Y,_⟩:=Ce V;have ap:=FN D bj O.o ar;subst Y;go_roundw
     case rel=>exact⟨k+1,ϝ,by go_num,by rw[q.o];exact V,ap⟩
     case measure=>simp[intOf];omega
    ·have q:ϛ (u.take k=u):=take_of_length_le (by rw[aa.o];omega);have ay:ϛ (CQ wr y.heap.size u6 (u.map (λi=>c.getD i.toNat 0))):=by
      have:=O.o;rw[q.o]at this;exact this
     have bu:(u.map (λi=>c.getD i.toNat 0)).length<=8:=by rw[lMp,aa.o];exact bs
     obtain⟨J,bc⟩:=nM (u.map (λi=>c.getD i.toNat 0));rw[bc]at ay Q bu;obtain⟨W2,rfl⟩:∃x,x=wr:=⟨_,rfl⟩;have bz:ϛ (Ay W2 s c):=Ao ae.o D;clear O q bc;go_wp2
     go_loopw [6,10,40] (λv _ i wr=> ∃k:Nat,k<=M/\i=vI k/\CQ wr y.heap.size v (J++(t.take k).map (IA c))/\Ϝ y wr) (λ_ _ i _=>M - (intOf i).toNat)
     case atStart=>exact⟨0,Nat.zero_le _,rfl,by simpa using ay.o,D⟩
     case round=>
      obtain⟨m,hm,rfl,bh,ak⟩:=hrel;have P:=hqz bh;have bk:=ak.size;have aq:=bT ao ak;clear bh;by_cases av:m<M
      ·obtain⟨b,o,e,xa,xb⟩:=a1.o m (by rw[al.o];exact av);subst e;have qa:=cLz aq xa;have qb:=cLz aq xb;have S:=bn.o m av;have q:ϛ (J++(t.take (m+1)).map (IA c)=J++(t.take m).map (IA c)++[IA c (t.getD m (0,0))]):=by
        show J++(t.take (m+1)).map (IA c)=_;rw[takeA t m (by rw[al.o];exact av),map_append,<-append_assoc];rfl
       have am:(J++(t.take m).map (IA c)).length<=100:=by rw[lAp,lMp,length_take];omega
       obtain⟨⟨fv,kv⟩,a9⟩:∃z,t.getD m (0,0)=z:=⟨_,rfl⟩;rw[a9]at qa qb S q;dsimp only at qa qb S;have KF:ϛ (∀f,Ϝ y f->CT 173 #[.agg #[vI fv,vI kv],vS s cn A] f (θ f (vI (IA c (fv,kv))))):=λf T=>by
        have:=QJ fv kv s A c f (Ao ae.o T) (by rw[ab.o];omega) S.1 S.2;rwa[ab.o]at this
       obtain⟨ft,ba⟩:=nM (IA c (fv,kv));rw[ba]at KF q;obtain⟨pr,X⟩:=nM (J++(t.take m).map (IA c));rw[X]at P q am;have i1:(0:Int)<=(m:Int):=ϝ;have i2:(m:Int)<(M:Int):=ϝ;clear xa xb a9 S ba X;go_wp2_with fail;refine(KF.o _ (ak.alloc bk _)).mono ?_;rintro e w5 ⟨rfl,a6⟩;have bd:=(ak.alloc bk _).trans (a6.mono Ϣ);have a0:ϛ (CQ w5 y.heap.size u6 pr):=QM (QM P.o Ϩ) a6;have bm:=bd.size;clear P;go_wp2_with (at_builtin;refine IQ rfl (.tmp 44) (.tmp 48) rfl y.heap.size u6 pr rfl w5 a0.o ft w5.heap.size rfl rfl ϝ bm ?_;intro v2 w3 V ar);obtain⟨ag,c2,Y,_⟩:=Ce V;have ap:=FN bd bm a0.o ar;subst Y;go_roundw
       case rel=>exact⟨m+1,ϝ,by go_num,by rw[q.o];exact V,ap⟩
       case measure=>simp[intOf];omega
      ·have q:ϛ (t.take m=t):=take_of_length_le (by rw[al.o];omega);have az:ϛ (CQ wr y.heap.size u6 N):=by
        have:=P.o;rw[q.o,<-Q.o]at this;exact this
       obtain⟨ag,c2,Y,_⟩:=Ce az.o;subst Y;have bp:ϛ (Ay wr ag N):=(Il az.o).1;clear P q;go_wp2
       go_ret2
       exact⟨HR.o _ _ ag c2 rfl bp.o,aq⟩
 ·have b2:(pe !=0)=true:=by simpa using h0
  have HR:ϛ (∀e d,e= .returned (.tuple #[ψ,vI pe])->a3 e d):=af.o h0;clear h0;go_wp2
  go_ret2
  exact⟨HR.o _ _ rfl,an⟩
end pl
namespace bt
open vl pl
end bt
end Go.Proofs.YtfkihidbnfkbaaaGreatDoor
