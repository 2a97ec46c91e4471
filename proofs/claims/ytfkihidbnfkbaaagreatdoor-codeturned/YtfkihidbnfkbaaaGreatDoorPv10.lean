import Derived.Test.YtfkihidbnfkbaaaGreatDoorPv5
set_option linter.all false
set_option maxHeartbeats 8000000
set_option maxRecDepth 100000
open Go.ChangeShapes Go.WideShapes Go.ChangeAt Go.RowKit List
open Inhabited renaming default->ϰ
namespace Go.Proofs.YtfkihidbnfkbaaaGreatDoor
open Go.Proofs.Tryz
namespace pl
variable {P : Program} {md : Region.Mode} {ops : Array Oper} {Q : Exit -> Act -> World -> Prop} {S : World -> Prop} {fuel : Nat} {listed : Array Bool} {a : Act} {w : Ϙ} {oi : Oper} {x y : Int}
theorem AaJ(i:Nat)(d:Option Tmp)(j:ops[i]? =some oi)
 (m:Region.noSelect ops=true) (g:Region.free md ops listed i=true) (k:(Region.ready md ops listed).contains i=true) (b:∀c a w,Q (.panic c) (a.put oi.dst undef) w->Q (.panic c) a w) (f:oi.dst=d)
 (o:Region.wanted oi (yielded ops a.tmps)=false) (e:S w) (h:wpAnyH P md ops Q S fuel (listed.setIfInBounds i true) (a.put d undef) w):wpAnyH P md ops Q S (fuel+1) listed a w:=
 wpAnyH_take j m g k b (Or.inr ⟨o,rfl⟩) e (by rw[f];exact h)
theorem AaK{v:Value}(i:Nat)(d:Option Tmp)(j:ops[i]? =some oi)
 (m:Region.noSelect ops=true) (g:Region.free md ops listed i=true) (k:(Region.ready md ops listed).contains i=true) (b:∀c a w,Q (.panic c) (a.put oi.dst v) w->Q (.panic c) a w) (f:oi.dst=d)
 (o:Region.wanted oi (yielded ops a.tmps)=true) (hy:∀w,S w->(execOp a.eval oi).run P w= .ok (.value v) w) (e:S w) (h:wpAnyH P md ops Q S fuel (listed.setIfInBounds i true) (a.put d v) w):wpAnyH P md ops Q S (fuel+1) listed a w:=
 wpAnyH_take j m g k b (Or.inl ⟨o,hy⟩) e (by rw[f];exact h)
theorem Om(b:Bool)(h:decide (x<=y)=b):∀t,binOp .leq t (vI x) (vI y)=pure (.bool b):=λt=>by rw[binOp_leq,h]
theorem Aaj(b:Bool)(h:(x==y)=b):∀t,binOp .eql t (vI x) (vI y)=pure (.bool b):=λt=>by rw[binOp_eql,h]
theorem Aak(b:Bool)(h:decide (x<y)=b):∀t,binOp .lss t (vI x) (vI y)=pure (.bool b):=λt=>by rw[binOp_lss,h]
theorem Fy(b:Bool)(h:decide (x>y)=b):∀t,binOp .gtr t (vI x) (vI y)=pure (.bool b):=λt=>by rw[binOp_gtr,h]
end pl
namespace pl
open vl
variable {p : Pln} {w : Ϙ} {side t : Int} {x : PA} {r : List Cel}
theorem Aal(h:Cs p)(j:Nat)(b:j<p.group.length):0<=p.group.getD j 0/\p.group.getD j 0<((BG p).length:Int):=h.2.2.1.1 _ (Dj b)
theorem Aam(h:Cs p)(j:Nat)(b:j<p.aggs.length):Gl (BG p) (p.aggs.getD j (0,0)):=h.2.2.2 _ (Dj b)
theorem P7{B:Nat}{a:Ϙ}(h:Below B a w)(q:Nat):Below B a (w.drewN q):=⟨h.os,h.tape,h.output,h.size,h.block⟩
theorem Dh(p:Pln)(x:PA)(w:Ϙ)(hw:wfPlan p)(Y:planAt w p x)(n1:0<p.left.length)(n2:0<p.right.length)(m1:p.left.length<=400)(m2:p.right.length<=400):
 η 73 #[Aq p x] w (θ w (.bool (decide (Cs p)))):=by
 have az:(BG p).length<=800:=by unfold BG;rw[lAp];omega
 have J:=hIz (λ(F:Ϙ) (N:ϛ w F)=>Nb p x F hw (Ag Y N));have H:=hIz (λ(F:Ϙ) (N:ϛ w F)=>CC p x F (Ag Y N) n1 n2 m1 m2);have L:=hIz (λU W (F:Ϙ) (N:ϛ w F)=>Eu x.g U x.gc W (BG p).length p.group F hw.g Ϝ (Av Y.g N));have I:=hIz (λU W (F:Ϙ) (N:ϛ w F) (hi:A8 F U (BG p))=>Nc x.a U x.ac W p.aggs (BG p) F hw.a Ϝ (E6 Y.a N) hi);have G:Ϛ (decide (Cs p)=(decide (p.low<=p.high)&&decide (GU p)&&decide (AU p.group (BG p).length)&&decide (Gg (BG p) p.aggs))):=by
  refine(DG ?_).symm;unfold Cs;simp only[Bool.and_eq_true,decide_eq_true_eq,and_assoc];exact Iff.rfl
 obtain⟨q1,ar⟩:=nM (decide (GU p));obtain⟨q2,au⟩:=nM (decide (AU p.group (BG p).length));obtain⟨q3,av⟩:=nM (decide (Gg (BG p) p.aggs));rw[ar]at J G;rw[au]at L G;rw[av]at I G;obtain⟨cn,ap⟩:=nM ((BG p).length);rw[ap]at H L I;obtain⟨cs,aq⟩:=nM (BG p);rw[aq]at H I;clear ar au av ap aq az hw Y n1 n2 m1 m2;obtain⟨ag,aj,R,O,an,ah,left,right,bb,bc,aa,ax,aw⟩:=p;obtain⟨l,lc,r,rc,lk,ai,rk,am,g,gc,a,ac⟩:=x;unfold Aq at J H⊢;dsimp only at J H L I G⊢;obtain⟨n6,h6⟩:∃n,left.length=n:=⟨_,rfl⟩;obtain⟨n7,h7⟩:∃n,right.length=n:=⟨_,rfl⟩;obtain⟨n8,h8⟩:∃n,bb.length=n:=⟨_,rfl⟩;obtain⟨n9,h9⟩:∃n,bc.length=n:=⟨_,rfl⟩;obtain⟨ak,ab⟩:∃n,ax.length=n:=⟨_,rfl⟩;obtain⟨al,ae⟩:∃n,aw.length=n:=⟨_,rfl⟩;rw[h6,h7,h8,h9,ab,ae]at J H;rw[ab]at L;rw[ae]at I;rw[h6,h7,h8,h9,ab,ae];clear h6 h7 h8 h9 ab ae;by_cases V:R<=O
 ·have t0:=Om (x:=R) (y:=O) true (decide_eq_true V);rw[decide_eq_true V]at G;clear V
  cases q1
  ·clear H L I;go_enter func73,ntmps73;go_wp2;refine wp_region_held_drew (S:=(λT=>ϒ T w (vI ag) (vI aj) (vI R) (vI O) (vI an) (vI ah) (vS l n6 lc) (vS r n7 rc) (vS lk n8 ai) (vS rk n9 am) (.bool aa) (vS g ak gc) (vS a al ac))) ϟ ⟨Ϡ,Ϡ,Ϡ,Ϡ,Ϡ,Ϡ,Ϡ,Ϡ,Ϡ,Ϡ,Ϡ,Ϡ,Ϡ⟩ (λb=>?_);refine tkz 0 3 b ?_;refine tkz 1 4 b ?_;refine tkz 2 5 b ?_;refine tkz 3 6 b ?_;refine tkz 4 7 b ?_;refine tkz 5 8 b ?_;refine tkz 6 9 b ?_;refine rD 7 λK h=>?_;go_simp;refine(J.o _ (by first|exact ϧ.drew|exact ϧ)).mono ?_;rintro e Z ⟨rfl,c⟩;have M:ϛ w Z:=(by first|exact(ϧ.drew).trans (c.mono Ϟ)|exact ϧ.trans (c.mono Ϟ));go_wp2_with fail;refine h.out _ _ (by obtain⟨i,j,q,s,u,v,z,A,B,C,k,m,o⟩:=b;exact⟨cLz c i,cLz c j,cLz c q,cLz c s,cLz c u,cLz c v,cLz c z,cLz c A,cLz c B,cLz c C,cLz c k,cLz c m,cLz c o⟩) (λb=>?_);clear h K
   try simp only[Act.put,sI,sZ,sS]
   refine tkz 8 11 b ?_;refine tkz 9 12 b ?_;refine sk 10 13 b ?_;refine sk 11 14 b ?_;refine sk 12 15 b ?_;refine sk 13 16 b ?_;refine sk 14 17 b ?_;refine tkz 15 18 b ?_;refine tkz 16 19 b ?_;refine sk 17 20 b ?_;refine sk 18 21 b ?_;refine sk 19 22 b ?_;refine sk 20 23 b ?_;refine sk 21 24 b ?_;refine tkz 22 25 b ?_;refine tkz 23 2 b ?_;refine wpAnyH_done ϟ ?_ _;go_wp2;go_ret;exact⟨Aa (by rw[G.o];first|rfl|simp),by first|exact M|exact(ϧ.drew)|exact ϧ⟩
  ·cases q2
   ·clear I;go_enter func73,ntmps73;go_wp2;refine wp_region_held_drew (S:=(λT=>ϒ T w (vI ag) (vI aj) (vI R) (vI O) (vI an) (vI ah) (vS l n6 lc) (vS r n7 rc) (vS lk n8 ai) (vS rk n9 am) (.bool aa) (vS g ak gc) (vS a al ac))) ϟ ⟨Ϡ,Ϡ,Ϡ,Ϡ,Ϡ,Ϡ,Ϡ,Ϡ,Ϡ,Ϡ,Ϡ,Ϡ,Ϡ⟩ (λb=>?_);refine tkz 0 3 b ?_;refine tkz 1 4 b ?_;refine tkz 2 5 b ?_;refine tkz 3 6 b ?_;refine tkz 4 7 b ?_;refine tkz 5 8 b ?_;refine tkz 6 9 b ?_;refine rD 7 λK h=>?_;go_simp;refine(J.o _ (by first|exact ϧ.drew|exact ϧ)).mono ?_;rintro e Z ⟨rfl,c⟩;have M:ϛ w Z:=(by first|exact(ϧ.drew).trans (c.mono Ϟ)|exact ϧ.trans (c.mono Ϟ));go_wp2_with fail;refine h.out _ _ (by obtain⟨i,j,q,s,u,v,z,A,B,C,k,m,o⟩:=b;exact⟨cLz c i,cLz c j,cLz c q,cLz c s,cLz c u,cLz c v,cLz c z,cLz c A,cLz c B,cLz c C,cLz c k,cLz c m,cLz c o⟩) (λb=>?_);clear h K
    try simp only[Act.put,sI,sZ,sS]
    refine tkz 8 11 b ?_;refine tkz 9 12 b ?_;refine tkz 10 13 b ?_;refine tkz 11 14 b ?_;refine tkz 12 15 b ?_;refine rD 13 λK h=>?_;go_simp;refine(H.o _ M).mono ?_;rintro e wb ⟨⟨U,W,rfl,ho⟩,d⟩;have X:=bT M d;go_wp2_with fail;refine h.out _ _ (by obtain⟨i,j,q,s,u,v,z,A,B,C,k,m,o⟩:=b;exact⟨cLz d i,cLz d j,cLz d q,cLz d s,cLz d u,cLz d v,cLz d z,cLz d A,cLz d B,cLz d C,cLz d k,cLz d m,cLz d o⟩) (λb=>?_);clear h K
    try simp only[Act.put,sI,sZ,sS]
    refine rD 14 λK h=>?_;go_simp;refine(L.o _ _ _ X).mono ?_;rintro e wc ⟨rfl,f⟩;have af:=bT X f;go_wp2_with fail;refine h.out _ _ (by obtain⟨i,j,q,s,u,v,z,A,B,C,k,m,o⟩:=b;exact⟨cLz f i,cLz f j,cLz f q,cLz f s,cLz f u,cLz f v,cLz f z,cLz f A,cLz f B,cLz f C,cLz f k,cLz f m,cLz f o⟩) (λb=>?_);clear h K
    try simp only[Act.put,sI,sZ,sS]
    refine tkz 15 18 b ?_;refine tkz 16 19 b ?_;refine sk 17 20 b ?_;refine sk 18 21 b ?_;refine sk 19 22 b ?_;refine sk 20 23 b ?_;refine sk 21 24 b ?_;refine tkz 22 25 b ?_;refine tkz 23 2 b ?_;refine wpAnyH_done ϟ ?_ _;go_wp2;go_ret;exact⟨Aa (by rw[G.o];first|rfl|simp),by first|exact af|exact(ϧ.drew)|exact ϧ⟩
   ·cases q3
    all_goals
     go_enter func73,ntmps73;go_wp2;refine wp_region_held_drew (S:=(λT=>ϒ T w (vI ag) (vI aj) (vI R) (vI O) (vI an) (vI ah) (vS l n6 lc) (vS r n7 rc) (vS lk n8 ai) (vS rk n9 am) (.bool aa) (vS g ak gc) (vS a al ac))) ϟ ⟨Ϡ,Ϡ,Ϡ,Ϡ,Ϡ,Ϡ,Ϡ,Ϡ,Ϡ,Ϡ,Ϡ,Ϡ,Ϡ⟩ (λb=>?_);refine tkz 0 3 b ?_;refine tkz 1 4 b ?_;refine tkz 2 5 b ?_;refine tkz 3 6 b ?_;refine tkz 4 7 b ?_;refine tkz 5 8 b ?_;refine tkz 6 9 b ?_;refine rD 7 λK h=>?_;go_simp;refine(J.o _ (by first|exact ϧ.drew|exact ϧ)).mono ?_;rintro e Z ⟨rfl,c⟩;have M:ϛ w Z:=(by first|exact(ϧ.drew).trans (c.mono Ϟ)|exact ϧ.trans (c.mono Ϟ));go_wp2_with fail;refine h.out _ _ (by obtain⟨i,j,q,s,u,v,z,A,B,C,k,m,o⟩:=b;exact⟨cLz c i,cLz c j,cLz c q,cLz c s,cLz c u,cLz c v,cLz c z,cLz c A,cLz c B,cLz c C,cLz c k,cLz c m,cLz c o⟩) (λb=>?_);clear h K
     try simp only[Act.put,sI,sZ,sS]
     refine tkz 8 11 b ?_;refine tkz 9 12 b ?_;refine tkz 10 13 b ?_;refine tkz 11 14 b ?_;refine tkz 12 15 b ?_;refine rD 13 λK h=>?_;go_simp;refine(H.o _ M).mono ?_;rintro e wb ⟨⟨U,W,rfl,ho⟩,d⟩;have X:=bT M d;go_wp2_with fail;refine h.out _ _ (by obtain⟨i,j,q,s,u,v,z,A,B,C,k,m,o⟩:=b;exact⟨cLz d i,cLz d j,cLz d q,cLz d s,cLz d u,cLz d v,cLz d z,cLz d A,cLz d B,cLz d C,cLz d k,cLz d m,cLz d o⟩) (λb=>?_);clear h K
     try simp only[Act.put,sI,sZ,sS]
     refine rD 14 λK h=>?_;go_simp;refine(L.o _ _ _ X).mono ?_;rintro e wc ⟨rfl,f⟩;have af:=bT X f;go_wp2_with fail;refine h.out _ _ (by obtain⟨i,j,q,s,u,v,z,A,B,C,k,m,o⟩:=b;exact⟨cLz f i,cLz f j,cLz f q,cLz f s,cLz f u,cLz f v,cLz f z,cLz f A,cLz f B,cLz f C,cLz f k,cLz f m,cLz f o⟩) (λb=>?_);clear h K
     try simp only[Act.put,sI,sZ,sS]
     refine tkz 15 18 b ?_;refine tkz 16 19 b ?_;refine tkz 17 20 b ?_;refine tkz 18 21 b ?_;refine tkz 19 22 b ?_;refine rD 20 λK h=>?_;go_simp;refine(H.o _ af).mono ?_;rintro e wd ⟨⟨bd,be,rfl,ba⟩,D⟩;have ao:=bT af D;go_wp2_with fail;refine h.out _ _ (by obtain⟨i,j,q,s,u,v,z,A,B,C,k,m,o⟩:=b;exact⟨cLz D i,cLz D j,cLz D q,cLz D s,cLz D u,cLz D v,cLz D z,cLz D A,cLz D B,cLz D C,cLz D k,cLz D m,cLz D o⟩) (λb=>?_);clear h K
     try simp only[Act.put,sI,sZ,sS]
     refine rD 21 λK h=>?_;go_simp;refine(I.o _ _ _ ao (Lj ba).1).mono ?_;rintro e we ⟨rfl,E⟩;have ay:=bT ao E;go_wp2_with fail;refine h.out _ _ (by obtain⟨i,j,q,s,u,v,z,A,B,C,k,m,o⟩:=b;exact⟨cLz E i,cLz E j,cLz E q,cLz E s,cLz E u,cLz E v,cLz E z,cLz E A,cLz E B,cLz E C,cLz E k,cLz E m,cLz E o⟩) (λb=>?_);clear h K
     try simp only[Act.put,sI,sZ,sS]
     refine tkz 22 25 b ?_;refine tkz 23 2 b ?_;refine wpAnyH_done ϟ ?_ _;go_wp2;go_ret;exact⟨Aa (by rw[G.o];first|rfl|simp),by first|exact ay|exact(ϧ.drew)|exact ϧ⟩
 ·have t0:=Om (x:=R) (y:=O) false (decide_eq_false V);rw[decide_eq_false V]at G;clear V J H L I;go_enter func73,ntmps73;go_wp2;refine wp_region_held_drew (S:=(λT=>ϒ T w (vI ag) (vI aj) (vI R) (vI O) (vI an) (vI ah) (vS l n6 lc) (vS r n7 rc) (vS lk n8 ai) (vS rk n9 am) (.bool aa) (vS g ak gc) (vS a al ac))) ϟ ⟨Ϡ,Ϡ,Ϡ,Ϡ,Ϡ,Ϡ,Ϡ,Ϡ,Ϡ,Ϡ,Ϡ,Ϡ,Ϡ⟩ (λb=>?_);refine tkz 0 3 b ?_;refine tkz 1 4 b ?_;refine tkz 2 5 b ?_;refine tkz 3 6 b ?_;refine tkz 4 7 b ?_;refine tkz 5 8 b ?_;refine sk 6 9 b ?_;refine sk 7 10 b ?_;refine tkz 8 11 b ?_;refine tkz 9 12 b ?_;refine sk 10 13 b ?_;refine sk 11 14 b ?_;refine sk 12 15 b ?_;refine sk 13 16 b ?_;refine sk 14 17 b ?_;refine tkz 15 18 b ?_;refine tkz 16 19 b ?_;refine sk 17 20 b ?_;refine sk 18 21 b ?_;refine sk 19 22 b ?_;refine sk 20 23 b ?_;refine sk 21 24 b ?_;refine tkz 22 25 b ?_;refine tkz 23 2 b ?_;refine wpAnyH_done ϟ ?_ _;go_wp2;go_ret;exact⟨Aa (by rw[G.o];first|rfl|simp),by first|exact M|exact(ϧ.drew)|exact ϧ⟩
def Ul(a b c d e:Bool):Int:=if a=false then 4 else if b=false then 3 else if c=false then 2 else if d=false then 5 else if e=false then 1 else 0
theorem Um(p:Pln):An p=Ul (decide (Dk p)) (decide (CI p)) (decide (Dp p)) (decide (CS p)) (decide (Cs p)):=by
 unfold An Ul;simp only[decide_eq_false_iff_not]
theorem EG(h:Dp p):(0<p.left.length/\p.left.length<=4)/\(0<p.right.length/\p.right.length<=4)/\(0<p.lkeys.length/\p.lkeys.length<=4)/\(0<p.rkeys.length/\p.rkeys.length<=4)/\p.aggs.length<=4/\p.group.length<=8:=by
 obtain⟨⟨c,d,e,f⟩,b⟩:=h;unfold Jz at c d e f b;split at b
 ·omega
 ·omega
theorem CK(p:Pln)(x:PA)(w:Ϙ)(o:wfPlan p)(m:planAt w p x):
 η 32 #[Aq p x] w (θ w (vI (An p))):=by
 have i:=hIz (λ(b:Ϙ) (d:ϛ w b)=>Mx p x b (Ag m d) o);have j:=hIz (λ(b:Ϙ) (d:ϛ w b)=>Et p x b);have k:=hIz (λ(b:Ϙ) (d:ϛ w b)=>Er p x b o);have f:Ϛ (∀b,ϛ w b->yes (decide (Dp p)) (CT 72 #[Aq p x] b (θ b (.bool (decide (CS p)))))):=λb d J=>by
  have ad:=EG (of_decide_eq_true J);exact Mz p x b (Ag m d) Ϝ Ϝ Ϝ Ϝ
 have h:Ϛ (∀b,ϛ w b->yes (decide (Dp p)) (CT 73 #[Aq p x] b (θ b (.bool (decide (Cs p)))))):=λb d J=>by
  have ad:=EG (of_decide_eq_true J);exact Dh p x b o (Ag m d) Ϝ Ϝ Ϝ Ϝ
 have c:Ϛ (An p=Ul (decide (Dk p)) (decide (CI p)) (decide (Dp p)) (decide (CS p)) (decide (Cs p))):=Um p;obtain⟨q1,O⟩:=nM (decide (Dk p));obtain⟨q2,R⟩:=nM (decide (CI p));obtain⟨q3,T⟩:=nM (decide (Dp p));obtain⟨q4,U⟩:=nM (decide (CS p));obtain⟨q5,V⟩:=nM (decide (Cs p));rw[O]at i c;rw[R]at j c;rw[T]at k f h c;rw[U]at f c;rw[V]at h c;clear O R T U V o m;obtain⟨ae,ah,ag,ab,ai,af,left,right,W,X,Y,M,L⟩:=p;obtain⟨l,lc,r,rc,lk,ax,rk,a0,g,gc,a,ac⟩:=x;unfold Aq at i j k f h⊢;dsimp only at i j k f h⊢;obtain⟨n6,u⟩:∃n,left.length=n:=⟨_,rfl⟩;obtain⟨n7,v⟩:∃n,right.length=n:=⟨_,rfl⟩;obtain⟨n8,z⟩:∃n,W.length=n:=⟨_,rfl⟩;obtain⟨n9,A⟩:∃n,X.length=n:=⟨_,rfl⟩;obtain⟨ay,q⟩:∃n,M.length=n:=⟨_,rfl⟩;obtain⟨az,s⟩:∃n,L.length=n:=⟨_,rfl⟩;rw[u,v,z,A,q,s]at i j k f h;rw[u,v,z,A,q,s];clear u v z A q s;obtain⟨pe,N⟩:=nM (An ⟨ae,ah,ag,ab,ai,af,left,right,W,X,Y,M,L⟩);rw[N]at c⊢;clear N;go_enter func32,ntmps32;go_wp2_with fail;refine(i.o _ ϧ).mono ?_;rintro e b ⟨rfl,B⟩;have F:=ϧ.trans (B.mono Ϟ);obtain⟨aj,an⟩:=Dx B;have ar:w.heap.size<b.heap.size:=(by have:=B.size;simp at this;omega)
 cases q1
 ·go_wp2;go_ret;exact⟨Am c.o.symm,F⟩
 go_wp2_with fail;refine(j.o _ F).mono ?_;rintro e w2 ⟨rfl,C⟩;have G:=bT F C;obtain⟨ak,ao⟩:=Dx C;have au:w.heap.size<w2.heap.size:=(by have:=C.size;omega)
 cases q2
 ·go_wp2;go_ret;exact⟨Am c.o.symm,G⟩
 go_wp2_with fail;refine(k.o _ G).mono ?_;rintro e w3 ⟨rfl,D⟩;have H:=bT G D;obtain⟨al,ap⟩:=Dx D;have av:w.heap.size<w3.heap.size:=(by have:=D.size;omega)
 cases q3
 ·go_wp2;go_ret;exact⟨Am c.o.symm,H⟩
 go_wp2_with fail;refine(f.o _ H rfl).mono ?_;rintro e w4 ⟨rfl,E⟩;have I:=bT H E;obtain⟨am,aq⟩:=Dx E;have aw:w.heap.size<w4.heap.size:=(by have:=E.size;omega)
 cases q4
 ·go_wp2;go_ret;exact⟨Am c.o.symm,I⟩
 go_wp2_with fail;refine(h.o _ I rfl).mono ?_;rintro e w5 ⟨rfl,Z⟩;have aa:=bT I Z
 cases q5
 all_goals
  go_wp2;go_ret;exact⟨Am c.o.symm,aa⟩
def bare(p:Pln):Pln:={p with aggs:=[]}
theorem P8:fit t↔tm.Bm t=true:=by rw[tm.Lf];exact Iff.rfl
theorem L4(h:fit t):tm.Bm t=true:=P8.1 h
def JK(m s:Int):Int:=if m=1099511627776 then 1099511627776 else m - s
theorem D8{a b c d:Int}(e:a=c)(f:b=d):Ending.returned (.tuple #[vI a,vI b])= .returned (.tuple #[vI c,vI d]):=by rw[e,f]
theorem YG(m s:Int)(w:Ϙ)(d:fit m)(f:fit s):
 η 359 #[vI m,vI s] w (θ w (.tuple #[vI (JK m s),ω])):=by
 have h:tm.Zr m s=true:=by unfold tm.Zr;rw[L4 d,L4 f];rfl
 obtain⟨i,j⟩:=d;obtain⟨k,o⟩:=f;by_cases e:m=1099511627776
 ·subst e;have b:Ϛ (JK 1099511627776 s=1099511627776):=rfl;go_enter func359,ntmps359;go_wp2_with (go_at_call 366;refine(tm.Tt _ 1099511627776 s _ Ϡ Ϡ).mono ?_;rintro e g ⟨rfl,c⟩;subst c)
  go_ret2
  refine⟨D8 b.o.symm rfl,?_⟩
  repeat (first|exact bR|apply Below.drew|(refine Below.alloc ?_ ϣ _))
 ·have q:(m==1099511627776)=false:=by simpa using e
  have b:Ϛ (JK m s=m - s):=if_neg e;clear e;go_enter func359,ntmps359;go_wp2_with (go_at_call 366;refine(tm.Tt _ m s _ Ϡ Ϡ).mono ?_;rintro e g ⟨rfl,c⟩;subst c)
  go_ret2
  refine⟨D8 b.o.symm rfl,?_⟩
  repeat (first|exact bR|apply Below.drew|(refine Below.alloc ?_ ϣ _))
def Un(mark size:Int):Int:=if mark=1099511627776 then 1099511627776 else tm.start (mark+1) size - 1
def Fz(p:Pln)(side mark:Int):Int:=
 if p.kind=1 then JK mark (if side=2 then -p.low else p.high)else if p.kind=2 then Un mark p.size else if side=2 then -1099511627777 else mark
def Bf(side:Int):Bool:=decide (side=1\/side=2)
def Le(p:Pln)(side mark:Int):Int:=if An p=0 then(if Bf side=true then(if tm.Bm mark=true then 0 else 3)else 4)else An p
def Nt(p:Pln)(side mark:Int):Int:=if Le p side mark=0 then Fz p side mark else 0
theorem C8(side:Int)(w:Ϙ):η 210 #[vI side] w λe d=>e= .returned (.bool (Bf side))/\d=w:=by
 by_cases b:side=1
 ·subst b;go_enter func210,ntmps210;go_wp2;go_ret;exact⟨rfl,rfl⟩
 ·have f:(side==1)=false:=by simpa using b
  have c:Ϛ (Bf side=(side==2)):=by show Bf side=_;unfold Bf;exact Bool.eq_iff_iff.2 (by simp[b])
  clear b;go_enter func210,ntmps210;go_wp2;go_ret;exact⟨Aa c.o.symm,rfl⟩
theorem Uo(p:Pln)(x:PA)(side:Int)(w:Ϙ)(c:fit p.low):
 η 360 #[Aq p x,vI side] w (θ w (vI (if side=2 then -p.low else p.high))):=by
 obtain⟨q,C,B,m,H,u,left,right,A,G,i,h,e⟩:=p;obtain⟨l,s,r,D,v,z,E,F,g,f,a,d⟩:=x;unfold Aq;dsimp only at c⊢;obtain⟨j,k⟩:=c;by_cases b:side=2
 ·subst b;rw[if_pos rfl];go_enter func360,ntmps360;go_wp2;go_ret;exact⟨Am (by first|rfl|omega),ϧ⟩
 ·have o:(side==2)=false:=by simpa using b
  rw[if_neg b];clear b;go_enter func360,ntmps360;go_wp2;go_ret;exact⟨rfl,ϧ⟩
theorem P9(b size:Int)(w:Ϙ)(k:fit b)(h:1<=size)(i:size<=1099511627776):
 η 361 #[vI b,vI size] w (θ w (.tuple #[vI (Un b size),ω])):=by
 obtain⟨u,v⟩:=k;by_cases e:b=1099511627776
 ·subst e;have c:Ϛ (Un 1099511627776 size=1099511627776):=rfl;go_enter func361,ntmps361;go_wp2
  go_ret2
  exact⟨D8 c.o.symm rfl,bR⟩
 ·have z:(b==1099511627776)=false:=by simpa using e
  have j:tm.Bm (b+1)=true:=L4 ⟨Ϝ,Ϝ⟩;have c:Ϛ (Un b size=tm.start (b+1) size - 1):=if_neg e;have o:=tm.X3 (b+1) size Ϝ;obtain⟨q,s⟩:=o;clear e;have K:Ϛ (∀d,CT 367 #[vI (b+1),vI size] d λe g=>e= .returned (.tuple #[vI (tm.start (b+1) size),vI (tm.start (b+1) size+size),ω])/\g=d):=λd=>tm.Mw (b+1) size d j h i;obtain⟨A,f⟩:=nM (tm.start (b+1) size);rw[f]at K c q s;clear f;go_enter func361,ntmps361;go_wp2_with (go_at_call 367;refine(K.o _).mono ?_;rintro e g ⟨rfl,m⟩;subst m)
  go_ret2
  exact⟨D8 c.o.symm rfl,bR⟩
theorem AaM(h:An p=0)(b:p.kind=1):fit p.low/\fit p.high:=by
 have:=(BI h).2.1.1;rw[if_pos b]at this;exact this
theorem ok_2(h:An p=0)(b:p.kind=2):1<=p.size/\p.size<=1099511627776:=by
 have:=(BI h).2.1.2.1;rw[if_pos b]at this;exact this
theorem YH(h:fit t):fit (-t):=by unfold fit at *;omega
def Aan(pe:Int)(sb fb:Bool):Int:=if pe=0 then(if sb=true then(if fb=true then 0 else 3)else 4)else pe
theorem IK(p:Pln)(x:PA)(side c:Int)(w:Ϙ)(b:wfPlan p)(hp:planAt w p x):
 η 349 #[Aq p x,vI side,vI c] w (θ w (.tuple #[vI (Nt p side c),vI (Le p side c)])):=by
 have E:Ϛ (∀d,ϛ w d->CT 32 #[Aq p x] d (θ d (vI (An p)))):=λd hb=>CK p x d b (Ag hp hb);have i:Ϛ (Le p side c=Aan (An p) (Bf side) (tm.Bm c)):=rfl;have f:Ϛ (Nt p side c=if Aan (An p) (Bf side) (tm.Bm c)=0 then Fz p side c else 0):=rfl;have k:Ϛ (∀d,An p=0->p.kind=1->CT 360 #[Aq p x,vI side] d (θ d (vI (if side=2 then -p.low else p.high)))):=λd h F=>Uo p x side d (AaM h F).1;have m:Ϛ (An p=0->p.kind=1->fit (if side=2 then -p.low else p.high)):=λh F=>by
  have:=AaM h F;split
  ·exact YH this.1
  ·exact this.2
 have A:Ϛ (An p=0->p.kind=2->1<=p.size/\p.size<=1099511627776):=λh F=>ok_2 h F;have o:Ϛ (p.kind=1->Fz p side c=JK c (if side=2 then -p.low else p.high)):=λh=>if_pos h;have v:Ϛ (p.kind=2->Fz p side c=Un c p.size):=λh=>by show Fz p side c=_;unfold Fz;rw[if_neg Ϝ,if_pos h]
 have z:Ϛ (¬p.kind=1->¬p.kind=2->Fz p side c=if side=2 then -1099511627777 else c):=λh1 h2=>by show Fz p side c=_;unfold Fz;rw[if_neg h1,if_neg h2]
 obtain⟨L,af⟩:=nM (An p);rw[af]at E i f k m A;obtain⟨Z,ag⟩:=nM (if side=2 then -p.low else p.high);rw[ag]at k m o;obtain⟨M,ae⟩:=nM (Nt p side c);obtain⟨ge,ad⟩:=nM (Le p side c);obtain⟨H,ab⟩:=nM (Fz p side c);rw[ae]at f⊢;rw[ad]at i⊢;rw[ab]at f o v z;clear af ag ae ad ab b hp;obtain⟨J,aw,av,ap,ah,aq,left,right,au,a0,am,al,ak⟩:=p;obtain⟨l,lc,r,rc,lk,ar,rk,az,g,gc,a,ac⟩:=x;unfold Aq at E k⊢;dsimp only at E k m A o v z⊢;obtain⟨n6,R⟩:∃n,left.length=n:=⟨_,rfl⟩;obtain⟨n7,T⟩:∃n,right.length=n:=⟨_,rfl⟩;obtain⟨n8,U⟩:∃n,au.length=n:=⟨_,rfl⟩;obtain⟨n9,V⟩:∃n,a0.length=n:=⟨_,rfl⟩;obtain⟨ax,N⟩:∃n,al.length=n:=⟨_,rfl⟩;obtain⟨ay,O⟩:∃n,ak.length=n:=⟨_,rfl⟩;rw[R,T,U,V,N,O]at E k;rw[R,T,U,V,N,O];clear R T U V N O;go_enter func349,ntmps349;go_wp2_with fail;refine(E.o _ ϧ).mono ?_;rintro e d ⟨rfl,W⟩;have s:=ϧ.trans (W.mono Ϟ);obtain⟨a2,a3⟩:=Dx W;have a4:w.heap.size<d.heap.size:=(by have:=W.size;simp at this;omega);by_cases C:L=0
 ·subst C
  cases hsb:Bf side
  ·rw[hsb]at i f;go_wp2_with (go_at_call 210;refine(C8 _ _).mono ?_;rintro e j ⟨rfl,b⟩;subst b)
   go_ret2
   exact⟨D8 (by rw[f.o];rfl) (by rw[i.o];rfl),s⟩
  rw[hsb]at i f
  cases hfb:tm.Bm c
  ·rw[hfb]at i f;go_wp2_with (first
    |(go_at_call 210;refine(C8 _ _).mono ?_;rintro e j ⟨rfl,b⟩;subst b)
    |(go_at_call 197;refine(tm.Cz _ _).mono ?_;rintro e j ⟨rfl,b⟩;subst b))
   go_ret2
   exact⟨D8 (by rw[f.o];rfl) (by rw[i.o];rfl),s⟩
  rw[hfb]at i f;have aa:Ϛ (fit c):=P8.2 hfb;have B:Ϛ (M=H):=f.o;have u:Ϛ (ge=0):=i.o;clear f i;by_cases G:J=1
  ·subst G;have HG:=o.o rfl;have q:Ϛ (H=JK c Z):=HG;have KR:Ϛ (∀d,CT 360 #[.agg #[vI 1,vI aw,vI av,vI ap,vI ah,vI aq,vS l n6 lc,vS r n7 rc,vS lk n8 ar,vS rk n9 az,.bool am,vS g ax gc,vS a ay ac],vI side] d (θ d (vI Z))):=λd=>k.o d rfl rfl;have ai:Ϛ (fit Z):=m.o rfl rfl;clear HG k m o v z A;go_wp2_with (first
    |(go_at_call 210;refine(C8 _ _).mono ?_;rintro e j ⟨rfl,b⟩;subst b)
    |(go_at_call 197;refine(tm.Cz _ _).mono ?_;rintro e j ⟨rfl,b⟩;subst b)
    |(go_at_call 360;refine(KR.o _).mono ?_;rintro e w2 ⟨rfl,an⟩;have ao:=bT s an)
    |(go_at_call 359;refine(YG _ _ _ aa.o ai.o).mono ?_;rintro e w3 ⟨rfl,X⟩;have Y:=bT ao X))
   go_ret2
   exact⟨D8 (by rw[B.o,q.o]) u.o.symm,Y⟩
  ·have a5:(J==1)=false:=by simpa using G
   by_cases I:J=2
   ·subst I;have q:Ϛ (H=Un c ah):=v.o rfl;have aj:=A.o rfl rfl;obtain⟨s1,D⟩:=aj;clear k m o v z A G;go_wp2_with (first
     |(go_at_call 210;refine(C8 _ _).mono ?_;rintro e j ⟨rfl,b⟩;subst b)
     |(go_at_call 197;refine(tm.Cz _ _).mono ?_;rintro e j ⟨rfl,b⟩;subst b)
     |(go_at_call 361;refine(P9 _ _ _ aa.o s1 D).mono ?_;rintro e w3 ⟨rfl,X⟩;have Y:=bT s X))
    go_ret2
    exact⟨D8 (by rw[B.o,q.o]) u.o.symm,Y⟩
   ·have a6:(J==2)=false:=by simpa using I
    have q:Ϛ (H=if side=2 then -1099511627777 else c):=z.o G I;clear k m o v z A G I;by_cases D:side=2
    ·subst D;go_wp2_with (first
      |(go_at_call 210;refine(C8 _ _).mono ?_;rintro e j ⟨rfl,b⟩;subst b)
      |(go_at_call 197;refine(tm.Cz _ _).mono ?_;rintro e j ⟨rfl,b⟩;subst b))
     go_ret2
     exact⟨D8 (by rw[B.o,q.o];rfl) u.o.symm,s⟩
    ·have a7:(side==2)=false:=by simpa using D
     rw[if_neg D]at q;clear D;go_wp2_with (first
      |(go_at_call 210;refine(C8 _ _).mono ?_;rintro e j ⟨rfl,b⟩;subst b)
      |(go_at_call 197;refine(tm.Cz _ _).mono ?_;rintro e j ⟨rfl,b⟩;subst b))
     go_ret2
     exact⟨D8 (by rw[B.o,q.o]) u.o.symm,s⟩
 ·have a1:(L !=0)=true:=by simpa using C
  have u:Ϛ (ge=L):=by show ge=L;rw[i.o];exact if_neg C
  have B:Ϛ (M=0):=by
   show M=0;rw[f.o,if_neg];unfold Aan;rw[if_neg C];exact C
  clear C i f;go_wp2
  go_ret2
  exact⟨D8 B.o.symm u.o.symm,s⟩
def AF(p:Pln)(side:Int):List Int:=if side=2 then p.right else p.left
def keysOf(p:Pln)(side:Int):List Int:=if side=2 then p.rkeys else p.lkeys
def cA(x:PA)(side:Int):Option Addr:=if side=2 then x.r else x.l
def cC(x:PA)(side:Int):Nat:=if side=2 then x.rc else x.lc
def kA(x:PA)(side:Int):Option Addr:=if side=2 then x.rk else x.lk
def kC(x:PA)(side:Int):Nat:=if side=2 then x.rkc else x.lkc
theorem Aao(h:planAt w p x)(side:Int):A8 w (cA x side) (AF p side):=by
 unfold cA AF;split
 ·exact h.r
 ·exact h.l
theorem FX(h:planAt w p x)(side:Int):A8 w (kA x side) (keysOf p side):=by
 unfold kA keysOf;split
 ·exact h.rk
 ·exact h.lk
theorem SI(h:wfPlan p)(side:Int):(AF p side).length<=χ:=by
 unfold AF;split
 ·exact h.r
 ·exact h.l
def IL(c:Cel)(t:Int):Bool:=decide (c.k=0\/c.k=t)
def EH(r:List Cel)(c:List Int):Bool:=decide (r.length=c.length)&&allB r.length (λi=>IL (r.getD i ϰ) (c.getD i 0))
def AaN(p:Pln)(side:Int)(r:List Cel):Int:=
 if Bf side=false then 4 else if r.length≠(AF p side).length then 2 else if ET r≠0 then ET r else if EH r (AF p side)=false then 5 else 0
def Bg(p:Pln)(side:Int)(r:List Cel):Int:=if An p=0 then AaN p side r else An p
theorem Kr(p:Pln)(x:PA)(side:Int)(w:Ϙ):
 η 280 #[Aq p x,vI side] w (θ w (vS (cA x side) (AF p side).length (cC x side))):=by
 unfold cA cC AF;obtain⟨k,z,v,i,E,o,left,right,u,D,h,f,d⟩:=p;obtain⟨l,m,r,A,q,s,B,C,g,e,a,c⟩:=x;unfold Aq;dsimp only;by_cases b:side=2
 ·subst b;simp only[if_true];go_enter func280,ntmps280;go_wp2;go_ret;exact⟨rfl,ϧ⟩
 ·have j:(side==2)=false:=by simpa using b
  simp only[if_neg b];clear b;go_enter func280,ntmps280;go_wp2;go_ret;exact⟨rfl,ϧ⟩
theorem Up(p:Pln)(x:PA)(side:Int)(w:Ϙ):
 η 255 #[Aq p x,vI side] w (θ w (vS (kA x side) (keysOf p side).length (kC x side))):=by
 unfold kA kC keysOf;obtain⟨k,z,v,i,E,o,left,right,u,D,h,f,d⟩:=p;obtain⟨l,m,r,A,q,s,B,C,g,e,a,c⟩:=x;unfold Aq;dsimp only;by_cases b:side=2
 ·subst b;simp only[if_true];go_enter func255,ntmps255;go_wp2;go_ret;exact⟨rfl,ϧ⟩
 ·have j:(side==2)=false:=by simpa using b
  simp only[if_neg b];clear b;go_enter func255,ntmps255;go_wp2;go_ret;exact⟨rfl,ϧ⟩
theorem YI(i:Nat)(B:Nat)(ad:ϙ)(A:Nat)(c:List Int)(k n:Int)(s:ByteArray)(w:Ϙ)(j:i<c.length)(D:c.length<=χ)(g:A8 w ad c)(f:Δ w B 0 (vS ad c.length A)):
 η 242 #[vI i,.agg #[vI k,vI n,.string s],μ B] w (θ w (.bool (IL ⟨k,n,s⟩ (c.getD i 0)))):=by
 have e:=bLt _ _ f;have E:B<w.heap.size:=e;obtain⟨z,J,C,u⟩:=g i j;subst C;have h:=bLt _ _ u;have F:z<w.heap.size:=h;have b:Ϛ (IL ⟨k,n,s⟩ (c.getD i 0)=decide (k=0\/k=c.getD i 0)):=rfl;obtain⟨m,o⟩:=nM c.length;obtain⟨t,q⟩:=nM (c.getD i 0);rw[o]at j D f;rw[q]at u b⊢;have H:(0:Int)<=(i:Int):=Ϝ;have I:(i:Int)<(m:Int):=Ϝ;clear o q g e h;by_cases d:k=0
 ·subst d;go_enter func242,ntmps242;go_wp2
  go_quiet (fail)
  go_wp2;go_ret;exact⟨Aa (by rw[b.o];simp),P7 ϧ _⟩
 ·have G:(k==0)=false:=by simpa using d
  have v:Ϛ (IL ⟨k,n,s⟩ t=(k==t)):=by show IL ⟨k,n,s⟩ t=_;rw[b.o];exact Bool.eq_iff_iff.2 (by simp[d])
  clear d b;go_enter func242,ntmps242;go_wp2
  go_quiet (fail)
  go_wp2;go_ret;exact⟨Aa v.o.symm,P7 ϧ _⟩
theorem Nu(a ad:ϙ)(f g:Nat)(r:List Cel)(c:List Int)(w:Ϙ)(z:r.length<=χ)(v:c.length<=χ)(ha:vl.rowAt w a r)(u:A8 w ad c):
 η 177 #[vS a r.length f,vS ad c.length g] w (θ w (.bool (EH r c))):=by
 have K:Ϛ (∀B b,ϛ w b->r.length=c.length->Δ b B 0 (vS ad c.length g)->
  η 241 #[vS a r.length f,.func (.func 242) #[] #[μ B]] b (θ b (.bool (allB r.length (λi=>IL (r.getD i ϰ) (c.getD i 0)))))):=by
  intro B b q G e0;exact OH 242 (enters_of func242 ϟ rfl) #[μ B] (λi=>IL (r.getD i ϰ) (c.getD i 0)) a f r b z (Ac ha q)
   (λi E F s=>YI i B ad g c _ _ _ E Ϝ v (Av (Av u q) s) (cLz s e0))
 have d:Ϛ (EH r c=(decide (r.length=c.length)&&allB r.length (λi=>IL (r.getD i ϰ) (c.getD i 0)))):=rfl;obtain⟨H,A⟩:=nM (allB r.length (λi=>IL (r.getD i ϰ) (c.getD i 0)));rw[A]at K d;obtain⟨m,o⟩:=nM r.length;obtain⟨k,j⟩:=nM c.length;rw[o,j]at K d;rw[o,j];clear o j A ha u z v;by_cases h:m=k
 ·subst h;rw[show decide (m=m)=true by simp]at d;have D:((m:Int)==m)=true:=Ϟ;go_enter func177,ntmps177;go_wp2_with (go_at_call 241;refine(K.o _ _ ϧ Ϥ Ϡ).mono ?_;rintro e b ⟨rfl,C⟩);go_ret;exact⟨Aa (by rw[d.o];simp),ϧ.trans (C.mono Ϟ)⟩
 ·have D:((m:Int)==k)=false:=ϡ;rw[decide_eq_false h]at d;clear h;go_enter func177,ntmps177;go_wp2;go_ret;exact⟨Aa (by rw[d.o];rfl),ϧ⟩
def SL(sb:Bool)(n m:Nat)(er:Int)(tb:Bool):Int:=if sb=false then 4 else if n≠m then 2 else if er≠0 then er else if tb=false then 5 else 0
theorem IM(p:Pln)(x:PA)(side:Int)(D:ϙ)(cr:Nat)(r:List Cel)(w:Ϙ)(s:wfPlan p)(hp:planAt w p x)(hr:vl.rowAt w D r)(a7:Cb r)(ap:r.length<=χ):
 η 251 #[Aq p x,vI side,vS D r.length cr] w (θ w (vI (Bg p side r))):=by
 have o:=hIz (λ(f:Ϙ) (F:ϛ w f)=>CK p x f s (Ag hp F));have q:=hIz (λ(f:Ϙ)=>Kr p x side f);have M:=hIz (λ(f:Ϙ) (F:ϛ w f)=>Nu D (cA x side) cr (cC x side) r (AF p side) f ap (SI s side) (Ac hr F) (Av (Aao hp side) F));have b:Ϛ (Bg p side r=if An p=0 then SL (Bf side) r.length (AF p side).length (ET r) (EH r (AF p side))else An p):=rfl;have a0:=SI s side;have HR:Ϛ (vl.rowAt w D r):=hr;obtain⟨I,aq⟩:=nM (An p);obtain⟨d,af⟩:=nM (Bg p side r);obtain⟨ca,Z⟩:=nM (cA x side);obtain⟨cc,aa⟩:=nM (cC x side);obtain⟨ka,a2⟩:=nM (kA x side);obtain⟨kc,a3⟩:=nM (kC x side);obtain⟨cn,A⟩:=nM ((AF p side).length);obtain⟨kn,a4⟩:=nM ((keysOf p side).length);obtain⟨tb,ah⟩:=nM (EH r (AF p side));rw[aq]at o b;rw[Z,aa,A]at q;rw[Z,aa,A,ah]at M;rw[af,A,ah]at b;rw[A]at a0;rw[af];clear aq af Z aa a2 a3 A a4 ah hp s hr;obtain⟨n,hn⟩:=nM r.length;have C:Ϛ (r.length=n):=hn;rw[hn]at M b ap⊢;clear hn;obtain⟨bd,bi,bh,bc,bn,be,left,right,a8,a9,ba,aw,av⟩:=p;obtain⟨l,lc,rr,rc,lk,bg,rk,bm,g,gc,a,ac⟩:=x;unfold Aq at o q⊢;dsimp only at o q⊢;obtain⟨n6,T⟩:∃n,left.length=n:=⟨_,rfl⟩;obtain⟨n7,U⟩:∃n,right.length=n:=⟨_,rfl⟩;obtain⟨n8,V⟩:∃n,a8.length=n:=⟨_,rfl⟩;obtain⟨n9,W⟩:∃n,a9.length=n:=⟨_,rfl⟩;obtain⟨bj,O⟩:∃n,aw.length=n:=⟨_,rfl⟩;obtain⟨bk,R⟩:∃n,av.length=n:=⟨_,rfl⟩;rw[T,U,V,W,O,R]at o q;rw[T,U,V,W,O,R];clear T U V W O R;go_enter func251,ntmps251;go_wp2_with fail;refine(o.o _ ϧ).mono ?_;rintro e f ⟨rfl,X⟩;have Y:=ϧ.trans (X.mono Ϟ);obtain⟨az,a1⟩:=Dx X;by_cases E:I=0
 ·subst E;rw[if_pos rfl]at b
  cases hsb:Bf side
  ·rw[hsb]at b;go_wp2_with (go_at_call 210;refine(C8 _ _).mono ?_;rintro e w' ⟨rfl,s⟩;subst s);go_ret;exact⟨Am (by rw[b.o];rfl),Y⟩
  rw[hsb]at b;go_wp2_with fail;refine(C8 _ _).mono ?_;rintro e w' ⟨rfl,a6⟩;subst a6;rw[hsb];go_wp2_with fail;refine(q.o _).mono ?_;rintro e w2 ⟨rfl,am⟩;have an:=bT Y am;clear az a1 o q X am;by_cases ae:n=cn
  ·subst ae;have a5:((n:Int) !=n)=false:=Ϟ;go_wp2
   go_loopw [11,30] (λ_ i wr=> ∃j:Nat,j<=n/\i=vI j/\ϛ w wr/\∀i,i<j->(r.getD i ϰ).ok) (λ_ i _=>n - (intOf i).toNat)
   case atStart=>exact⟨0,Nat.zero_le _,rfl,an,λi hi=>absurd hi (Nat.not_lt_zero i)⟩
   case round=>
    obtain⟨j,hj,rfl,c,al⟩:=hrel;have L:Ϛ (∀i,i<j->(r.getD i ϰ).ok):=al;have ag:=c.size;clear al;by_cases ad:j<n
    ·obtain⟨b1,o1,e1,x1,x2,x3⟩:=HR.o j (by rw[C.o];exact ad);subst e1;have q1:=cLz c x1;have q2:=cLz c x2;have q3:=cLz c x3;have ai:=ZL a7 j (by rw[C.o];exact ad);have B:Ϛ (¬(r.getD j ϰ).ok->ET r=chk (r.getD j ϰ).k (r.getD j ϰ).n (r.getD j ϰ).s):=Tc r j (by rw[C.o];exact ad) L.o;have u:Ϛ ((r.getD j ϰ).ok↔chk (r.getD j ϰ).k (r.getD j ϰ).n (r.getD j ϰ).s=0):=Iff.rfl;have aj:Ϛ ((r.getD j ϰ).ok->∀i,i<j+1->(r.getD i ϰ).ok):=λh i hi=>by
      rcases Nat.lt_succ_iff_lt_or_eq.1 hi with N|N
      ·exact L.o i N
      ·rw[N];exact h
     obtain⟨OK,ak⟩:=nM ((r.getD j ϰ).ok);rw[ak]at B u aj;obtain⟨⟨G,H,J⟩,ao⟩:∃z,r.getD j ϰ=z:=⟨_,rfl⟩;rw[ao]at q1 q2 q3 ai B u;dsimp only at q1 q2 q3 ai B u;obtain⟨⟨bo,bp⟩,au⟩:=ai;have i1:(0:Int)<=(j:Int):=Ϝ;have i2:(j:Int)<(n:Int):=Ϝ;clear ak ao x1 x2 x3;by_cases m:chk G H J=0
     ·have ay:(chk G H J !=0)=false:=by simpa using m
      have HO:Ϛ OK:=u.o.2 m;clear m;go_wp2_with (go_at_call 183;refine(vl.Bb _ _ _ _ au).mono ?_;rintro e wc ⟨rfl,v⟩;have ab:=(c.alloc ag _).trans (v.mono ϡ));go_roundw
      case rel=>exact⟨j+1,Ϝ,by go_num,ab,aj.o HO.o⟩
      case measure=>simp[intOf];omega
     ·have ay:(chk G H J !=0)=true:=by simpa using m
      have k:Ϛ (d=chk G H J):=by
       show d=_;rw[b.o,B.o (λh=>m (u.o.1 h))];unfold SL;rw[if_neg ϝ,if_neg Ϟ,if_pos m]
      clear m;go_wp2_with (go_at_call 183;refine(vl.Bb _ _ _ _ au).mono ?_;rintro e wc ⟨rfl,v⟩;have ab:=(c.alloc ag _).trans (v.mono ϡ));go_ret;exact⟨Am k.o.symm,ab⟩
    ·have k:Ϛ (d=if tb=false then 5 else 0):=by
      show d=_;rw[b.o,PZ r j (by rw[C.o];omega) L.o];unfold SL;rw[if_neg ϝ,if_neg Ϟ,if_neg Ϟ]
     go_wp2_with fail;refine(M.o _ c).mono ?_;rintro e w3 ⟨rfl,ax⟩;have v:=c.trans (ax.mono ag)
     cases tb
     all_goals
      go_wp2;go_ret;exact⟨Am k.o.symm,v⟩
  ·have a5:((n:Int) !=cn)=true:=ϡ;have k:Ϛ (d=2):=by
    show d=2;rw[b.o];unfold SL;rw[if_neg ϝ,if_pos ae]
   clear ae;go_wp2;go_ret;exact⟨Am k.o.symm,an⟩
 ·have bb:(I !=0)=true:=by simpa using E
  have k:Ϛ (d=I):=by show d=I;rw[b.o,if_neg E]
  clear E;go_wp2;go_ret;exact⟨Am k.o.symm,Y⟩
def CY(r:List Cel)(l:List Int):List Cel:=l.map λi=>r.getD i.toNat ϰ
theorem LI(l:List Int)(k:Nat)(h:k<l.length):l.take (k+1)=l.take k++[l.getD k 0]:=by
 rw[take_succ_eq_append_getElem h,GW h]
theorem Wk(a ad:ϙ)(ca cp:Nat)(r:List Cel)(l:List Int)(w:Ϙ)(al:r.length<=χ)(ak:l.length<=1000)(ha:vl.rowAt w a r)(U:A8 w ad l)(s:∀x∈l,0<=x/\x<(r.length:Int)):
 η 217 #[vS a r.length ca,vS ad l.length cp] w λe w'=>(∃N O,e= .returned (vS N (CY r l).length O)/\AA w' w (vS N (CY r l).length O) (CY r l))/\ϛ w w':=by
 have HA:Ϛ (vl.rowAt w a r):=ha;have HL:Ϛ (A8 w ad l):=U;have A:Ϛ (∀i,i<l.length->0<=l.getD i 0/\l.getD i 0<(r.length:Int)):=λi j=>s _ (Dj j);obtain⟨m,C⟩:=nM r.length;obtain⟨n,D⟩:=nM l.length;have HM:Ϛ (r.length=m):=C;have h:Ϛ (l.length=n):=D;rw[C]at al A⊢;rw[D]at ak A⊢;clear C D ha U s;obtain⟨i0,j,aa,ab,ac⟩:=info_parts Tryz.infoV;obtain⟨w0,am,W,T⟩:=run_make_own (P:=Tryz.prog) w w.heap.size 80 119 i0 (.agg #[ω,ω,ϊ]) 3 underlying80 j aa ab .i64 .i64 n (by rw[ac];omega) Ϧ nR;have ah:ϛ w w0:=bR.grown T nR (λb hb=>by cases hb);have ae:Ϛ (AA w0 w (vS (τ w) 0 n) []):=W;clear j aa ab ac W T;have J:Ϛ (∀k,k<n->CY r (l.take (k+1))=CY r (l.take k)++[r.getD (l.getD k 0).toNat ϰ]):=λk q=>by
  show CY r (l.take (k+1))=_;rw[LI l k (by rw[h.o];exact q)];simp[CY]
 have H:Ϛ (∀k,n<=k->CY r (l.take k)=CY r l):=λk q=>by
  show CY r (l.take k)=_;rw[take_of_length_le (by rw[h.o];exact q)]
 have M:Ϛ (∀k,(CY r (l.take k)).length<=n):=λk=>by
  show(CY r (l.take k)).length<=n;have:(l.take k).length<=l.length:=by rw[length_take];omega
  unfold CY;rw[lMp,<-h.o];exact this
 obtain⟨pn,F⟩:=nM ((CY r l).length);have af:Ϛ ((CY r l).length=pn):=F;rw[F];clear F;go_enter func217,ntmps217;go_wp2
 go_loopw [5,7,13] (λv _ i wr=> ∃k:Nat,k<=n/\i=vI k/\AA wr w v (CY r (l.take k))/\ϛ w wr) (λ_ _ i _=>n - (intOf i).toNat)
 case atStart=>exact⟨0,Nat.zero_le _,rfl,ae.o,ah⟩
 case round=>
  obtain⟨k,q,rfl,V,c⟩:=hrel;have d:Ϛ (AA wr w u5 (CY r (l.take k))):=V;have Z:=c.size;clear V am;by_cases B:k<n
  ·obtain⟨b,o,e,G⟩:=HL.o k (by rw[h.o];exact B);subst e;have E:=A.o k B;have f:=J.o k B;obtain⟨z,hz⟩:=nM (l.getD k 0);rw[hz]at G E f;obtain⟨u,rfl⟩:=Int.eq_ofNat_of_zero_le E.1;rw[Int.toNat_natCast]at f;obtain⟨b1,o1,e1,x1,x2,x3⟩:=HA.o u (by rw[HM.o];omega);subst e1;have qk:=cLz c G;have q1:=cLz c x1;have q2:=cLz c x2;have q3:=cLz c x3;obtain⟨⟨kv,nv,sv⟩,R⟩:∃z,r.getD u ϰ=z:=⟨_,rfl⟩;rw[R]at q1 q2 q3 f;dsimp only at q1 q2 q3;have L:Ϛ (CY r (l.take (k+1))=CY r (l.take k)++[⟨kv,nv,sv⟩]):=f;have i1:(0:Int)<=(k:Int):=Ϝ;have i2:(k:Int)<(n:Int):=Ϝ;have i3:(0:Int)<=(u:Int):=Ϝ;have i4:(u:Int)<(m:Int):=Ϝ;have s:=M.o k;obtain⟨pr,Y⟩:=nM (CY r (l.take k));rw[Y]at d L s;clear G x1 x2 x3 hz R f E Y;go_wp2_with (at_builtin;refine Kj rfl (.tmp 17) (.tmp 22) rfl w.heap.size u5 pr rfl wr d.o ⟨kv,nv,sv⟩ wr.heap.size rfl rfl Ϝ Z ?_;intro v2 w3 X aj);obtain⟨ag,c2,g,_⟩:=Cl X;have ai:=H3 c Z d.o aj;subst g;go_roundw
   case rel=>exact⟨k+1,Ϝ,by go_num,by rw[L.o];exact X,ai⟩
   case measure=>simp[intOf];omega
  ·have I:=H.o k Ϝ;obtain⟨ag,c2,g,_⟩:=Cl d.o;rw[I]at d g;rw[af.o]at g;subst g;clear I H J M;go_wp2;go_ret;exact⟨⟨_,_,rfl,d.o⟩,c⟩
def IP(r:List Cel):Bool:=r.any λc=>c.k==0
theorem Uq{i:Nat}(b:i<r.length)(h:(r.getD i ϰ).k=0):IP r=true:=by
 unfold IP;rw[any_eq_true];exact⟨_,Dj b,by simpa using h⟩
theorem Wl(h:∀i,i<r.length->(r.getD i ϰ).k≠0):IP r=false:=by
 unfold IP;rw[any_eq_false];intro c b;have:=(GV (d:=ϰ) (Q:=λc:Cel=>c.k≠0)).1 h c b;simpa using this
def DW(p:Pln)(side:Int)(r:List Cel):List Cel:=CY r (keysOf p side)
def hasB(p:Pln)(side:Int)(r:List Cel):Bool:=decide (Bg p side r=0)&& !IP (DW p side r)
def Ar(p:Pln)(side:Int)(r:List Cel):ByteArray:=⟨(if hasB p side r=true then encR (DW p side r)else []).toArray⟩
theorem Da(h:Bg p side r=0):An p=0/\Bf side=true/\r.length=(AF p side).length/\ET r=0/\EH r (AF p side)=true:=by
 unfold Bg at h;by_cases b:An p=0
 ·rw[if_pos b]at h;unfold AaN at h
  cases h1:Bf side with
  |false=>rw[h1]at h;cases h
  |true=>
   rw[h1,if_neg ϝ]at h;by_cases d:r.length=(AF p side).length
   ·rw[if_neg (by simp[d])]at h;by_cases c:ET r=0
    ·rw[if_neg (by simp[c])]at h
     cases h4:EH r (AF p side)with
     |false=>rw[h4]at h;cases h
     |true=>exact⟨b,rfl,d,c,rfl⟩
    ·rw[if_pos c]at h;exact absurd h c
   ·rw[if_pos d]at h;cases h
 ·rw[if_neg b]at h;exact absurd h b
theorem keys_in(h:An p=0):(∀x∈keysOf p side,0<=x/\x<((AF p side).length:Int))/\(keysOf p side).length<=4:=by
 obtain⟨_,_,c,_,b⟩:=BI h;have d:=EG c;unfold keysOf AF;split
 ·exact⟨b.2.1.2.2.1.1,Ϝ⟩
 ·exact⟨b.2.1.2.1.1,Ϝ⟩
theorem SO{l:List Int}(g:l.length<=8)(h:∀x∈l,0<=x/\x<(r.length:Int))(e:ET r=0)(j:Cb r):rowOk (CY r l):=by
 refine⟨by unfold CY;rw[lMp];exact g,λc d=>?_⟩;obtain⟨i,f,rfl⟩:=mem_map.1 d;have:=h i f;have b:r.getD i.toNat ϰ∈r:=Dj Ϝ;exact⟨GM e _ b,j _ b⟩
theorem JL{s t:ByteArray}{a b:Bool}{x y:Int}(c:s=t)(d:a=b)(e:x=y):Ending.returned (.tuple #[.string s,.bool a,vI x])= .returned (.tuple #[.string t,.bool b,vI y]):=by rw[c,d,e]
theorem Nv(p:Pln)(x:PA)(side:Int)(F:ϙ)(O:Nat)(r:List Cel)(w:Ϙ)(hw:wfPlan p)(hp:planAt w p x)(hr:vl.rowAt w F r)(al:Cb r)(ak:r.length<=χ):
 η 214 #[Aq p x,vI side,vS F r.length O] w (θ w (.tuple #[.string (Ar p side r),.bool (hasB p side r),vI (Bg p side r)])):=by
 have A:=hIz (λ(d:Ϙ) (c:ϛ w d)=>IM p x side F O r d hw (Ag hp c) (Ac hr c) al ak);have B:=hIz (λ(d:Ϙ)=>Up p x side d);have N:Ϛ (∀d,Bg p side r=0->ϛ w d->CT 217 #[vS F r.length O,vS (kA x side) (keysOf p side).length (kC x side)] d λe w'=>(∃s C,e= .returned (vS s (DW p side r).length C)/\AA w' d (vS s (DW p side r).length C) (DW p side r))/\ϛ d w'):=λd k c=>by
  have h:=Da k;have m:=keys_in (side:=side) h.1;exact Wk F (kA x side) O (kC x side) r (keysOf p side) d ak Ϝ (Ac hr c) (Av (FX hp side) c) (by rw[h.2.2.1];exact m.1)
 have V:Ϛ (Bg p side r=0->rowOk (DW p side r)):=λk=>by
  have h:=Da k;have m:=keys_in (side:=side) h.1;exact SO Ϝ (by rw[h.2.2.1];exact m.1) h.2.2.2.1 al
 have I:Ϛ (hasB p side r=(decide (Bg p side r=0)&& !IP (DW p side r))):=rfl;have J:Ϛ (Ar p side r=⟨(if hasB p side r=true then encR (DW p side r)else []).toArray⟩):=rfl;obtain⟨re,D⟩:=nM (Bg p side r);obtain⟨b,H⟩:=nM (DW p side r);obtain⟨c,R⟩:=nM (hasB p side r);obtain⟨o,aj⟩:=nM (Ar p side r);obtain⟨ca,a6⟩:=nM (cA x side);obtain⟨cc,a7⟩:=nM (cC x side);obtain⟨ka,ag⟩:=nM (kA x side);obtain⟨kc,ah⟩:=nM (kC x side);obtain⟨cn,a8⟩:=nM ((AF p side).length);obtain⟨kn,ai⟩:=nM ((keysOf p side).length);obtain⟨n,T⟩:=nM r.length;rw[D,T]at A;rw[ag,ah,ai]at B;rw[D,ag,ah,ai,H,T]at N;rw[D,H]at V;rw[D,H,R]at I;rw[R,H,aj]at J;rw[aj,R,D,T];clear D H R aj a6 a7 ag ah a8 ai T hp hw hr al ak;obtain⟨q,hq⟩:=nM b.length;have v:Ϛ (b.length=q):=hq;rw[hq]at N;clear hq;obtain⟨bj,bo,bn,bg,bs,bk,left,right,bb,bc,bd,a2,a1⟩:=p;obtain⟨l,lc,rr,rc,lk,bm,rk,br,g,gc,a,ac⟩:=x;unfold Aq at A B⊢;dsimp only at A B⊢;obtain⟨n6,Z⟩:∃n,left.length=n:=⟨_,rfl⟩;obtain⟨n7,h7⟩:∃n,right.length=n:=⟨_,rfl⟩;obtain⟨n8,h8⟩:∃n,bb.length=n:=⟨_,rfl⟩;obtain⟨n9,h9⟩:∃n,bc.length=n:=⟨_,rfl⟩;obtain⟨bp,X⟩:∃n,a2.length=n:=⟨_,rfl⟩;obtain⟨bq,Y⟩:∃n,a1.length=n:=⟨_,rfl⟩;rw[Z,h7,h8,h9,X,Y]at A B;rw[Z,h7,h8,h9,X,Y];clear Z h7 h8 h9 X Y;go_enter func214,ntmps214;go_wp2_with fail;refine(A.o _ ϧ).mono ?_;rintro e d ⟨rfl,aa⟩;have ab:=ϧ.trans (aa.mono Ϟ);obtain⟨a5,a9⟩:=Dx aa;by_cases k:re=0
 ·subst k;have U:Ϛ (rowOk b):=V.o rfl;have HH:Ϛ (c= !IP b):=I.o;clear V I;go_wp2_with fail;refine(B.o _).mono ?_;rintro e w2 ⟨rfl,aq⟩;have ae:=bT ab aq;go_wp2_with fail;refine(N.o _ Ϥ ae).mono ?_;rintro e w3 ⟨⟨s,C,rfl,ax⟩,au⟩;have a4:=bT ae au;have an:Ϛ (vl.rowAt w3 s b):=by
   have:=GA (r:=b) (cap:=C) (ad:=s) (base:=w2.heap.size) (w:=w3) (by rw[v.o];exact ax);exact this
  clear a5 a9 A B N aa aq au ax ab ae;have bi:q<=8:=by have:=U.o.1;rw[v.o]at this;exact this
  go_wp2
  go_loopw [12,29] (λ_ i wr=> ∃j:Nat,j<=q/\i=vI j/\ϛ w3 wr/\∀i,i<j->(b.getD i ϰ).k≠0) (λ_ i _=>q - (intOf i).toNat)
  case atStart=>exact⟨0,Nat.zero_le _,rfl,bR,λi G=>absurd G (Nat.not_lt_zero i)⟩
  case round=>
   obtain⟨j,hj,rfl,u,ap⟩:=hrel;have am:Ϛ (∀i,i<j->(b.getD i ϰ).k≠0):=ap;have ba:=u.size;have af:=bT a4 u;clear ap;by_cases aw:j<q
   ·obtain⟨b1,o1,e1,x1,x2,x3⟩:=an.o j (by rw[v.o];exact aw);subst e1;have q1:=cLz u x1;have q2:=cLz u x2;have q3:=cLz u x3;have L:Ϛ ((b.getD j ϰ).k=0->IP b=true):=λh=>Uq (by rw[v.o];exact aw) h;have M:Ϛ ((b.getD j ϰ).k≠0->∀i,i<j+1->(b.getD i ϰ).k≠0):=λh i G=>by
     rcases Nat.lt_succ_iff_lt_or_eq.1 G with W|W
     ·exact am.o i W
     ·rw[W];exact h
    obtain⟨⟨kv,nv,sv⟩,av⟩:∃z,b.getD j ϰ=z:=⟨_,rfl⟩;rw[av]at q1 q2 q3 L M;dsimp only at q1 q2 q3 L M;have i1:(0:Int)<=(j:Int):=Ϝ;have i2:(j:Int)<(q:Int):=Ϝ;clear av x1 x2 x3;by_cases m:kv=0
    ·subst m;have f:Ϛ (c=false):=by show c=false;rw[HH.o,L.o rfl];rfl
     have E:Ϛ (o=⟨#[]⟩):=by show o=_;rw[J.o,f.o];rfl
     go_wp2
     go_ret3
     exact⟨JL E.o.symm f.o.symm rfl,af.alloc af.size _⟩
    ·have bh:(kv==0)=false:=by simpa using m
     have ao:=M.o m;have a0:Ϛ (∀i,i<j+1->(b.getD i ϰ).k≠0):=ao;clear m ao M L;go_wp2;go_roundw
     case rel=>exact⟨j+1,Ϝ,by go_num,u.alloc ba _,a0.o⟩
     case measure=>simp[intOf];omega
   ·have az:Ϛ (IP b=false):=Wl (λi G=>am.o i (by rw[v.o]at G;omega));have f:Ϛ (c=true):=by show c=true;rw[HH.o,az.o];rfl
    have E:Ϛ (o=⟨(encR b).toArray⟩):=by show o=_;rw[J.o,f.o];rfl
    have KK:Ϛ (CT 112 #[vS s q C] wr (θ wr (.tuple #[.string (EI b),ω]))):=by
     have:=vl.ZY s C b wr (Ac an.o u) U.o;rwa[v.o]at this
    have ay:Ϛ (EI b=o):=by
     show EI b=o;rw[E.o];apply str_eq;rw[I7 U.o]
    go_wp2_with fail;refine KK.o.mono ?_;rintro e w4 ⟨rfl,a3⟩;go_wp2
    go_ret3
    exact⟨JL ay.o f.o.symm rfl,bT af a3⟩
 ·have be:(re !=0)=true:=by simpa using k
  have f:Ϛ (c=false):=by show c=false;rw[I.o,decide_eq_false k];rfl
  have E:Ϛ (o=⟨#[]⟩):=by show o=_;rw[J.o,f.o];rfl
  clear k;go_wp2
  go_ret3
  exact⟨JL E.o.symm f.o.symm rfl,ab⟩
end pl
namespace bt
open vl pl
end bt
namespace gr
variable {P : Program} {ops : Array Oper} {Q : Exit -> Act -> World -> Prop} {S : World -> Prop} {a a' : Act} {w : Ϙ} {md : Region.Mode} {fuel : Nat} {listed : Array Bool} {oi : Oper}
theorem CP{id:Nat}(N:Nat)(d:ops.size=N)(c:P.follows .mixedOrders=true)(b:S w.drew)
 (h:S w.drew->wpAnyH P .any ops Q S N (Array.replicate N false) a w.drew):(Code.region id ops true).wp P Q a w:=
 wp_region_held_drew c b (by rw[d];exact h)
theorem skipJ(i:Nat)(d:Option Tmp)(f:S w)(h:wpAnyH P md ops Q S fuel (listed.setIfInBounds i true) a' w)
 (j:ops[i]? =some oi:=by exact rfl) (b:(Region.noSelect ops&&(Region.free md ops listed i&&(Region.ready md ops listed).contains i))=true:=by kernel_rfl) (g:oi.dst=d:=by exact rfl) (k:Region.wanted oi (yielded ops a.tmps)=false:=by exact rfl) (ha:a.put d undef=a':=by(simp only[Act.put,sI,sZ,sS];exact rfl))
 (e:∀c a w,Q (.panic c) (a.put oi.dst undef) w->Q (.panic c) a w:=by exact λ_ _ _ h=>h):wpAnyH P md ops Q S (fuel+1) listed a w:=by
 rw[Bool.and_eq_true,Bool.and_eq_true]at b;exact wpAnyH_take j b.1 b.2.1 b.2.2 e (Or.inr ⟨k,rfl⟩) f (by rw[g,ha];exact h)
theorem PC{v:Value}(i:Nat)(d:Option Tmp)(f:S w)(h:wpAnyH P md ops Q S fuel (listed.setIfInBounds i true) a' w)
 (k:ops[i]? =some oi:=by exact rfl) (b:(Region.noSelect ops&&(Region.free md ops listed i&&(Region.ready md ops listed).contains i))=true:=by kernel_rfl) (j:oi.dst=d:=by exact rfl) (m:Region.wanted oi (yielded ops a.tmps)=true:=by exact rfl) (hy:∀w,S w->(execOp a.eval oi).run P w= .ok (.value v) w:=by(intro o g;(try dsimp only at g);first|(go_simp;done)|(go_simp;with_reducible rfl))) (ha:a.put d v=a':=by(simp only[Act.put,sI,sZ,sS];exact rfl))
 (e:∀c a w,Q (.panic c) (a.put oi.dst v) w->Q (.panic c) a w:=by exact λ_ _ _ h=>h):wpAnyH P md ops Q S (fuel+1) listed a w:=by
 rw[Bool.and_eq_true,Bool.and_eq_true]at b;exact wpAnyH_take k b.1 b.2.1 b.2.2 e (Or.inl ⟨m,hy⟩) f (by rw[j,ha];exact h)
end gr
namespace jn
variable {P : Program} {a : Act} {w : Ϙ} {K : Act -> World -> Prop} {Q : Exit -> Act -> World -> Prop} {l n : Nat} {ops : Array Oper}
theorem AaO{o:Oper}(d:∀c,o.op≠ .defer c)(h:o.wp P a w K Q):o.wpIn (Fence.wide.inRound l) n P a w K Q:=by
 refine⟨λf _=>trivial,?_⟩;rw[Oper.semAt_eq _ _ _ d];unfold Oper.wp at h;generalize (execOp a.eval o).run P w=r at *
 cases r with
 |ok x w'=>
  cases x<;>simp only[Oper.upon,Oper.uponIn]at h⊢ <;>
   first
    |exact h
    |exact⟨λe=>by simp[Fence.wide]at e,CallsIn.inRound l (callsIn_wide.2 h)⟩
    |exact⟨λe=>by simp[Fence.wide]at e,λc b _=>let ⟨v,w',r,s⟩:=h c b;⟨v,w',r,stepsIn_wide.2 s⟩⟩
    |exact h.elim
 |halt x w'=>cases x<;>simp only[Oper.upon,Oper.uponIn]at h⊢ <;>exact h
theorem YJ{e:Act->World->Prop}{i:Nat}(g:∀(i:Nat) (o:Oper),ops[i]? =some o->∀c,o.op≠Op.defer c)(j:¬LetsOut Q)(b:∀a w,K a w->e a w)(h:wpOp P ops Q i K a w):wpOpIn (Fence.wide.inRound l) n P ops Q i e a w:=by
 unfold wpOp at h;unfold wpOpIn
 cases ho:ops[i]? with
 |none=>simp only[ho]at h⊢;exact b _ _ h
 |some o=>
  simp only[ho]at h⊢;split
  ·rename_i d;simp only[d,if_true]at h;rcases h with h|h
   ·exact Oper.wpIn_mono b (AaO (g i o ho) h)
   ·exact absurd h.2 j
  ·rename_i d;simp only[d]at h;exact⟨λf _=>trivial,b _ _ h⟩
theorem Wm{P:Program}{md:Region.Mode}{ops:Array Oper}{Q:Exit->Act->World->Prop}{l n:Nat}(b:∀(i:Nat) (o:Oper),ops[i]? =some o->∀c,o.op≠Op.defer c)(d:¬LetsOut Q):∀(fuel:Nat) (listed:Array Bool) (a:Act) (w:Ϙ),wpAny P md ops Q fuel listed a w->wpAnyIn (Fence.wide.inRound l) n P md ops Q fuel listed a w
 |0,_,_,_,h=>h
 |fuel+1,_,_,_,h=>⟨h.1,λi f=>YJ b d (λa' g e=>Wm b d fuel _ a' g e) (h.2 i f)⟩
theorem Wn{S:World->Prop}{id:Nat}(N:Nat)(g:ops.size=N)(b:P.follows .mixedOrders=true)(j:ops.toList.all (λo=>match o.op with| .defer _=>false|_=>true)=true)(k:¬LetsOut Q)(f:S w.drew)
 (h:S w.drew->wpAnyH P .any ops Q S N (Array.replicate N false) a w.drew):(Code.region id ops true).wpIn (Fence.wide.inRound l) n P Q a w:=by
 refine wpIn_region_any b ?_;rw[g];refine Wm (λi o m c e=>?_) k _ _ _ _ (wpAny_of_held _ _ _ _ (h f));have b:o∈ops.toList:=by
  obtain⟨q,d⟩:=Array.getElem?_eq_some_iff.1 m;rw[<-d];simp
 have:=all_eq_true.1 j o b;rw[e]at this
 cases this
end jn
end Go.Proofs.YtfkihidbnfkbaaaGreatDoor
