import Derived.Test.YtfkihidbnfkbaaaGreatDoorPv25
set_option linter.all false
set_option maxHeartbeats 4000000
set_option maxRecDepth 100000
open Go.ChangeShapes Go.WideShapes Go.ChangeAt Go.RowKit List
namespace Go.Proofs.YtfkihidbnfkbaaaGreatDoor
open Go.Proofs.Tryz
namespace jn
open vl bf
attribute [local go_sem] Oper.semAt_some
variable {p : pl.Pln} {l : List Ent} {s : Jn} {v : Ev} {tO : Int}
theorem Xl(h:pl.An p=0)(side:Int):1<=(pl.AF p side).length/\(pl.AF p side).length<=4:=by
 have:=pl.EG (pl.BI h).2.2.1;unfold pl.AF;split<;>omega
theorem Mm(n:Nat):(bt.C9 n).length=n:=by unfold bt.C9;rw[length_replicate]
theorem Hn(b:Nat)(p:pl.Pln)(x:pl.PA)(side:Int)(m:ϙ)(z:Nat)(a:List Cel)(w:Ϙ)(D:pl.An p=0)(F:pl.Bf side=true)(K:Bp w b p x)(E:vl.rowAt w m a)(I:0<a.length)(H:a.length<=400):
 η 356 #[μ b,vI side,vS m a.length z] w λe d=>(∃g h,e= .returned (vS g (AW p side a).length h)/\AA d w (vS g (AW p side a).length h) (AW p side a))/\ϛ w d:=by
 have r:=Xl D (3 - side);have B:=hIz (λ(f:Ϙ)=>Hq side f F);have o:=hIz (λ(f:Ϙ)=>bt.U3 p x (3 - side) f r.1 r.2);have A:Ϛ (∀i f,ϛ w f->vl.rowAt f (τ i) (bt.C9 (pl.AF p (3 - side)).length)->CT 353 #[vI side,vS m a.length z,vS (τ i) (pl.AF p (3 - side)).length (pl.AF p (3 - side)).length] f λe d=>(∃g h,e= .returned (vS g (AW p side a).length h)/\AA d f (vS g (AW p side a).length h) (AW p side a))/\ϛ f d):=λi f L j=>by
  have:=CC side m (τ i) z (pl.AF p (3 - side)).length a (bt.C9 (pl.AF p (3 - side)).length) f I (by rw[Mm];omega) H (by rw[Mm];omega) (vl.Ac E L) j;rw[Mm]at this;exact this
 obtain⟨R,S,W,X,Y,Z,v6,v7,v8,v9,T,U,V⟩:=K;have C:Ϛ (∀d,ϛ w d->ϒ d b (vI p.kind) (vI p.mode) (vI p.low) (vI p.high) (vI p.size) (vI p.limit) (vS x.l p.left.length x.lc) (vS x.r p.right.length x.rc) (vS x.lk p.lkeys.length x.lkc) (vS x.rk p.rkeys.length x.rkc) (.bool p.grouped) (vS x.g p.group.length x.gc) (vS x.a p.aggs.length x.ac)):=λd c=>⟨cLz c R,cLz c S,cLz c W,cLz c X,cLz c Y,cLz c Z,cLz c v6,cLz c v7,cLz c v8,cLz c v9,cLz c T,cLz c U,cLz c V⟩;obtain⟨q,u⟩:=nM ((AW p side a).length);obtain⟨n,j⟩:=nM ((pl.AF p (3 - side)).length);obtain⟨od,t⟩:=nM (3 - side);obtain⟨rl,y⟩:=nM a.length;rw[j,u,y]at A;rw[j,t]at o;rw[t]at B;rw[u,y];clear j u t y r D F E I H;unfold pl.Aq at o;go_enter func356,ntmps356;go_wp2
 go_region_held3 (λd=>ϒ d b (vI p.kind) (vI p.mode) (vI p.low) (vI p.high) (vI p.size) (vI p.limit) (vS x.l p.left.length x.lc) (vS x.r p.right.length x.rc) (vS x.lk p.lkeys.length x.lkc) (vS x.rk p.rkeys.length x.rkc) (.bool p.grouped) (vS x.g p.group.length x.gc) (vS x.a p.aggs.length x.ac)) (first|exact C.o _ k|exact C.o _ (bR.drew)|go_keep)
  (first
   |(go_at_call 353;refine(A.o _ _ k O).mono ?_;rintro e wj ⟨⟨g,h,rfl,P⟩,M⟩;have G:ϛ w wj:=bT k M;have Q:w.heap.size<=J.heap.size:=k.size;have k:=G)
   |(go_at_call 365;refine(o.o _).mono ?_;rintro e J ⟨⟨i,rfl,aa,O⟩,N⟩;have k:ϛ w J:=bR.drew.trans N)
   |(go_at_call 348;refine(B.o _).mono ?_;rintro e w2 ⟨rfl,rfl⟩))
 all_goals
  go_wp2;go_ret;exact⟨⟨g,h,rfl,World.ownsRow.mono P Q⟩,G⟩
def BF(p:pl.Pln)(s:Jn)(v:Ev)(fr tO:Int):List Ent:=if pl.hasB p v.side v.row=true then CJ (Aj s (3 - v.side)) (pl.Ar p v.side v.row) fr tO else []
theorem UG(b:Buf)(k:ByteArray)(a z:Int):((Ab b).filter λy=>decide (y.key=k)&&decide (a<=y.time)&&decide (y.time<=z))=(Ab b).filter (Iz k a z):=by
 congr 1
 funext y
 unfold Iz;rw[Bool.and_assoc]
theorem Tq{b:Buf}(h:okB b){k:ByteArray}{a z:Int}(d:l.Perm ((Ab b).filter (Iz k a z)))(c:ME l):l=CJ b k a z:=by
 unfold CJ;rw[UG];exact M9 d c (h.once.sublist (filter_sublist.map _))
theorem Jo{fr:Int}(h:okB (Aj s (3 - v.side))):(BF p s v fr tO).length<=4096:=by
 unfold BF;split
 ·unfold CJ;rw[(BC _).length_eq];exact Nat.le_trans (length_filter_le ..) h.all
 ·exact Nat.zero_le _
theorem Jp{fr:Int}{y:Ent}(h:y∈BF p s v fr tO):y∈Ab (Aj s (3 - v.side)):=by
 unfold BF at h;split at h
 ·unfold CJ at h;exact(mem_filter.1 ((BC _).mem_iff.1 h)).1
 ·exact absurd h not_mem_nil
theorem GR(b:Nat)(p:pl.Pln)(x:pl.PA)(s:Jn)(y:JX)(t:Value)(v:Ev)(ra:ϙ)(rc:Nat)(fr tO:Int)(w:Ϙ)(P:pl.Bf v.side=true)(h:boxC w b p x s y t)(D:bufAt w (Aj s (3 - v.side)) (Br y (3 - v.side)))(ok:okB (Aj s (3 - v.side)))(G:∀z∈Ab (Aj s (3 - v.side)),wfE z/\wfP (AZ z)):
 η 352 #[μ b,B8 p v ra rc,vI fr,vI tO] w λe a=>(∃d es,e= .returned (hdV d)/\OE a w (hdV d) es (BF p s v fr tO))/\ϛ w a:=by
 unfold BF B8
 cases hk:pl.hasB p v.side v.row with
 |false=>
  rw[if_neg ϝ];obtain⟨C,f⟩:=nM (pl.Ar p v.side v.row);obtain⟨rl,u⟩:=nM v.row.length;rw[f,u];clear f u;go_enter func352,ntmps352;go_wp2;go_ret;exact⟨⟨(none,0,0),[],rfl,DV Ϟ⟩,ϧ⟩
 |true=>
  rw[if_pos rfl];have H:=hIz (λ(c:Ϙ)=>Hq v.side c P);have F:Ϛ (∀c,CT 252 #[.pointer (some ⟨b,13,none⟩),vI (3 - v.side)] c λe a=>e= .returned (.pointer (some ⟨b,13+Au (3 - v.side),none⟩))/\a=c):=λc=>Fp b 13 (3 - v.side) c;obtain⟨i,j,g⟩:=E8 h.join (3 - v.side);have ad:=h.lt;obtain⟨B,J⟩:=nM (Aj s (3 - v.side));obtain⟨X,L⟩:=nM (Br y (3 - v.side));rw[J]at i D ok G⊢;rw[L]at j g D;have m:Ϛ (∀c,ϛ w c->CT 363 #[AY B X,.string (pl.Ar p v.side v.row),vI fr,vI tO] c λe a=>(∃(d:Hdr) (q:List EM),e= .returned (.tuple #[hdV d,ω])/\OE a c (hdV d) q (CJ B (pl.Ar p v.side v.row) fr tO))/\ϛ c a):=λc hb=>(T0 B X _ fr tO c (Al D hb) G (by have:=ok.all;omega) (DX ok)).mono (by
   rintro e a ⟨⟨d,q,l',rfl,hp,ac,r⟩,aa⟩;rw[Tq ok hp ac]at r;exact⟨⟨d,q,rfl,r⟩,aa⟩)
  obtain⟨C,f⟩:=nM (pl.Ar p v.side v.row);obtain⟨rl,u⟩:=nM v.row.length;obtain⟨k,M⟩:=nM (13+Au (3 - v.side));rw[f]at m;rw[M]at F i j g;rw[f,u];obtain⟨LS,K⟩:=nM (CJ B C fr tO);rw[K]at m⊢;obtain⟨od,O⟩:=nM (3 - v.side);rw[O]at H F;obtain⟨W,Y,⟨⟨S,T,U⟩,ml⟩,rs⟩:=X;obtain⟨R,af,ag⟩:=B;unfold AY hdV at m;dsimp only at m i j g;obtain⟨n,N⟩:=nM rs.length;rw[N]at m g;clear f u M K O N h D ok G J L hk P;have ae:b≠w.heap.size:=Ϝ;go_enter func352,ntmps352;go_wp2;generalize E:(World.alloc w _)=V;have o:ϛ w V:=by rw[<-E];exact ϧ
  have Z:Δ V w 0 (vI v.side):=by subst E;go_simp
  have c3:Δ V w 3 (.string C):=by subst E;go_simp
  replace i:=cLz o i;replace j:=cLz o j;replace g:=cLz o g;clear E;have I:Ϛ (∀a,ϛ V a->Δ a w 0 (vI v.side)/\Δ a w 3 (.string C)/\ϗ a b k (vI R) (vS S T U) (vS W n Y)):=λa A=>⟨cLz A Z,cLz A c3,cLz A i,cLz A j,cLz A g⟩
  go_region_held3 (λa=>Δ a w 0 (vI v.side)/\Δ a w 3 (.string C)/\ϗ a b k (vI R) (vS S T U) (vS W n Y)) (first|exact I.o _ Q|exact I.o _ (bR.drew)|go_keep)
   (first
    |(go_at_call 363;refine(m.o _ o.drew).mono ?_;rintro e wn ⟨⟨d,q,rfl,r⟩,ab⟩;have Q:ϛ V wn:=bR.drew.trans ab;obtain⟨f,h2,h3⟩:=d;dsimp only at r⊢)
    |(go_at_call 252;refine(F.o _).mono ?_;rintro e w3 ⟨rfl,rfl⟩)
    |(go_at_call 348;refine(H.o _).mono ?_;rintro e w2 ⟨rfl,rfl⟩))
  all_goals
   go_wp2;go_ret;exact⟨⟨(f,h2,h3),q,rfl,r.mono (by have:=o.size;simpa using this)⟩,bT o Q⟩
theorem RY(g:FuncId)(K:∀C w,(callFunc g C).run Tryz.prog w= .ok (.enter g C) w)(q:Array Value)(P:Nat->Bool)(n:Nat)(w:Ϙ)(O:n<4611686018427387904)
 (H:∀i f,i<n->ϛ w f->Calls Tryz.prog g (#[vI (i:Nat)]++q) f (θ f (.bool (P i)))) (D:∀a b,a<=b->b<n->P a=true->P b=true):
 η 391 #[vI n,.func (.func g) #[] q] w λe z=>(∃k:Nat,k<=n/\e= .returned (vI k)/\(∀t,t<k->P t=false)/\(∀t,k<=t->t<n->P t=true))/\ϛ w z:=by
 have E:Ϛ (∀i f,i<n->ϛ w f->CT g (#[vI (i:Nat)]++q) f (θ f (.bool (P i)))):=H;have M:=hqz D;clear H D;go_enter func391,ntmps391;go_wp2
 go_loopw [5,6] (λy x wr=> ∃d c:Nat,y=vI d/\x=vI c/\d<=c/\c<=n/\ϛ w wr/\Ϛ ((∀t,t<d->P t=false)/\(∀t,c<=t->t<n->P t=true))) (λy x _=>(intOf x).toNat - (intOf y).toNat)
 case atStart=>exact⟨0,n,rfl,rfl,Nat.zero_le _,Nat.le_refl _,bR,(⟨λt j=>absurd j (Nat.not_lt_zero _),λt L N=>by omega⟩:(∀t,t<0->P t=false)/\(∀t,n<=t->t<n->P t=true))⟩
 case round=>
  obtain⟨d,c,rfl,rfl,Q,G,h,I⟩:=hrel;by_cases R:d<c
  ·have o:Ϛ (∀f,ϛ wr f->_):=λf F=>E.o ((d+c)/2) f Ϝ (bT h F);obtain⟨B,r⟩:=nM (P ((d+c)/2));rw[r]at o;have A:=hqz r;clear r
   cases B with
   |false=>
    go_wp2_with (go_at_fn g;refine(o.o _ bR).mono ?_;rintro e z ⟨rfl,u⟩);go_roundw
    case rel=>
     have m:Ϛ ((∀t,t<(d+c)/2+1->P t=false)/\(∀t,c<=t->t<n->P t=true)):=⟨λt j=>by
      cases e:P t with
      |false=>rfl
      |true=>
       have:=M.o t ((d+c)/2) Ϝ Ϝ e;rw[A.o]at this;exact absurd this ϝ,I.o.2⟩
     exact⟨(d+c)/2+1,c,by rw[show((d:Int)+(c:Int))/2+1=(((d+c)/2+1:Nat):Int) by omega],rfl,Ϝ,G,bT h u,m⟩
    case measure=>simp[intOf];omega
   |true=>
    go_wp2_with (go_at_fn g;refine(o.o _ bR).mono ?_;rintro e z ⟨rfl,u⟩);go_roundw
    case rel=>
     have m:Ϛ ((∀t,t<d->P t=false)/\(∀t,(d+c)/2<=t->t<n->P t=true)):=⟨I.o.1,λt j J=>M.o ((d+c)/2) t j J A.o⟩;exact⟨d,(d+c)/2,rfl,by rw[show((d:Int)+(c:Int))/2=(((d+c)/2:Nat):Int) by omega],Ϝ,Ϝ,bT h u,m⟩
    case measure=>simp[intOf];omega
  ·obtain rfl:c=d:=Ϝ;go_wp2;go_ret;exact⟨⟨c,Ϝ,rfl,I.o.1,I.o.2⟩,h⟩
def O8(l:List Ent):Prop:=∀i j,i<=j->j<l.length->(l.getD i default).time<=(l.getD j default).time
theorem Qq{t:Int}{k:Nat}(h:k<=l.length)(f:∀i,i<k->decide ((l.getD i default).time>t)=false)(g:∀i,k<=i->i<l.length->decide ((l.getD i default).time>t)=true):l.take k=l.filter λy=>decide (y.time<=t):=by
 have e:l=l.take k++l.drop k:=(take_append_drop k l).symm
 conv=>rhs;rw[e]
 rw[filter_append];have c:(l.take k).filter (λy=>decide (y.time<=t))=l.take k:=filter_eq_self.2 (λy b=>by
  obtain⟨i,a,rfl⟩:=getElem_of_mem b;rw[length_take]at a;have:=of_decide_eq_false (f i Ϝ);rw[getD_at Ϝ]at this;rw[getElem_take];exact decide_eq_true Ϝ)
 have d:(l.drop k).filter (λy=>decide (y.time<=t))=[]:=filter_eq_nil_iff.2 (λy b=>by
  obtain⟨i,a,rfl⟩:=getElem_of_mem b;rw[length_drop]at a;have:=of_decide_eq_true (g (k+i) Ϝ Ϝ);rw[getD_at Ϝ]at this;rw[getElem_drop];simp;omega)
 rw[c,d,append_nil]
theorem Zd{w:Ϙ}{base:Nat}{e:TypeId}{s n c:Nat}{a:ϙ}{i:List Value}(h:w.ownsRow base e s (vS a n c) n i):n<=c:=by
 rcases h.2 with⟨b,m⟩|⟨g,j,k,b,f⟩
 ·omega
 ·injection b with _ _ d
  subst d;exact f.2.2.1
theorem UH(i:Nat)(a:ϙ)(n c:Nat)(g:List EM)(l:List Ent)(t:Int)(A C:Nat)(w:Ϙ)(e:i<l.length)(r:n=l.length)(k:C5 w a g)(d:ERs w g l)(E:Δ w A 0 (vS a n c))(F:Δ w C 0 (vI t)):
 η 392 #[vI (i:Nat),μ A,μ C] w (θ w (.bool (decide ((l.getD i default).time>t)))):=by
 obtain⟨h,m,q,x,o,y,z,D⟩:=k i (by rw[d.1];exact e);subst q;rw[(d.2 i e).time]at o;obtain⟨T,j⟩:=nM ((l.getD i default).time);rw[j]at o⊢;obtain⟨B,b⟩:=nM (decide (T>t));have G:∀u,binOp .gtr u (vI T) (vI t)=pure (.bool B):=pl.Fy B b;rw[b];have H:(0:Int)<=(i:Int):=Ϝ;have I:(i:Int)<(n:Int):=Ϝ;clear x y z D k d j b r e;go_enter func392,ntmps392;go_wp2
 go_region_held3 (λf=>Δ f A 0 (vS (some ⟨h,m,none⟩) n c)/\Δ f C 0 (vI t)/\Δ f h (m+i * 5+1) (vI T)) (first|go_keep) (fail)
 all_goals
  go_wp2;go_ret;exact⟨rfl,bR.drew⟩
theorem Xm(a:ϙ)(n c:Nat)(f:List EM)(l:List Ent)(t:Int)(base:Nat)(w:Ϙ)(o:OE w base (vS a n c) f l)(D:n=l.length)(Z:n<=4096)(E:O8 l):
 η 390 #[vS a n c,vI t] w λe d=>(∃k:Nat,k<=n/\e= .returned (vS a k c)/\l.take k=l.filter λy=>decide (y.time<=t))/\ϛ w d:=by
 have r:=Cx (p:=((a,n,c),f)) o;have W:n<=c:=by
  have:=o.own;have Q:f.length=n:=r.1.1.symm;rw[Q]at this;exact Zd this
 have H:Ϛ (∀(A C:Nat) b,ϛ w b->Δ b A 0 (vS a n c)->Δ b C 0 (vI t)->CT 391 #[vI n,.func (.func 392) #[] #[μ A,μ C]] b λe d=>(∃k:Nat,k<=n/\e= .returned (vI k)/\l.take k=l.filter λy=>decide (y.time<=t))/\ϛ b d):=λA C b x M N=>by
  refine(RY 392 (enters_of func392 ϟ rfl) #[μ A,μ C] (λi=>decide ((l.getD i default).time>t)) n b Ϝ (λi S X m=>UH i a n c f l t A C S Ϝ D (Cm (Cm r.2 x) m) ((o.ers.below x).below m) (cLz m M) (cLz m N)) (λi j R Y h=>?_)).mono ?_
  ·have h:=of_decide_eq_true h;have:=E i j R Ϝ;exact decide_eq_true Ϝ
  ·rintro e d ⟨⟨k,q,rfl,J,K⟩,O⟩;exact⟨⟨k,q,rfl,Qq Ϝ J (λi L U=>K i L Ϝ)⟩,O⟩
 clear o E r D;go_enter func390,ntmps390;go_wp2;generalize g:(World.alloc (World.alloc w _) _)=V;have z:ϛ w V:=by rw[<-g];exact ϧ.alloc Ϟ _
 have u:Δ V w 0 (vS a n c):=by subst g;go_simp
 have I:Δ V (w+1) 0 (vI t):=by subst g;go_simp
 clear g
 go_region_held3 (λd=>Δ d w 0 (vS a n c)) (first|exact cLz F u|go_keep)
  (first
   |(go_at_call 391;refine(H.o _ _ _ z.drew u I).mono ?_;rintro e T ⟨⟨k,q,rfl,B⟩,P⟩;have F:ϛ V T:=bR.drew.trans P;have i1:(0:Int)<=(k:Int):=Ϝ;have i2:(k:Int)<=(c:Int):=Ϝ;have G:Ϛ (l.take k=l.filter λy=>decide (y.time<=t)):=B;clear B))
 all_goals
  go_wp2;go_ret;exact⟨⟨k,q,rfl,G.o⟩,bT z F⟩
end jn
end Go.Proofs.YtfkihidbnfkbaaaGreatDoor
