import Derived.Test.YtdohnkkbkfhphaaGreatPw39
set_option linter.all false
set_option maxHeartbeats 16000000
set_option maxRecDepth 100000
open Go.ChangeShapes Go.WideShapes Go.ChangeAt Go.RowKit List
namespace Go.Proofs.YtdohnkkbkfhphaaGreat
open Go.Proofs.Tryz
namespace bf
open vl
attribute [local go_sem] Oper.semAt_some
variable {b : Buf} {base : Nat} {W : ϛ}
theorem okB.ents(ok:okB b){l:List Ent}{f:Bool}(h:ES (Aa b) l f):f=true/\l.Perm (Aa b)/\Dh l:=by
 have a:=h.fine.2 ok.once;exact⟨a,h.perm a,h.rise⟩
theorem okB.size(ok:okB b):(Aa b).length<=100000/\∀y∈Aa b,y.row.length<=2000000:=
 ⟨by have:=ok.all;omega,λy a=>by have:=ok.small.2.2 y a;omega⟩
theorem FG(b:Buf)(x:BX)(w:ϛ)(h:bufAt w b x)(ok:okB b):
 η 43 #[AF b x] w λe a=>(∃(hh:Hdr) (es:List EM) (l:List Ent),e= .returned (hdV hh)/\OE a w (hdV hh) es l/\l.Perm (Aa b)/\Dh l)/\Ϟ w a:=by
 have g:ϝ (∀d,Ϟ w d->CT 81 #[AF b x] d λr a=>(∃(hh:Hdr) (es:List EM) (l:List Ent) (f:Bool),r= .returned (.tuple #[hdV hh,.bool f])/\OE a w (hdV hh) es l/\l.Perm (Aa b)/\Dh l)/\Ϟ d a):=λd t=>
  (LL b x d (Ag h t) ok.size.1 ok.size.2).mono (λe a ⟨⟨hh,es,l,f,A,c,B⟩,z⟩=>⟨⟨hh,es,l,f,A,c.mono (by have:=t.size;omega),(ok.ents B).2⟩,z⟩)
 obtain⟨L,s⟩:=nM (Aa b);rw[s]at g⊢;clear h ok s;obtain⟨o,p,⟨⟨j,k,m⟩,F⟩,q⟩:=x;obtain⟨i,E,J⟩:=b;rw[show AF ⟨i,E,J⟩ ⟨o,p,((j,k,m),F),q⟩= .agg #[vI i,vS j k m,vS o q.length p]from rfl]at g⊢;obtain⟨n,v⟩:∃n,q.length=n:=⟨_,rfl⟩;rw[v]at g⊢;clear v;have u:Ϟ w (ξ w (ν i j k m o n p) 29):=Ϫ;go_enter func43,ntmps43;go_wp2_with (go_at_call 81;refine(g.o _ u).mono ?_;rintro e K ⟨⟨⟨G,H,I⟩,es,l,f,rfl,c,C,D⟩,y⟩;unfold hdV at c⊢;dsimp only at c⊢);go_ret;exact⟨⟨(G,H,I),es,l,rfl,c,C,D⟩,bT u y⟩
theorem U1(e:EM)(a:Int)(d:Nat)(w:ϛ)(h:Δ w d 0 (vI a)):
 η 146 #[e.val,μ d] w (θ w (.bool (decide (a<e.time)))):=by
 obtain⟨l,f,o,⟨i,j,k⟩,n⟩:=e;unfold EM.val hdV;dsimp only;have m:d<w.heap.size:=bLt _ _ h;by_cases g:a<f
 ·have c:ϝ (decide (a<f)=true):=decide_eq_true g;go_enter func146,ntmps146;go_wp2;go_ret;exact⟨Ab (by rw[c.o]),Ϫ⟩
 ·have c:ϝ (decide (a<f)=false):=decide_eq_false g;go_enter func146,ntmps146;go_wp2;go_ret;exact⟨Ab (by rw[c.o]),Ϫ⟩
theorem P6(b:Buf)(x:BX)(a:Int)(w:ϛ)(h:bufAt w b x)(ok:okB b):
 η 95 #[AF b x,vI a] w λe l=>(∃m,e= .returned (AF (Bt (Cm a) b) m)/\OB l w m (Bt (Cm a) b))/\Ϟ w l:=by
 have B:=ok.small;have o:ϝ (∀c,Ϟ w c->Δ c (w+1) 0 (vI a)->CT 93 #[AF b x,.func (.func 146) #[] #[μ (w+1)]] c λe l=>(∃m,e= .returned (AF (Bt (Cm a) b) m)/\OB l c m (Bt (Cm a) b))/\Ϟ c l):=λc L O=>
  Qp 146 (enters_of func146 Ϣ rfl) #[μ (w+1)] (Cm a) b x c (Ag h L) B.1 B.2.1 ok.size.2 (λe y w2 P _ M=>by
   have:=U1 e a (w.heap.size+1) w2 (cLz M O);rw[P.time]at this;exact this)
 clear h B ok;obtain⟨C,F⟩:=nM (Bt (Cm a) b);rw[F]at o⊢;clear F;obtain⟨j,k,⟨⟨f,g,i⟩,T⟩,D⟩:=x;obtain⟨d,S,Z⟩:=b;rw[show AF ⟨d,S,Z⟩ ⟨j,k,((f,g,i),T),D⟩= .agg #[vI d,vS f g i,vS j D.length k]from rfl]at o⊢;obtain⟨n,G⟩:∃n,D.length=n:=⟨_,rfl⟩;rw[G]at o⊢;clear G;have A:Ϟ w (ξ (ξ (ξ w (ν d f g i j n k) 29) #[vI a] 3) #[ω,ψ,ψ] 29):=by
  repeat (first|exact bR|(refine Below.alloc ?_ Ϧ _))
 have z:=EZ (ξ (ξ w (ν d f g i j n k) 29) #[vI a] 3);rw[World.size_alloc,World.size_alloc]at z;have J:ϝ (nbAt (ξ (ξ (ξ w (ν d f g i j n k) 29) #[vI a] 3) #[ω,ψ,ψ] 29) (w.heap.size+1+1)):=z;clear z;have R:Δ (ξ (ξ (ξ w (ν d f g i j n k) 29) #[vI a] 3) #[ω,ψ,ψ] 29) (w+1) 0 (vI a):=ϣ;go_enter func95,ntmps95;go_wp2_with (go_at_call 93;refine(o.o _ A R).mono ?_;rintro e I ⟨⟨⟨s,t,⟨⟨p,q,r⟩,H⟩,u⟩,rfl,Q⟩,E⟩;rw[show AF C ⟨s,t,((p,q,r),H),u⟩= .agg #[vI C.lim,vS p q r,vS s u.length t]from rfl];have K:ϝ (nbAt I (w.heap.size+1+1)):=BW E J.o;obtain⟨U,V,X,o0,o1,o2,Y⟩:=K.o);have N:Ϟ w I:=bT A E;refine bodyPost_ret (v:=.agg #[vI C.lim,vS p q r,vS s u.length t]) (by simp[results,results95,go_sem,U,V,X]) rfl ⟨⟨⟨s,t,((p,q,r),H),u⟩,rfl,?_⟩,((N.setCell ϥ _).setCell ϥ _).setCell ϥ _⟩;exact Gd (A5 Q A.size) Y _ _ _
theorem Ab8{w:ϛ}{n cap:Nat}{ad:Ϝ}{es:List EM}(h:w.ownsRow base 63 5 (vS ad n cap) es.length (Aq es)):BG w ad es:=by
 intro i d;rcases h.2 with⟨c,p⟩|⟨g,m,o,c,q,s,r⟩
 ·omega
 ·cases c
  have a:=World.ownsRow.cells h (g:=g) rfl;obtain⟨e,f,j,k,l⟩:=Fb es i d;refine⟨g,0,rfl,?_,?_,?_,?_,?_⟩
  ·have:=a _ _ e;rw[Ch]at this;exact this
  ·have:=a _ _ f;rw[Ch]at this;exact this
  ·have:=a _ _ j;rw[Ch]at this;exact this
  ·have:=a _ _ k;rw[Ch]at this;exact this
  ·have:=a _ _ l;rw[Ch]at this;exact this
theorem Hf(k:ByteArray)(a z:Int)(y:Ent):CH k a z y=(decide (y.key=k)&&(decide (a<=y.time)&&decide (y.time<=z))):=rfl
theorem XT(b:Buf)(x:BX)(f:ByteArray)(a z:Int)(w:ϛ)(h:bufAt w b x)(ok:okB b):
 η 153 #[AF b x,.string f,vI a,vI z] w λe S=>(∃(ad:Ϝ) (cap:Nat) (es:List EM) (l:List Ent),e= .returned (vS ad l.length cap)/\BG S ad es/\ERs S es l/\(l.Perm ((Aa b).filter (CH f a z))/\Dh l)/\∀e∈es,∀g,(hdV e.row).ownBlock=some g->An S g 103)/\Ϟ w S:=by
 have P:=hIz (λ(w1:ϛ) (hb:Ϟ w w1)=>FG b x w1 (Ag h hb) ok);have ae:=ok.all;obtain⟨L,hL⟩:=nM (Aa b);rw[hL]at P ae⊢;have az:=hV0 ae;clear h ok hL ae;obtain⟨I,al,au,av,aw⟩:=info_parts Nk;have O:ϝ (Tryz.prog.info? 63=some I/\I.zero=some (.agg #[ϊ,ω,ω,ψ,ϋ])/\I.size=5/\I.bytes=64):=⟨al,au,av,aw⟩;clear al au av aw;obtain⟨ra,rc,⟨⟨m1,m2,m3⟩,ml⟩,rs⟩:=x;obtain⟨af,ba,bb⟩:=b;rw[show AF ⟨af,ba,bb⟩ ⟨ra,rc,((m1,m2,m3),ml),rs⟩= .agg #[vI af,vS m1 m2 m3,vS ra rs.length rc]from rfl]at P⊢;obtain⟨n,hn⟩:∃n,rs.length=n:=⟨_,rfl⟩;rw[hn]at P⊢;clear hn;have aj:Ϟ w (ξ w (ν af m1 m2 m3 ra n rc) 29):=Ϫ;go_enter func153,ntmps153;go_wp2_with (go_at_call 43;refine(P.o _ aj).mono ?_;rintro e m ⟨⟨⟨q1,q2,q3⟩,es,l,rfl,q,hp,ap⟩,ak⟩;unfold hdV at q⊢;dsimp only at q⊢);have a4:Ϟ w m:=bT aj ak;have hq:q2=es.length:=by obtain⟨ad,cp,e⟩:=q.form;cases e;rfl
 subst hq;have ax:ϝ (BG m q1 es):=q.at;have ay:ϝ (ERs m es l):=q.ers;have ah:ϝ (l.Perm L/\Dh l):=⟨hp,ap⟩;have a0:ϝ (∀e∈es,∀g,(hdV e.row).ownBlock=some g->An m g 103):=λe t g hg=>by
  obtain⟨i,hi,rfl⟩:=getElem_of_mem t;have A:=q.rows i (by rw[<-q.len];exact hi);rw[gDe,gEe hi]at A;exact A6 A.row hg
 have a6:es.length<=4096:=by rw[q.len,hp.length_eq];exact az.o
 obtain⟨y,Q⟩:=nM es.length;have B:ϝ (es.length=y/\l.length=y):=⟨Q,by rw[<-q.len,Q]⟩;rw[Q]at a6⊢;clear q hp ap ak Q
 go_loopw [9,11] (λo ii wr=> ∃(k:Nat) (ad:Ϝ) (cap:Nat) (d:List EM),k<=y/\o=vS ad d.length cap/\ii=vI k/\wr.ownsRow m 63 5 (vS ad d.length cap) d.length (Aq d)/\(ERs m d ((l.take k).filter (CH f a z))/\∀e∈d,e∈es)/\Ϟ m wr) (λ_ ii _=>y - (intOf ii).toNat)
 case atStart=>exact⟨0,none,0,[],Nat.zero_le _,rfl,rfl,World.ownsRow_nil _ _ _ _,⟨Qz _,λe t=>by cases t⟩,bR⟩
 case round=>
  obtain⟨k,ad,cap,d,hk,rfl,rfl,ac,⟨aa,aq⟩,j⟩:=hrel;have C:=hV0 aq;clear aq;obtain⟨e2,Z⟩:=nM d.length;have r:=hV0 Z;rw[Z]at ac⊢;have v:=hV0 ac;have X:=hV0 aa;have bd:e2<=4096:=by
   have h1:=aa.1;have h2:=length_filter_le (CH f a z) (l.take k);rw[length_take,B.o.2]at h2;omega
  have a3:Ϟ w wr:=bT a4 j;have a8:=j.size;clear ac aa Z;by_cases ab:k<y
  ·have am:k<l.length:=by rw[B.o.2];exact ab
   obtain⟨b1,o1,ee,x1,x2,x3,x4,x5⟩:=ax.o k (by rw[B.o.1];exact ab);subst ee;have z1:=cLz j x1;have z2:=cLz j x2;have z3:=cLz j x3;have z4:=cLz j x4;have z5:=cLz j x5;have R:=ay.o.2 k am;have U:ϝ ((l.take (k+1)).filter (CH f a z)=(l.take k).filter (CH f a z)++(if CH f a z (l.getD k default)=true then [l.getD k default]else [])):=EY am;have T:=hV0 R;have ag:ϝ (es.getD k default∈es):=AD (by rw[B.o.1];exact ab);have G:=R.key;have H:=R.time;obtain⟨xx,ar⟩:=nM (l.getD k default);rw[ar]at U T G H;obtain⟨⟨p,s,F,⟨J,K,M⟩,E⟩,hz⟩:∃z,es.getD k default=z:=⟨_,rfl⟩;rw[hz]at z1 z2 z3 z4 z5 T G H ag;unfold hdV at z4;dsimp only at z1 z2 z3 z4 z5 G H;have i1:(0:Int)<=(k:Int):=ϟ;have i2:(k:Int)<(y:Int):=ϟ;have bg:b1<wr.heap.size:=bLt _ _ z1;have N:ϝ (CH f a z xx=(decide (p=f)&&(decide (a<=s)&&decide (s<=z)))):=by show _=_;rw[Hf,<-G,<-H]
   clear hz ar R x1 x2 x3 x4 x5 G H;have V:ϝ (CH f a z xx=false->ERs m d ((l.take (k+1)).filter (CH f a z))):=λh=>by rw[U.o,if_neg (by rw[h];exact Bool.false_ne_true),append_nil];exact X.o
   by_cases Y:p=f
   ·subst Y;by_cases c2:s≥a
    ·by_cases c3:s<=z
     ·have a1:ϝ (ERs m (d++[⟨p,s,F,(J,K,M),E⟩]) ((l.take (k+1)).filter (CH p a z))):=by
       have hy:CH p a z xx=true:=by rw[N.o];simp[c3,c2]
       rw[U.o,if_pos hy];exact VW X.o (Abw T.o)
      go_wp2_with (at_builtin;refine wpList_append_own _ rfl (.tmp 45) (.tmp 50) 26 rfl m.heap.size 63 I (.agg #[ϊ,ω,ω,ψ,ϋ]) 5 64 underlying26 O.o.1 O.o.2.1 O.o.2.2.1 O.o.2.2.2 rfl Ϡ _ _ _ rfl (World.ownsRow.alloc v.o _) ⟨wr,0,none⟩ 1 1 [.string p,vI s,vI F,vS J K M,.bool E] rfl rfl (Dd _ _ _ _ _ _ _) (by intro u hu;simp at hu;rcases hu with rfl|rfl|rfl|rfl|rfl<;>rfl) ϩ ϟ Ϥ ?_;intro v9 w3 ao a5 be);obtain⟨g3,c4,a9⟩:=Fa ao;subst a9;have a2:Ϟ m w3:=(j.alloc a8 _).grown a5 Ϥ (λc hc=>(AM v.o hc).1);have a7:=ET d ⟨p,s,F,(J,K,M),E⟩;have an:(d++[(⟨p,s,F,(J,K,M),E⟩:EM)]).length=e2+1:=by rw[lAp,r.o];rfl
      go_roundw
      case rel=>exact⟨k+1,some ⟨g3,0,none⟩,c4,d++[⟨p,s,F,(J,K,M),E⟩],ϟ,by rw[an],by go_num,by rw[an,a7];exact ao,⟨a1.o,λe t=>by
       rcases mem_append.1 t with h|h
       ·exact C.o e h
       ·rw[mem_singleton.1 h];exact ag.o⟩,a2⟩
      case measure=>simp[intOf]<;>omega
     ·have D:=V.o (by rw[N.o];simp[c3]);go_wp2;go_roundw
      case rel=>exact⟨k+1,ad,cap,d,ϟ,by rw[r.o],by go_num,by rw[r.o];exact v.o,⟨D,C.o⟩,j⟩
      case measure=>simp[intOf]<;>omega
    ·have D:=V.o (by rw[N.o];simp;omega);go_wp2;go_roundw
     case rel=>exact⟨k+1,ad,cap,d,ϟ,by rw[r.o],by go_num,by rw[r.o];exact v.o,⟨D,C.o⟩,j⟩
     case measure=>simp[intOf]<;>omega
   ·have D:=V.o (by rw[N.o];simp[Y]);have ai:=PW Y;have bc:(p.toList==f.toList)=false:=by simpa using ai
    clear ai;go_wp2;go_roundw
    case rel=>exact⟨k+1,ad,cap,d,ϟ,by rw[r.o],by go_num,by rw[r.o];exact v.o,⟨D,C.o⟩,j⟩
    case measure=>simp[intOf]<;>omega
  ·have HT:ϝ (l.take k=l):=take_of_length_le (by rw[B.o.2];omega);go_wp2;go_ret;have A:=X.o;rw[HT.o]at A;exact⟨⟨ad,cap,d,l.filter (CH f a z),congrArg Ending.returned (by rw[<-A.1,r.o];rfl),Ab8 (by rw[r.o];exact v.o),A.below j,⟨ah.o.1.filter _,EU _ ah.o.2⟩,λe t g hg=>Ae (a0.o e (C.o e t) g hg) j⟩,a3⟩
theorem Aaa{d:ϛ}{C c:Nat}{x:BX}{hh:Hdr}{j:List EM}{k:List Ent}(h:PSt W C c base x b)(t:OE d base (hdV hh) j k)(i:Left W d base (hdV x.m.1))(r:∀g,(hdV hh).ownBlock=some g->(hdV x.m.1).ownBlock=some g\/W.heap.size<=g)(s:Below base W d):
 PSt (φ d c 1 (hdV hh)) C c base ⟨x.ra,x.rc,(hh,j),x.rs⟩ ⟨b.lim,k,b.runs⟩/\Below base W (φ d c 1 (hdV hh))/\Δ d c 1 (hdV x.m.1)/\Ξ d c 1:=by
 obtain⟨f,n⟩:=Ij h i.size i.blk;have q:OB d base ⟨x.ra,x.rc,(hh,j),x.rs⟩ ⟨b.lim,k,b.runs⟩:=Ut h.k.ob t i.size i.blk r;have m:=AW h.k.ty f;have v:=(cOb (a:=⟨c,0,none⟩) f).trans h.k.c0;have l:=(cOb (a:=⟨c,1,none⟩) f).trans h.k.c1;have w:=(cOb (a:=⟨c,2,none⟩) f).trans h.k.c2;have o:=(AG (p:=⟨c,1,none⟩) f).trans h.f1;have y:=(AG (p:=⟨c,2,none⟩) f).trans h.k.f2;have z:=h.k.ne;have e:∀u,(d.setCell ⟨c,1,none⟩ u).heap[C]? =W.heap[C]? :=λu=>(heap_setCell_other _ _ _ _ ϥ).trans n;refine⟨⟨⟨Ju q m _ _,?_,World.cell?_setCell_same _ _ _ l,?_,?_,Ao m _ _,(cOb (a:=⟨C,0,none⟩) (e _)).trans h.k.r0,(cOb (a:=⟨C,1,none⟩) (e _)).trans h.k.r1,(cOb (a:=⟨C,2,none⟩) (e _)).trans h.k.r2,(AG (p:=⟨C,0,none⟩) (e _)).trans h.k.g0,(AG (p:=⟨C,1,none⟩) (e _)).trans h.k.g1,(AG (p:=⟨C,2,none⟩) (e _)).trans h.k.g2,AW h.k.rt (e _),h.k.ne,h.k.up⟩,?_⟩,?_,l,o⟩
 ·dsimp only;go_simp
 ·dsimp only;go_simp
 ·go_simp
 ·go_simp
 ·have:=h.k.up;exact s.setCell ϥ _
theorem XU(e:EM)(w:ϛ):η 94 #[e.val] w (θ w (.bool true)):=by
 obtain⟨f,i,h,⟨a,c,d⟩,g⟩:=e;unfold EM.val hdV;dsimp only;go_enter func94,ntmps94;go_wp2;go_ret;refine⟨rfl,?_⟩
 repeat (first|exact bR|(refine Below.alloc ?_ Ϧ _))
theorem IL(b:Buf)(x:BX)(w:ϛ)(h:bufAt w b x)(ok:okB b):
 η 93 #[AF b x,.func (.func 94) #[] #[]] w λe c=>(∃d,e= .returned (AF b d)/\OB c w d b)/\Ϟ w c:=by
 have a:=ok.small;have k:=Qp 94 (enters_of func94 Ϣ rfl) #[] (λ_=>true) b x w h a.1 a.2.1 ok.size.2 (λe y f _ _ _=>XU e f);rw[F9 ok]at k;exact k
theorem Ab9{m:Nat}(c:W.heap.size=m)(a:Value)(h:a.oneCell'=true)(t:TypeId):∀j u,[a][j]? =some u->(W.alloc (.cells #[a] t)).cell? ((⟨m,0,none⟩:Addr).add j)=some u:=by
 subst c;exact cell_one_new _ _ h _
theorem Aab(b:Buf)(x:BX)(e:EM)(y:Ent)(w:ϛ)(h:bufAt w b x)(ok:okB b)(hr:ER w e y)(bh:y.row.length<=2000000)(hh:hasB (Aa b) (Az y)=false):
 η 104 #[AF b x,e.val] w λr M=>(∃x' a,r= .returned (AF (FA b a) x')/\a.Perm (b.mem++[y])/\Dh a/\OB M w x' (FA b a))/\Ϟ w M:=by
 have N:=hIz (λ(i:ϛ) (hb:Ϟ w i)=>IL b x i (Ag h hb) ok);have ai:hasB b.mem (Az y)=false:=by
  rw[C3,Mm]at hh;simpa using(Bool.or_eq_false_iff.1 hh).1
 have av:=ok.small;have ba:=av.1 b.mem (mem_cons_self ..);have b4:=av.2.1;have bg:Dh b.mem:=ok.rises (mem_cons_self ..);have KI:ϝ (∀base t R G i,base=w.heap.size+1+1->OE i base (vS t G.length R) G b.mem->Ϟ w i->CT 46 #[vS t G.length R,e.val] i λr M=>(∃(hh:Hdr) (S:List EM) (a:List Ent),r= .returned (.tuple #[hdV hh,.bool true])/\OE M base (hdV hh) S a/\a.Perm (b.mem++[y])/\Dh a/\(∀g,(hdV hh).ownBlock=some g->(Value.slice t G.length R).ownBlock=some g\/i.heap.size<=g))/\Below base i M/\Left i M base (vS t G.length R)):=λbase t R G i cg aj hb=>
  (KT base t R G b.mem e y i aj (λd j=>hr.below (hb.trans (j.mono ϟ))) bg ba bh).mono (λr M ⟨⟨hh,S,a,h1,h2,_,h4,h5⟩,h6,h7⟩=>⟨⟨hh,S,a,by rw[h1,ai];rfl,h2,(h4 ai).1.trans (perm_append_singleton y b.mem).symm,(h4 ai).2,h5⟩,h6,h7⟩)
 have bx:=ok.all;have ax:ϝ (∀a,FA b a=if b.lim<(a.length:Int)then⟨b.lim,[],b.runs++[a]⟩else⟨b.lim,a,b.runs⟩):=λa=>rfl;clear h ok hr bh hh ai av bg bx;obtain⟨E,I,H,⟨J,K,L⟩,F⟩:=e;rw[show EM.val ⟨E,I,H,(J,K,L),F⟩= .agg (ζ E I H J K L F)from rfl]at KI⊢;obtain⟨BV,ap⟩:=nM (AF b x);have bv:BV= .agg #[vI b.lim,hdV x.m.1,vS x.ra x.rs.length x.rc]:=by rw[<-ap];rfl
 rw[ap]at N⊢;clear ap;subst bv;obtain⟨⟨X,Y,Z⟩,hm⟩:∃z,x.m.1=z:=⟨_,rfl⟩;rw[hm]at N⊢;rw[show hdV (X,Y,Z)=vS X Y Z from rfl]at N⊢;obtain⟨ra,bd⟩:=nM x.ra;obtain⟨rc,be⟩:=nM x.rc;obtain⟨n,hn⟩:=nM x.rs.length;rw[bd,be,hn]at N⊢;obtain⟨q,ah⟩:=nM b.lim;rw[ah]at N⊢;clear bd be hn hm;have s:=hV0 ah;clear ah;have a4:Ϟ w (ξ (ξ (ξ w (ν q X Y Z ra n rc) 29) (ζ E I H J K L F) 63) #[ω,ψ,ψ] 29):=by
  repeat (first|exact bR|(refine Below.alloc ?_ Ϧ _))
 have al:=EZ (ξ (ξ w (ν q X Y Z ra n rc) 29) (ζ E I H J K L F) 63);rw[World.size_alloc,World.size_alloc]at al;have bp:ϝ (nbAt (ξ (ξ (ξ w (ν q X Y Z ra n rc) 29) (ζ E I H J K L F) 63) #[ω,ψ,ψ] 29) (w.heap.size+1+1)):=al;clear al;have cf:(((w.alloc (.cells (ν q X Y Z ra n rc) 29)).alloc (.cells (ζ E I H J K L F) 63)).alloc (.cells #[ω,ψ,ψ] 29)).heap.size=w.heap.size+1+1+1:=ϡ;go_enter func104,ntmps104;go_wp2_with fail;refine(N.o _ a4).mono ?_;rintro e d ⟨⟨x',rfl,V⟩,j⟩;obtain⟨A,B,⟨⟨P,a2,Q⟩,l⟩,C⟩:=x';have bw:a2=l.length:=by
  obtain⟨t,cp,hf⟩:=V.mem.form;unfold hdV at hf;injection hf
 subst bw;rw[show AF b ⟨A,B,((P,l.length,Q),l),C⟩= .agg #[vI b.lim,vS P l.length Q,vS A C.length B]from rfl,s.o];have bn:=BW j bp.o;have O:=ZI bn (A5 V (base':=w.heap.size+1+1) ϟ) nR;unfold hdV at O;dsimp only at O;rw[s.o]at O;have b5:C.length<=100000:=by rw[V.rlen];exact b4
 have b2:l.length<=100000:=by rw[V.mem.len];exact ba
 have bo:ϝ (l.length=b.mem.length):=V.mem.len;have d0:Δ d (w+1) 0 (.string E):=cLz j ϣ;have d1:Δ d (w+1) 1 (vI I):=cLz j ϣ;have d2:Δ d (w+1) 2 (vI H):=cLz j ϣ;have d3:Δ d (w+1) 3 (vS J K L):=cLz j ϣ;have d4:Δ d (w+1) 4 (.bool F):=cLz j ϣ;have a7:Ϟ w d:=bT a4 j;obtain⟨m,U⟩:=nM l.length;have ak:=hV0 U;obtain⟨rn,ae⟩:=nM C.length;have o:=hV0 ae;rw[U,ae]at O;have f:ϝ (PSt (ξ d (ν q P m Q A rn B) 29) (w.heap.size+1+1) d.heap.size (w.heap.size+1+1) ⟨A,B,((P,l.length,Q),l),C⟩ b):=by rw[U];exact O
 rw[U]at b2;rw[ae]at b5;rw[U,ae];have a6:Ϟ w (ξ d (ν q P m Q A rn B) 29):=a7.alloc a7.size _;have cl:w.heap.size+1<d.heap.size:=bLt _ _ d0;clear V j O bn U ae;go_wp2_with fail;have aj:=f.o.k.ob.mem;have KX:=KI.o _ P Q l _ rfl aj a6;rw[ak.o]at KX;refine KX.mono ?_;rintro e w3 ⟨⟨⟨t1,t2,t3⟩,S,a,rfl,ab,au,bc,aq⟩,bz,ag⟩;have bi:t2=a.length:=by
  obtain⟨t,cp,hf⟩:=ab.form;unfold hdV at hf;injection hf with _ e2 _
  exact Eq.trans e2 ab.len
 have ar:a.length=m+1:=by rw[au.length_eq,lAp,<-bo.o,ak.o];rfl
 rw[bi,ar]at ab aq⊢;clear bi;have af:=f.o;rw[ak.o]at af;obtain⟨P2,B2,q1,cm⟩:=Aaa af ab ag aq bz;obtain⟨eN,D⟩:=Ij af ag.size ag.blk;have q0:=(C2 eN 0).trans f.o.k.c0;have q2:=(C2 eN 2).trans f.o.k.c2;have cn:=(Df eN 2).trans f.o.k.f2;have r0:=(C2 D 0).trans f.o.k.r0;have b7:=(C2 D 1).trans f.o.k.r1;have b8:=(C2 D 2).trans f.o.k.r2;have g0:=(Df D 0).trans f.o.k.g0;have g1:=(Df D 1).trans f.o.k.g1;have g2:=(Df D 2).trans f.o.k.g2;have b3:=f.o.k.ne;unfold hdV at q1 P2 B2⊢;dsimp only at q0 q1 q2 P2 B2⊢;rw[s.o]at q0;rw[o.o]at q2;have c:ϝ _:=P2;have a5:Ϟ w (φ w3 d 1 (vS t1 (m+1) t3)):=a6.trans (B2.mono ϟ);have aw:=hV0 ar;have ck:d.heap.size<w3.heap.size:=bLt _ _ q0;have cj:w.heap.size+1+1<w3.heap.size:=bLt _ _ r0;clear ar ab aq ag P2 aj KX eN D af;by_cases ah:q<(m:Int)+1
 ·have ac:FA b a=⟨b.lim,[],b.runs++[a]⟩:=by rw[ax.o,if_pos (by rw[aw.o,s.o];push_cast;omega)]
  have ay:=hV0 ac;obtain⟨i0,a9,bj,bk,bm⟩:=info_parts VH;have HI:ϝ (Tryz.prog.info? 26=some i0/\i0.zero=some (vS none 0 0)/\i0.size=1/\i0.bytes=24):=⟨a9,bj,bk,bm⟩;have bq:ϝ ((w3.setCell ⟨d,1,none⟩ (vS t1 (m+1) t3)).ownsRow (w.heap.size+1+1) 26 1 (vS A rn B) rn (C.map λp=>hdV p.1)):=by
   have k:=c.o.k.ob.hds;dsimp only at k;rw[o.o]at k;exact k
  clear a9 bj bk bm ac;go_wp2_with (at_builtin;refine wpList_append_own _ rfl (.tmp 23) (.tmp 26) 27 rfl (w.heap.size+1+1) 26 i0 (vS none 0 0) 1 24 underlying27 HI.o.1 HI.o.2.1 HI.o.2.2.1 HI.o.2.2.2 rfl Ϡ _ _ _ rfl (World.ownsRow.alloc bq.o _) ⟨w3,0,none⟩ 1 1 [vS t1 (m+1) t3] rfl rfl (Ab9 (by simp[World.setCell]) _ rfl _) (by intro u hu;simp at hu;rcases hu with rfl;rfl) ϩ ϟ Ϥ ?_;intro co cq bb a8 ci;obtain⟨ao,an,b6⟩:=Fa bb;subst b6;have b1:=Nt c.o (by dsimp only;rw[o.o];exact a8);obtain⟨_,fN,T,_⟩:=b1;have az:=(C2 fN 0).trans c.o.k.c0;have am:=(C2 fN 1).trans c.o.k.c1;have a0:=(C2 fN 2).trans c.o.k.c2;dsimp only at az am a0;rw[s.o]at az;rw[o.o]at a0;have b9:=(Df fN 1).trans c.o.f1;have ca:=(Df fN 2).trans c.o.k.f2;have br:=(C2 T 0).trans c.o.k.r0;have bs:=(C2 T 1).trans c.o.k.r1;have bu:=(C2 T 2).trans c.o.k.r2;have cb:=(Df T 0).trans c.o.k.g0;have cc:=(Df T 1).trans c.o.k.g1;have cd:=(Df T 2).trans c.o.k.g2;unfold hdV at am;dsimp only at am);have aa:=Sg (g:=ao) (cap2:=an) c.o (by dsimp only;rw[o.o];exact bb) (by dsimp only;rw[o.o];exact a8);dsimp only at aa;rw[o.o]at aa;have b0:=a5.trans (aa.2.mono (show w.heap.size<=w.heap.size+1+1 by omega));refine bodyPost_ret (v:=.agg #[vI q,ψ,vS (τ ao) (rn+1) an]) (by simp[results,results104,go_sem,br,bs,bu,b3]) rfl ⟨⟨⟨some ⟨ao,0,none⟩,an,((none,0,0),[]),C++[((t1,m+1,t3),S)]⟩,a,?_,au,bc,?_⟩,?_⟩
  ·rw[ay.o];unfold AF hdV;dsimp only;rw[lAp,o.o,s.o];rfl
  ·rw[ay.o];exact A5 (Gd aa.1.k.ob aa.1.k.rt _ _ _) ϟ
  ·exact((b0.setCell ϥ _).setCell ϥ _).setCell ϥ _
 ·have ac:FA b a=⟨b.lim,a,b.runs⟩:=by rw[ax.o,if_neg (by rw[aw.o,s.o];push_cast;omega)]
  go_wp2;refine bodyPost_ret (v:=.agg #[vI q,vS t1 (m+1) t3,vS A rn B]) (by simp[results,results104,go_sem,r0,b7,b8]) rfl ⟨⟨⟨A,B,((t1,m+1,t3),S),C⟩,a,?_,au,bc,?_⟩,?_⟩
  ·rw[ac];unfold AF hdV;dsimp only;rw[o.o,s.o]
  ·rw[ac];exact A5 (Gd c.o.k.ob c.o.k.rt _ _ _) ϟ
  ·exact((a5.setCell ϥ _).setCell ϥ _).setCell ϥ _
theorem Aac(e:EM)(p:Plc)(w:ϛ):
 η 154 #[e.val,.string p.1,vI p.2.1,vI p.2.2] w (θ w (.bool (decide ((e.key,e.time,e.seq)=p)))):=by
 obtain⟨d,g,f,⟨q,r,s⟩,o⟩:=e;obtain⟨h,j,i⟩:=p;unfold EM.val hdV;dsimp only;obtain⟨R,a⟩:=nM (decide ((d,g,f)=(h,j,i)));rw[a];by_cases k:d=h
 ·subst k;by_cases l:g=j
  ·subst l;by_cases m:f=i
   ·subst m;have c:ϝ (R=true):=by show R=true;rw[<-a];simp
    clear a;go_enter func154,ntmps154;go_wp2;go_ret;exact⟨Ab c.o.symm,Ϫ⟩
   ·have c:ϝ (R=false):=by show R=false;rw[<-a];simp[m]
    have v:(f==i)=false:=by simpa using m
    clear a;go_enter func154,ntmps154;go_wp2;go_ret;exact⟨Ab c.o.symm,Ϫ⟩
  ·have c:ϝ (R=false):=by show R=false;rw[<-a];simp[l]
   have u:(g==j)=false:=by simpa using l
   clear a;go_enter func154,ntmps154;go_wp2;go_ret;exact⟨Ab c.o.symm,Ϫ⟩
 ·have c:ϝ (R=false):=by show R=false;rw[<-a];simp[k]
  have n:=PW k;have t:(d.toList==h.toList)=false:=by simpa using n
  clear a n;go_enter func154,ntmps154;go_wp2;go_ret;exact⟨Ab c.o.symm,Ϫ⟩
theorem XV(b:Buf)(x:BX)(p:Plc)(w:ϛ)(h:bufAt w b x)(ok:okB b):
 η 103 #[AF b x,.string p.1,vI p.2.1,vI p.2.2] w λr w'=>(∃x',r= .returned (AF (D9 p b) x')/\OB w' w x' (D9 p b))/\Ϟ w w':=by
 have KO:=hIz (λ(w1:ϛ) (hb:Ϟ w w1)=>IL b x w1 (Ag h hb) ok);have F:=ok.small;have bd:ϝ (∀i,i<(partsB b).length->((partsB b).getD i []).length<=100000):=λi hi=>by
  have:=F.1 ((partsB b).getD i []) (by rw[gDe,gEe hi];exact getElem_mem hi);omega
 have bo:ϝ (b.runs.length<=100000):=F.2.1;clear h ok F;obtain⟨E,bh⟩:=nM b.lim;have ax:∀ra rc m1 m2 m3 ml rs,AF b ⟨ra,rc,((m1,m2,m3),ml),rs⟩= .agg #[vI E,vS m1 m2 m3,vS ra rs.length rc]:=λ_ _ _ _ _ _ _=>by rw[<-bh];rfl
 have a6:=hV0 ax;obtain⟨ra,rc,⟨⟨m1,m2,m3⟩,ml⟩,rs⟩:=x;rw[ax]at KO⊢;obtain⟨d,l,f⟩:=p;dsimp only;obtain⟨n,hn⟩:∃n,rs.length=n:=⟨_,rfl⟩;rw[hn]at KO⊢;clear hn ax bh;have av:Ϟ w (ξ (ξ w (ν E m1 m2 m3 ra n rc) 29) #[ω,ψ,ψ] 29):=by
  repeat (first|exact bR|(refine Below.alloc ?_ Ϧ _))
 have aq:=EZ (ξ w (ν E m1 m2 m3 ra n rc) 29);rw[World.size_alloc]at aq;have ba:ϝ (nbAt (ξ (ξ w (ν E m1 m2 m3 ra n rc) 29) #[ω,ψ,ψ] 29) (w.heap.size+1)):=aq;clear aq;go_enter func103,ntmps103;go_wp2_with (go_at_call 93;refine(KO.o _ av).mono ?_;rintro e m ⟨⟨x',rfl,bj⟩,aw⟩;have bc:ϝ (OB m (w.heap.size+1+1) x' b):=(by have:=bj;simp only[World.size_alloc]at this;exact this);have bv:ϝ (x'=x'):=rfl;obtain⟨⟨A,B,⟨⟨s,t,u⟩,ak⟩,G⟩,b1⟩:∃z,x'=z:=⟨_,rfl⟩;subst b1;rw[a6.o];obtain⟨N,hN⟩:=nM G.length;have R:ϝ (G.length=N):=hN;rw[hN];clear hN bj;have b0:Ϟ w m:=bT av aw;have bb:ϝ (nbAt m (w.heap.size+1)):=BW aw ba.o);have v0:Δ (ξ m (ν E s t u A N B) 29) m 0 (vI E):=ϣ;have v1:Δ (ξ m (ν E s t u A N B) 29) m 1 (vS s t u):=ϣ;have v2:Δ (ξ m (ν E s t u A N B) 29) m 2 (vS A N B):=ϣ;have V8:Ϟ m (ξ m (ν E s t u A N B) 29):=Ϫ;have T1:An (ξ m (ν E s t u A N B) 29) m.heap.size 29:=⟨_,_,World.alloc_heap_new m _⟩;generalize (m.alloc (.cells (ν E s t u A N B) 29))=V at *;have bu:ϝ (Ϟ w V):=bT b0 V8;have ao:ϝ (OB V (w.heap.size+1+1) ⟨A,B,((s,t,u),ak),G⟩ b):=bc.o.below V8;have bq:ϝ (nbAt V (w.heap.size+1)):=BW V8 bb.o;have J:ϝ (names notE V m.heap.size):=M4 T1 Ϡ;obtain⟨a,ai⟩:=nM (partsB b);have bs:=hV0 ai;have ap:ϝ (a.length=N+1):=by show _=_;rw[<-ai,<-R.o];simp[partsB,ao.o.rlen]
 have b3:N<=100000:=by have T:=bo.o;have h2:=ao.o.rlen;rw[<-h2]at T;dsimp only at T;rw[R.o]at T;exact T
 rw[ai]at bd;have be:ϝ (MSt w V V (w.heap.size+1+1) ((((s,t,u),ak)::G).map (·.1)) (vS A G.length B) G.length (G.map λq=>hdV q.1) (DG (d,l,f) a 0)):=by
  show MSt _ _ _ _ _ _ _ _ _;rw[<-ai];exact Xf ao.o bu.o
 obtain⟨y,am⟩:∃z:List Hdr,((((s,t,u),ak)::G).map (·.1))=z:=⟨_,rfl⟩;have al:=hV0 am;obtain⟨O,ar⟩:∃z:Value,vS A G.length B=z:=⟨_,rfl⟩;have a7:=hV0 ar;obtain⟨P,au⟩:∃z:List Value,(G.map λq=>hdV q.1)=z:=⟨_,rfl⟩;have a8:=hV0 au;have a9:ϝ (y.length=N+1):=by show _=_;rw[<-am,<-R.o];simp
 have af:ϝ (a.length=y.length):=by show _=_;rw[ap.o,a9.o]
 rw[am,ar,au,R.o]at be;clear ai am ar au T1 V8 bb bc aw KO ba av bv
 go_loopw [10,11,12] (λii _ _ wr=> ∃k:Nat,k<=N+1/\ii=vI ((k:Int) - 1)/\MSt w V wr (w.heap.size+1+1) y O N P (DG (d,l,f) a k)) (λii _ _ _=>N+1 - (intOf ii+1).toNat)
 case atStart=>exact⟨0,Nat.zero_le _,rfl,be.o⟩
 case round=>
  obtain⟨k,hk,rfl,H⟩:=hrel;have ah:=hV0 H;have c0:=H.ko.cell J.o v0;have c1:=H.ko.cell J.o v1;have c2:=H.ko.cell J.o v2;by_cases bi:k<N+1
  ·have U:ϝ (k<y.length):=by show _<_;rw[a9.o];exact bi
   have Z:ϝ (k<a.length):=by show _<_;rw[ap.o];exact bi
   have I:=H.hlen U.o af.o;have bk:=bd.o k Z.o
   cases k with
   |zero=>
    have S:ϝ (y.getD 0 hd0=(s,t,u)):=by show _=_;rw[<-al.o];rfl
    rw[S.o]at I;dsimp only at I;obtain⟨pl,C⟩:=nM ((a.getD 0 []).length);have K:=hV0 C;rw[C]at I bk;have a5:=I.symm;subst a5;clear I;obtain⟨o,ab⟩:∃z:Nat,0=z:=⟨_,rfl⟩;rw[ab]at K S ah U Z;have aa:ϝ (o=0):=ab.symm;have F:((0:Nat):Int) - 1= -1:=ϟ;have i6:(-1:Int)<(N:Int):=ϟ;clear C H ab;rw[F];clear F;go_wp2
    go_loopw [12] (λkk wq=> ∃j:Nat,kk=vI j/\j<=pl/\MSt w V wq (w.heap.size+1+1) y O N P (Fq (d,l,f) a o j)) (λkk _=>pl - (intOf kk).toNat)
    case atStart=>exact⟨0,rfl,Nat.zero_le _,by rw[OU Z.o];exact ah.o⟩
    case round=>
     obtain⟨j,rfl,hj,c⟩:=hrel;have ag:=hV0 c;have c0:=c.ko.cell J.o v0;have c1:=c.ko.cell J.o v1;have c2:=c.ko.cell J.o v2;by_cases a4:j<pl
     ·have ae:j<(a.getD o []).length:=by rw[K.o];exact a4
      obtain⟨g,e,hg,x1,x2,x3,x4,x5,x6,C⟩:=c.read U.o af.o ae;rw[S.o,K.o]at hg;injection hg with aj ad
      injection ad with ad az
      have ay:=aj.symm;subst aj;have Q:=hIz (λ(w1:ϛ)=>Aac e (d,l,f) w1);have M:ϝ (∀(X:ϛ) (v:Bool),MSt w V X (w.heap.size+1+1) y O N P (Fq (d,l,f) a o j)->Δ X g (j * 5+4) (.bool e.met)->v=(e.met||decide ((e.key,e.time,e.seq)=(d,l,f)))->MSt w V (φ X g (j * 5+4) (.bool v)) (w.heap.size+1+1) y O N P (Fq (d,l,f) a o (j+1))):=λX v T h2 h3=>T.put ϟ U.o af.o ae (by rw[S.o]) h2 (by rw[C];exact h3);obtain⟨⟨ek,et,es,⟨r1,r2,r3⟩,em⟩,he⟩:∃z,e=z:=⟨_,rfl⟩;subst he;unfold EM.val hdV at Q;unfold hdV at x4;dsimp only at Q M x1 x2 x3 x4 x5 x6;obtain⟨D,hD⟩:=nM (decide ((ek,et,es)=(d,l,f)));rw[hD]at Q M;have lg:g<wr.heap.size:=bLt _ _ x1;have i1:(0:Int)<=(j:Int):=ϟ;have i2:(j:Int)<(pl:Int):=ϟ;clear hD C c ay ad az ae
      cases em with
      |true=>
       go_wp2;go_roundw
       case rel=>exact⟨j+1,by go_num,ϟ,M.o wr true ag.o x5 rfl⟩
       case measure=>simp[intOf]<;>omega
      |false=>
       go_wp2_with (go_at_call 154;refine(Q.o _).mono ?_;rintro e w3 ⟨rfl,ac⟩;have y5:=cLz ac x5;have y6:Ξ w3 g (j * 5+4):=(by rw[ac.frozen (p:=⟨g,j * 5+4,none⟩) lg];exact x6);have ly:g<w3.heap.size:=bLt _ _ y5);go_roundw
       case rel=>exact⟨j+1,by go_num,ϟ,M.o w3 D (ag.o.below ac) y5 ϡ⟩
       case measure=>simp[intOf]<;>omega
     ·have bx:¬((j:Int)<(pl:Int)):=ϟ;have a0:j=pl:=ϟ;have an:ϝ (MSt w V wr (w.heap.size+1+1) y O N P (DG (d,l,f) a (o+1))):=by
       show MSt _ _ _ _ _ _ _ _ _;rw[<-R8 Z.o,K.o,<-a0];exact c
      clear c;go_wp2;go_roundw
      case rel=>exact⟨o+1,(by have:=aa.o;omega),(by have:=aa.o;first|go_num|(congr 1;omega)),an.o⟩
      case measure=>
       have:=aa.o;simp[intOf]<;>omega
   |succ k=>
    obtain⟨g2,bm,x9⟩:=MSt.head (x:=⟨A,B,((s,t,u),ak),G⟩) (k:=k) (L:=DG (d,l,f) a (k+1)) (by dsimp only;rw[al.o,a7.o,a8.o,R.o];exact H) (by dsimp only;rw[R.o];omega);dsimp only at bm x9;rw[al.o]at x9;obtain⟨⟨z1,z2,z3⟩,hz⟩:∃z,y.getD (k+1) hd0=z:=⟨_,rfl⟩;have S:=hV0 hz;rw[hz]at x9 I;unfold hdV at x9;dsimp only at x9 I;obtain⟨pl,C⟩:=nM ((a.getD (k+1) []).length);have K:=hV0 C;rw[C]at I bk;have a5:=I.symm;subst a5;clear I;obtain⟨o,ab⟩:∃z:Nat,k+1=z:=⟨_,rfl⟩;rw[ab]at K S ah U Z;have bg:o=k+1:=ab.symm;have aa:=hV0 bg;have F:((k+1:Nat):Int) - 1=(k:Int):=ϟ;have i3:(0:Int)<=(k:Int):=ϟ;have i4:(k:Int)<(N:Int):=ϟ;have i5:¬((k:Int)<0):=ϟ;rw[bm]at v2 c2;rw[Nat.zero_add]at x9;have b5:g2<wr.heap.size:=bLt _ _ x9;clear C H hz ab bg;rw[F];clear F;go_wp2
    go_loopw [12] (λkk wq=> ∃j:Nat,kk=vI j/\j<=pl/\MSt w V wq (w.heap.size+1+1) y O N P (Fq (d,l,f) a o j)) (λkk _=>pl - (intOf kk).toNat)
    case atStart=>exact⟨0,rfl,Nat.zero_le _,by rw[OU Z.o];exact ah.o⟩
    case round=>
     obtain⟨j,rfl,hj,c⟩:=hrel;have ag:=hV0 c;have c0:=c.ko.cell J.o v0;have c1:=c.ko.cell J.o v1;have c2:=c.ko.cell J.o v2;by_cases a4:j<pl
     ·have ae:j<(a.getD o []).length:=by rw[K.o];exact a4
      obtain⟨g,e,hg,x1,x2,x3,x4,x5,x6,C⟩:=c.read U.o af.o ae;rw[S.o,K.o]at hg;injection hg with aj ad
      injection ad with ad az
      have ay:=aj.symm;subst aj;have Q:=hIz (λ(w1:ϛ)=>Aac e (d,l,f) w1);have M:ϝ (∀(X:ϛ) (v:Bool),MSt w V X (w.heap.size+1+1) y O N P (Fq (d,l,f) a o j)->Δ X g (j * 5+4) (.bool e.met)->v=(e.met||decide ((e.key,e.time,e.seq)=(d,l,f)))->MSt w V (φ X g (j * 5+4) (.bool v)) (w.heap.size+1+1) y O N P (Fq (d,l,f) a o (j+1))):=λX v T h2 h3=>T.put ϟ U.o af.o ae (by rw[S.o]) h2 (by rw[C];exact h3);obtain⟨⟨ek,et,es,⟨r1,r2,r3⟩,em⟩,he⟩:∃z,e=z:=⟨_,rfl⟩;subst he;unfold EM.val hdV at Q;unfold hdV at x4;dsimp only at Q M x1 x2 x3 x4 x5 x6;obtain⟨D,hD⟩:=nM (decide ((ek,et,es)=(d,l,f)));rw[hD]at Q M;have lg:g<wr.heap.size:=bLt _ _ x1;have i1:(0:Int)<=(j:Int):=ϟ;have i2:(j:Int)<(pl:Int):=ϟ;clear hD C c ay ad az ae
      cases em with
      |true=>
       go_wp2;go_roundw
       case rel=>exact⟨j+1,by go_num,ϟ,M.o wr true ag.o x5 rfl⟩
       case measure=>simp[intOf]<;>omega
      |false=>
       go_wp2_with (go_at_call 154;refine(Q.o _).mono ?_;rintro e w3 ⟨rfl,ac⟩;have y5:=cLz ac x5;have y6:Ξ w3 g (j * 5+4):=(by rw[ac.frozen (p:=⟨g,j * 5+4,none⟩) lg];exact x6);have ly:g<w3.heap.size:=bLt _ _ y5);go_roundw
       case rel=>exact⟨j+1,by go_num,ϟ,M.o w3 D (ag.o.below ac) y5 ϡ⟩
       case measure=>simp[intOf]<;>omega
     ·have bx:¬((j:Int)<(pl:Int)):=ϟ;have a0:j=pl:=ϟ;have an:ϝ (MSt w V wr (w.heap.size+1+1) y O N P (DG (d,l,f) a (o+1))):=by
       show MSt _ _ _ _ _ _ _ _ _;rw[<-R8 Z.o,K.o,<-a0];exact c
      clear c;go_wp2;go_roundw
      case rel=>exact⟨o+1,(by have:=aa.o;omega),(by have:=aa.o;first|go_num|(congr 1;omega)),an.o⟩
      case measure=>
       have:=aa.o;simp[intOf]<;>omega
  ·have bz:k=N+1:=ϟ;subst bz;have br:=Aba bq.o H.ko;obtain⟨n0,n1,n2,o0,o1,o2,n3⟩:=br;have bp:ϝ (An wr (w+1) 29):=n3;have bw:=H.bl;have F:((N+1:Nat):Int) - 1=(N:Int):=ϟ;have b4:¬((N:Int)<(N:Int)):=ϟ;rw[F];clear F H;go_wp2;have bn:=ah.o;rw[<-ap.o,<-R.o,<-al.o,<-a7.o,<-a8.o,<-bs.o]at bn;obtain⟨b2,e1,e2⟩:=MSt.shed2 (x:=⟨A,B,((s,t,u),ak),G⟩) (Y:=(((wr.setCell ⟨w+1,0,none⟩ (vI E)).setCell ⟨w+1,1,none⟩ (vS s t u)).setCell ⟨w+1,2,none⟩ (vS A N B))) bn (by simp[World.setCell]) (TO bp.o _ _ _);refine bodyPost_ret (v:=.agg (ν E s t u A N B)) (by simp[results,results103,go_sem,n0,n1,n2]) rfl ⟨⟨b2,?_,A5 e2 ϟ⟩,((bw.setCell ϥ _).setCell ϥ _).setCell ϥ _⟩;rw[e1,a6.o,R.o]
end bf
end Go.Proofs.YtdohnkkbkfhphaaGreat
