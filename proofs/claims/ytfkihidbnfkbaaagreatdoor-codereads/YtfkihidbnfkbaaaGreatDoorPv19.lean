import Derived.Test.YtfkihidbnfkbaaaGreatDoorPv17
set_option linter.all false
set_option maxHeartbeats 8000000
set_option maxRecDepth 100000
open Inhabited renaming default->ϰ
open List renaming length->ϲ
namespace Go.Proofs.YtfkihidbnfkbaaaGreatDoor
open ChangeShapes WideShapes ChangeAt RowKit List Proofs.Tryz
namespace pl
open vl
variable {w : ϟ} {b : Nat} {x y : Int} {a : Ϡ}
def GV:Pln:=⟨1,4, -5,5,0,2,[2,2],[2,2],[0],[0],false,[],[]⟩
def Mv:wfPlan GV:=⟨by unfold i64;decide,by unfold i64;decide,Ϥ,Ϥ,Ϥ,Ϥ,Ϥ,Ϥ⟩
def Da:Ag GV=0:=Ϧ
theorem AfL(h0:Δ w b 0 (vI x)):Au w (ϋ b) [x]:=by
 intro i c
 match i,c with
 |0,_=>exact⟨b,0,rfl,h0⟩
theorem AfM(h0:Δ w b 0 (vI x))(h1:Δ w b 1 (vI y)):Au w (ϋ b) [x,y]:=by
 intro i c
 match i,c with
 |0,_=>exact⟨b,0,rfl,h0⟩
 |1,_=>exact⟨b,0,rfl,h1⟩
def AgV:Au w a []:=λi c=>absurd c (CA i)
def AgW:DK w a []:=λi c=>absurd c (CA i)
def ZB{p:Pln}{x:PA}(h1:Au w x.l p.left)(c:Au w x.r p.right)(d:Au w x.lk p.lkeys)(e:Au w x.rk p.rkeys)(f:Au w x.g p.group)(g:DK w x.a p.aggs):planAt w p x:=⟨h1,c,d,e,f,g⟩
def TL(n:Nat)(a:Option Addr):Prop:=∀y,a=some y->n<=y.block
def Ly{n o:Nat}(h:n<=b):TL n (some ⟨b,o,none⟩):=λy hy=>by cases hy;exact h
theorem Wx(w:ϟ):χ 23 #[] w λe c=>(∃x,e= .returned (Ai GV x)/\planAt c GV x/\TL w.heap.size x.l/\TL w.heap.size x.r/\TL w.heap.size x.lk/\TL w.heap.size x.rk)/\Ϣ w c:=by
 go_enter func23,ntmps23;go_wp2;exact CD (v:=.agg #[vI 1,vI 4,vI (-5),vI 5,Ϗ,vI 2,vS (ϋ (w+1)) 2 2,vS (ϋ (w+1)) 2 2,vS (ϋ (w+1+1)) 1 1,vS (ϋ (w+1+1+1)) 1 1,ϑ,ώ,ώ]) (by simp[results,results23,go_sem]) rfl
  ⟨⟨⟨some ⟨w+1,0,none⟩,2,some ⟨w+1,0,none⟩,2,some ⟨w+1+1,0,none⟩,1,some ⟨w+1+1+1,0,none⟩,1,none,0,none,0⟩,rfl,
   ZB (AfM ϧ ϧ) (AfM ϧ ϧ) (AfL ϧ) (AfL ϧ) AgV AgW,Ly (n:=w.heap.size) (b:=w.heap.size+1) ϣ,Ly (n:=w.heap.size) (b:=w.heap.size+1) ϣ,Ly (n:=w.heap.size) (b:=w.heap.size+1+1) ϣ,Ly (n:=w.heap.size) (b:=w.heap.size+1+1+1) ϣ⟩,by
   repeat (first|exact bR|apply KD|(refine KZ ?_ ϥ _)|(refine DH ?_ Ϫ _))
   ⟩
def Yc(n:Int)(w:ϟ):χ 99 #[vI n] w (ψ w (.agg #[vI 2,vI n,ϐ])):=by
 go_enter func99,ntmps99;go_wp2;exact CD (v:=.agg #[vI 2,vI n,ϐ]) (by simp[results,results99,go_sem]) rfl ⟨rfl,by repeat (first|exact bR|apply KD|(refine KZ ?_ ϥ _)|(refine DH ?_ Ϫ _))⟩
theorem Agr(h0:Δ w b 0 (vI 2))(h1:Δ w b 1 (vI x))(c:Δ w b 2 (.string ⟨#[]⟩))(d:Δ w b 3 (vI 2))(e:Δ w b 4 (vI y))(f:Δ w b 5 (.string ⟨#[]⟩)):
 vl.rowAt w (ϋ b) [⟨2,x,⟨#[]⟩⟩,⟨2,y,⟨#[]⟩⟩]:=by
 intro i g
 match i,g with
 |0,_=>exact⟨b,0,rfl,h0,h1,c⟩
 |1,_=>exact⟨b,0,rfl,d,e,f⟩
def Iu(x y:Int)(w:ϟ):χ 49 #[vI x,vI y] w λe f=>(∃c,e= .returned (vS c 2 2)/\vl.rowAt f c [⟨2,x,⟨#[]⟩⟩,⟨2,y,⟨#[]⟩⟩])/\Ϣ w f:=by
 go_enter func49,ntmps49;go_wp2_with fail;refine(Yc _ _).mono ?_;rintro e i ⟨rfl,g⟩;go_wp2_with fail;refine(Yc _ _).mono ?_;rintro e j ⟨rfl,h⟩;have d:=bT g h;go_wp2;go_ret;exact⟨⟨_,rfl,Agr ϧ ϧ ϧ ϧ ϧ ϧ⟩,d.alloc d.size _⟩
end pl
namespace bt
open vl pl
theorem Lz(d:FuncId)(S:∀D w,(callFunc d D).run prog w= .ok (.enter d D) w)(q:Array Value)(P:Nat->Bool)(a:Ϡ)(cap:Nat)(l:List ch.Cnt)(w:ϟ)(O:ϲ l<=ύ)(ha:ch.viewAt w a l)
 (H:∀i c g m,i<ϲ l->Ϣ w c->vl.rowAt c g (l.getD i ϰ).r->Calls prog d (#[vI (i:Nat),.agg #[vS g (ϲ (l.getD i ϰ).r) m,vI (l.getD i ϰ).n]]++q) c (ψ c (.bool (P i)))):
 χ 174 #[vS a (ϲ l) cap,.func (.func d) #[] q] w (ψ w (.bool (allB (ϲ l) P))):=by
 have N:ϡ (∀i c g m,i<ϲ l->Ϣ w c->vl.rowAt c g (l.getD i ϰ).r->CT d (#[vI (i:Nat),.agg #[vS g (ϲ (l.getD i ϰ).r) m,vI (l.getD i ϰ).n]]++q) c (ψ c (.bool (P i)))):=H;clear H;obtain⟨n,z⟩:∃n,ϲ l=n:=⟨_,rfl⟩;have C:=hV0 z;rw[z]at O⊢;clear z;go_enter func174,ntmps174;go_wp2
 go_loopw [9] (λi wr=> ∃k:Nat,k<=n/\i=vI k/\Ϣ w wr/\∀i,i<k->P i=true) (λi _=>n - (intOf i).toNat)
 case atStart=>exact⟨0,At _,rfl,bR,λi r=>absurd r (CA i)⟩
 case round=>
  obtain⟨k,T,rfl,f,E⟩:=hrel;have A:=hV0 E;clear E;by_cases v:k<n
  ·obtain⟨b,o,g,m,e,K,M,L⟩:=ha k (by rw[C.o];exact v);subst e;have Q:=cLz f K;have R:=cLz f L;have V:=nn0 k;have X:(k:Int)<(n:Int):=ϣ;have j:ϡ (∀c,Ϣ wr c->CT d (#[vI (k:Nat),.agg #[vS g (ϲ (l.getD k ϰ).r) m,vI (l.getD k ϰ).n]]++q) c (ψ c (.bool (P k)))):=λc F=>N.o k c g m (by rw[C.o];exact v) (bT f F) (Ac M (bT f F));clear K L M ha;obtain⟨Y,I⟩:=nM ((l.getD k ϰ).n);obtain⟨Z,J⟩:=nM (ϲ (l.getD k ϰ).r);rw[I]at R j;rw[J]at Q j;clear I J;have G:=f.size
   cases hp:P k with
   |true=>
    rw[hp]at j;go_wp2_with (go_at_fn d;refine(j.o _ Ϯ).mono ?_;rintro e c ⟨rfl,t⟩;have u:=(f.alloc G _).trans (t.mono Ϩ));go_roundw;exact⟨k+1,ϣ,by go_num,u,λi r=>by
     rcases Fm.1 r with h|h
     ·exact A.o i h
     ·rw[h];exact hp⟩
    simp[intOf];omega
   |false=>
    have s:ϡ (allB n P=false):=CK v hp;rw[hp]at j;go_wp2_with (go_at_fn d;refine(j.o _ Ϯ).mono ?_;rintro e c ⟨rfl,t⟩;have u:=(f.alloc G _).trans (t.mono Ϩ));go_ret;exact⟨Aa s.o.symm,u⟩
  ·have s:ϡ (allB n P=true):=AA.2 (λi r=>A.o i ϣ);go_wp2;go_ret;exact⟨Aa s.o.symm,f⟩
def AeF(i m:Int)(k g:Ϡ)(d l c h e:Nat)(w:ϟ)(j:Δ w e 0 (vS g c h)):
 χ 175 #[vI i,.agg #[vS k d l,vI m],ω e] w (ψ w (.bool (decide (d=c)))):=by
 have n:e<w.heap.size:=bLt _ _ j;have f:ϡ (((d:Int)==(c:Int))=decide (d=c)):=by
  show((d:Int)==(c:Int))=_;rw[PJ];simp;omega
 go_enter func175,ntmps175;go_wp2;go_ret;exact⟨Aa f.o,Ϯ⟩
theorem AeG(i m:Int)(k f:Ϡ)(z n d:Nat)(r:List Cel)(c:List Int)(w:ϟ)(q:Δ w d 0 (vS f (ϲ c) n))(u:vl.rowAt w k r)(v:ϲ r<=ύ)(t:Au w f c)(s:ϲ c<=ύ):
 χ 176 #[vI i,.agg #[vS k (ϲ r) z,vI m],ω d] w (ψ w (.bool (BQ r c))):=by
 have D:d<w.heap.size:=bLt _ _ q;have K:=hIz (λ(l:ϟ) (o:Ϣ w l)=>Mx k f z n r c l v s (Ac u o) (Al t o));obtain⟨E,g⟩:=nM (ϲ r);obtain⟨C,h⟩:=nM (ϲ c);obtain⟨F,j⟩:=nM (BQ r c);rw[g,h,j]at K;rw[h]at q;rw[g,j];clear g h j u t v s;go_enter func176,ntmps176;go_wp2_with (go_at_call 177;refine(K.o _ Ϯ).mono ?_;rintro e l ⟨rfl,A⟩);go_ret;exact⟨rfl,Ϯ.trans (A.mono ϥ)⟩
def OJ(cs:List Int)(v:List ch.Cnt):Bool:=allB (ϲ v) (λi=>decide (ϲ (v.getD i ϰ).r=ϲ cs))
def ZC(cs:List Int)(v:List ch.Cnt):Bool:=allB (ϲ v) (λi=>BQ (v.getD i ϰ).r cs)
def Ej(cs:List Int)(v:List ch.Cnt):Int:=if OJ cs v=false then 2 else if ZC cs v=false then 5 else 0
theorem Kc(a h:Ϡ)(l j:Nat)(v:List ch.Cnt)(c:List Int)(w:ϟ)(D:ϲ v<=ύ)(F:ch.viewAt w a v)(Q:ch.BK v)(L:Au w h c)(K:ϲ c<=ύ):
 χ 106 #[vS a (ϲ v) l,vS h (ϲ c) j] w (ψ w (vI (Ej c v))):=by
 have t:ϡ (∀f d,Ϣ w d->Δ d f 0 (vS h (ϲ c) j)->CT 174 #[vS a (ϲ v) l,.func (.func 175) #[] #[ω f]] d (ψ d (.bool (OJ c v)))):=λf d r A=>
  Lz 175 (IB func175 Ϧ rfl) #[ω f] (λi=>decide (ϲ (v.getD i ϰ).r=ϲ c)) a l v d D (ch.Bp F r) (λi I G H M s O=>AeF i _ G h _ H _ j f I (cLz s A))
 have u:ϡ (∀f d,Ϣ w d->Δ d f 0 (vS h (ϲ c) j)->CT 174 #[vS a (ϲ v) l,.func (.func 176) #[] #[ω f]] d (ψ d (.bool (ZC c v)))):=λf d r A=>
  Lz 176 (IB func176 Ϧ rfl) #[ω f] (λi=>BQ (v.getD i ϰ).r c) a l v d D (ch.Bp F r) (λi I G H M s O=>AeG i _ G h H j f _ _ I (cLz s A) O (ch.Ir Q i M).2.1 (Al (Al L r) s) K)
 have g:ϡ (Ej c v=if OJ c v=false then 2 else if ZC c v=false then 5 else 0):=rfl;obtain⟨q,m⟩:=nM (Ej c v);obtain⟨V,N⟩:=nM (OJ c v);obtain⟨R,P⟩:=nM (ZC c v);obtain⟨S,C⟩:=nM (ϲ c);obtain⟨Y,E⟩:∃n,ϲ v=n:=⟨_,rfl⟩;rw[m]at g⊢;rw[N]at t g;rw[P]at u g;rw[C,E]at t u;rw[C,E];clear m N P C E D F Q L K;go_enter func106,ntmps106;go_wp2_with fail;refine(t.o _ _ Ϯ ϧ).mono ?_;rintro e w4 ⟨rfl,J⟩;have z:=Ϯ.trans (J.mono ϥ);have X:Δ w4 w 0 (vS h S j):=cLz J ϧ
 cases V with
 |false=>
  have k:ϡ (q=2):=by rw[g.o];show(if _ then _ else _)=_;simp
  clear g;go_wp2;go_ret;exact⟨Ad k.o.symm,z⟩
 |true=>
  have o:ϡ (q=if R=false then 5 else 0):=by rw[g.o];show(if _ then _ else _)=_;simp
  clear g;go_wp2_with fail;refine(u.o _ _ z X).mono ?_;rintro e Z ⟨rfl,T⟩;have m:=bT z T
  cases R with
  |false=>
   have k:ϡ (q=5):=by rw[o.o];show(if _ then _ else _)=_;simp
   clear o;go_wp2;go_ret;exact⟨Ad k.o.symm,m⟩
  |true=>
   have k:ϡ (q=0):=by rw[o.o];show(if _ then _ else _)=_;simp
   clear o;go_wp2;go_ret;exact⟨Ad k.o.symm,m⟩
end bt
namespace jn
open vl
variable {U W : ϟ} {B b : Nat}
structure Eng where
 j:Jn
 v:List ch.Cnt
structure EX where
 y:JX
 va:Option Addr
 vc:Nat
def enV(e:Eng)(x:EX):Value:=.agg (ζ e.j x.y.l x.y.r [ώ,vS x.va (ϲ e.v) x.vc])
structure enAt(w:World)(e:Eng)(x:EX):Prop where
 j:joinAt w e.j x.y
 v:ch.viewAt w x.va e.v
def enAt.below{w w':ϟ}{e:Eng}{x:EX}(h:enAt w e x)(c:Ϣ w w'):enAt w' e x:=⟨h.j.below c,ch.Bp h.v c⟩
structure wfEn(e:Eng):Prop where
 j:wfJ e.j
 v:ch.BK e.v
 n:ϲ e.v<=ύ
noncomputable def En(p:pl.Pln)(e:Eng):Int:=if AV p e.j≠0 then AV p e.j else if ch.Av e.v≠0 then ch.Av e.v else bt.Ej (pl.Cc p) e.v
def Ek(U:World)(b:Nat)(e:Eng)(x:EX):Prop:=Δ U b 0 (vI e.j.L.lim)/\Δ U b 1 (vS x.y.l.m.1.1 x.y.l.m.1.2.1 x.y.l.m.1.2.2)/\Δ U b 2 (vS x.y.l.ra (ϲ x.y.l.rs) x.y.l.rc)/\Δ U b 3 (vI e.j.R.lim)/\Δ U b 4 (vS x.y.r.m.1.1 x.y.r.m.1.2.1 x.y.r.m.1.2.2)/\Δ U b 5 (vS x.y.r.ra (ϲ x.y.r.rs) x.y.r.rc)/\Δ U b 6 (vI e.j.lm)/\Δ U b 7 (vI e.j.rm)/\Δ U b 8 (vI e.j.seq)/\Δ U b 9 (vS none 0 0)/\Δ U b 10 (vS x.va (ϲ e.v) x.vc)
def F7(w:ϟ)(e:Eng)(x:EX)(t:TypeId):Ek (ϊ w (ζ e.j x.y.l x.y.r [ώ,vS x.va (ϲ e.v) x.vc]) t) w.heap.size e x:=by
 unfold Ek;refine⟨?_,?_,?_,?_,?_,?_,?_,?_,?_,?_,?_⟩<;>go_simp
def B5{d:ϟ}{e:Eng}{x:EX}(h:Ek U b e x)(c:Ϣ U d):Ek d b e x:=by
 obtain⟨f,g,j,k,l,m,n,o,q,r,i⟩:=h;exact⟨cLz c f,cLz c g,cLz c j,cLz c k,cLz c l,cLz c m,cLz c n,cLz c o,cLz c q,cLz c r,cLz c i⟩
def TN{e:Eng}{x:EX}(h:Ek U b e x):b<U.heap.size:=bLt _ _ h.1
def GJ(W:World)(B:Nat):Prop:=W.there B 0 11
theorem Jb(w:ϟ):GJ (ϊ w #[Ϗ,ώ,ώ,Ϗ,ώ,ώ,Ϗ,Ϗ,Ϗ,ώ,ώ] 42) w.heap.size:=by
 intro j c
 match j,c with
 |0,_=>exact⟨ϧ,ϧ⟩
 |1,_=>exact⟨ϧ,ϧ⟩
 |2,_=>exact⟨ϧ,ϧ⟩
 |3,_=>exact⟨ϧ,ϧ⟩
 |4,_=>exact⟨ϧ,ϧ⟩
 |5,_=>exact⟨ϧ,ϧ⟩
 |6,_=>exact⟨ϧ,ϧ⟩
 |7,_=>exact⟨ϧ,ϧ⟩
 |8,_=>exact⟨ϧ,ϧ⟩
 |9,_=>exact⟨ϧ,ϧ⟩
 |10,_=>exact⟨ϧ,ϧ⟩
def Ca{c:ϟ}(h:GJ W B)(d:Ϣ W c):GJ c B:=Ci h d
def AeH(h:GJ W B):B<W.heap.size:=Tl h Ϥ
def Kr:(prog.info? 42).map (·.size)=some 11:=Ϧ
def Gs(h:GJ W B){l:List Value}(c:ϲ l=11):(W.setCells B 0 l).rangeAt B 0 l:=Wf W B 0 l (by rw[c];exact h)
def e0:Eng:=⟨j0,[]⟩
def ex0:EX:=⟨jx0,none,0⟩
def FQ(e:Eng)(x:EX):enV e x= .agg (ζ e.j x.y.l x.y.r [ώ,vS x.va (ϲ e.v) x.vc]):=rfl
end jn
def μ(e:jn.Eng)(x:jn.EX):Mmz ([.int .i64 e.j.L.lim,.slice x.y.l.m.1.1 x.y.l.m.1.2.1 x.y.l.m.1.2.2,.slice x.y.l.ra (ϲ x.y.l.rs) x.y.l.rc,.int .i64 e.j.R.lim,.slice x.y.r.m.1.1 x.y.r.m.1.2.1 x.y.r.m.1.2.2,.slice x.y.r.ra (ϲ x.y.r.rs) x.y.r.rc,.int .i64 e.j.lm,.int .i64 e.j.rm,.int .i64 e.j.seq,.slice none 0 0,.slice x.va (ϲ e.v) x.vc]:List Value):=⟨⟩
def ξ(e:jn.Eng)(x:jn.EX):Mmz (#[.int .i64 e.j.L.lim,.slice x.y.l.m.1.1 x.y.l.m.1.2.1 x.y.l.m.1.2.2,.slice x.y.l.ra (ϲ x.y.l.rs) x.y.l.rc,.int .i64 e.j.R.lim,.slice x.y.r.m.1.1 x.y.r.m.1.2.1 x.y.r.m.1.2.2,.slice x.y.r.ra (ϲ x.y.r.rs) x.y.r.rc,.int .i64 e.j.lm,.int .i64 e.j.rm,.int .i64 e.j.seq,.slice none 0 0,.slice x.va (ϲ e.v) x.vc]:Array Value):=⟨⟩
namespace bt
open vl pl
variable {p : Pln}
def RY{v:List ch.Cnt}(h:ch.Av v=0):ch.EG v:=by
 unfold ch.Av at h;split at h
 ·cases h
 ·split at h
  ·rename_i c;exact c
  ·cases h
def J9(h:Ag p=0)(d:p.grouped=true):ϲ p.group+ϲ p.aggs<=8/\1<=ϲ p.aggs/\(ϲ p.aggs)<=4:=by
 have c:=(Bt h).2.2.1.2;rw[AE d]at c;exact⟨c.2,c.1.1,c.1.2⟩
def TO(h:Ag p=0):∀x∈p.group,0<=x/\x<(ϲ (A5 p):Int):=(Bt h).2.2.2.2.2.2.1.1
def Yd(h:Ag p=0){a:Int×Int}(ha:a∈p.aggs):0<=a.2/\a.2.toNat<ϲ (A5 p):=by
 have c:=(Bt h).2.2.2.2.2.2.2 a ha;have d:1<=ϲ p.left:=(Bt h).2.2.1.1.1.1;have e:ϲ (A5 p)=ϲ p.left+ϲ p.right:=by unfold A5;rw[lAp]
 unfold CR at c;split at c
 ·rw[c];exact⟨Int.le_refl _,by show 0<_;omega⟩
 ·exact⟨c.1.1,ϣ⟩
end bt
namespace gr
open vl pl bt
attribute [local go_sem] Oper.semAt_some
theorem ZD(w:ϟ)(x:Value)(t:TypeId)(h:x.oneCell'=true):∀j u,[x][j]? =some u->(w.alloc (.cells #[x] t)).cell? ((⟨w,0,none⟩:Addr).add j)=some u:=by
 intro j u c;rw[I4]
 match j,c with
 |0,c=>simp at c;subst c;go_simp
theorem Q5{H:Array Oper}{o:Oper}{a:Act}{K:Act->World->Prop}{Q:Exit->Act->World->Prop}{E:Prop}(n:o.guard=none)(s x:Operand)
 (r:o.op= .call {callee:=.builtin .append,args:=#[s,x],argTypes:=#[29,29]})
 (base:Nat) (v:Value) (L:List Int) (z:Int) (c:ϟ) (d:Nat) (j:ϲ L=d) (i:Cm c base v L) (N:d<=1000000) (M:base<=c.heap.size)
 (t:a.eval s=v) (A:a.eval x=vS (ϋ c) 1 1)
 (h:∀g f e,Cm e base (vS (ϋ g) (d+1) f) (L++[z])->(c.alloc (.cells #[vI z] 3)).grownBy e v.ownBlock->K (a.put o.dst (vS (ϋ g) (d+1) f)) e):
 if Region.wanted o (yielded H a.tmps)=true then Oper.wp prog o a (ϊ c #[vI z] 3) K Q else E:=by
 obtain⟨G,q,C,D,F⟩:=IR Tryz.info3;unfold Cm at i;rw[j]at i;exact step_append_lies _ n s x 29 r base 3 G (vI 0) 1 8 underlying29 q C D F rfl Ϥ v d (L.map Gz) t
  (i.alloc _) ⟨c,0,none⟩ 1 1 [vI z] A rfl (ZD _ _ _ rfl) (by intro u k;simp at k;rcases k with rfl;rfl) Ϥ ϭ ϣ Ϩ (c.heap.size+1) ϥ (λg f e l m I J=>h g f e (by
   unfold Cm;rw[DQ,lAp,j];exact l) m)
def ZE{base:Nat}{d wr w2:ϟ}{v u:Value}{r:List Int}{o:Obj}{C:Nat}(g:Below C d wr)(l:C<base)(m:base<=wr.heap.size)(j:Cm wr base v r)(f:(wr.alloc o).grownBy w2 v.ownBlock)(e:Δ wr C 0 u)(h:Ξ wr C 0):
 Below C d w2/\Δ w2 C 0 u/\Ξ w2 C 0/\base<=w2.heap.size:=by
 have n:C<wr.heap.size:=bLt _ _ e;have c:Below (C+1) wr w2:=(bR.alloc ϣ o).grown f Ϩ (λk i=>by have:=(aB j k i).1;omega);refine⟨g.trans (c.mono ϣ),?_,?_,?_⟩
 ·rw[c.cell (p:=⟨C,0,none⟩) ϥ];exact e
 ·rw[c.frozen (p:=⟨C,0,none⟩) ϥ];exact h
 ·have:=f.size;simp at this;omega
def CM(p:Pln):ϲ (AW p)=ϲ p.group:=by unfold AW;rw[lMp]
def L0(p:Pln)(k:Nat)(h:k<ϲ p.group):(AW p).take (k+1)=(AW p).take k++[(A5 p).getD (p.group.getD k 0).toNat 0]:=by
 rw[M1 (by rw[CM];exact h)];unfold AW;simp[gDe,h]
theorem CX(p:Pln)(x:PA)(a:Ϡ)(cap:Nat)(xs:List GX)(d:List Grp)(w:ϟ)(Y:planAt w p x)(h0:Ag p=0)(ak:gsAt w a xs d)(a3:∀g∈d,wfG g)(aj:ϲ d<=ύ)
 (n1:0<ϲ p.left) (n2:0<ϲ p.right) (m1:ϲ p.left<=400) (m2:ϲ p.right<=400) (mg:ϲ p.group<=400) (ma:ϲ p.aggs<=400):
 χ 172 #[Ai p x,vS a (ϲ d) cap] w (ψ w (.bool (allB (ϲ d) (Gb p d)))):=by
 have aw:ϲ (A5 p)<=800:=by unfold A5;rw[lAp];omega
 have v:ϡ (∀c,Ϣ w c->CT 133 #[Ai p x] c λe w'=>(∃X cap,e= .returned (vS X (ϲ (A5 p)) cap)/\Au w' X (A5 p))/\Ϣ c w'):=λc hb=>
  (EJ p x c (Ae Y hb) n1 n2 m1 m2).mono (λe w' ⟨⟨X,cp,h1,h2⟩,h3⟩=>⟨⟨X,cp,h1,(Eg h2).1⟩,h3⟩)
 have l:ϡ (∀O G L C Z oc m s c,Ϣ w c->Δ c O 0 (vS Z (ϲ (AW p)) oc)->Δ c G 0 (vS a (ϲ d) cap)->Δ c L 12 (vS x.a (ϲ p.aggs) x.ac)->Δ c C 0 (vS m (ϲ (A5 p)) s)->Au c Z (AW p)->Au c m (A5 p)->
  χ 238 #[vS a (ϲ d) cap,.func (.func 239) #[] #[ω O,ω G,ω L,ω C]] c (ψ c (.bool (allB (ϲ d) (Gb p d))))):=λO G L C Z oc m s c E hO hG hP hC ho hc=>
  RE 239 (IB func239 Ϧ rfl) #[ω O,ω G,ω L,ω C] (Gb p d) a cap xs d c aj (ak.below E) (λi w2 hi f=>by
   have ar:=bT E f;exact Aa8 p x i O G L C Z a m oc cap s xs d w2 (cLz f hO) (cLz f hG) (cLz f hP) (cLz f hC) (ak.below ar) a3 hi aj (Al ho f) (Al hc f) (Cs Y.a ar) (by rw[CM];omega) ϣ ϣ (λj hj=>by
    have hm:p.aggs.getD j (0,0)∈p.aggs:=by rw[gDe,gEe hj];exact GE hj
    exact Yd h0 hm))
 have J:ϡ (∀k,k<ϲ p.group->∃b o,x.g=some ⟨b,o,none⟩/\Δ w b (o+k) (vI (p.group.getD k 0))/\0<=p.group.getD k 0/\(p.group.getD k 0).toNat<ϲ (A5 p)):=λk q=>by
  obtain⟨b,o,e,y⟩:=Y.g k q;have hm:p.group.getD k 0∈p.group:=by rw[gDe,gEe q];exact GE q
  have:=TO h0 _ hm;exact⟨b,o,e,y,this.1,ϣ⟩
 have K:ϡ (∀k,k<ϲ p.group->(AW p).take (k+1)=(AW p).take k++[(A5 p).getD (p.group.getD k 0).toNat 0]):=λk q=>L0 p k q;have T:ϡ (∀k,k<=ϲ p.group->ϲ ((AW p).take k)=k):=λk q=>by show _=_;rw[DA,CM];omega
 have S:ϡ ((AW p).take (ϲ p.group)=AW p):=by show _=_;rw[<-CM,Ok]
 have P:ϡ (ϲ (AW p)=ϲ p.group):=CM p;obtain⟨R,hR⟩:=nM (allB (ϲ d) (Gb p d));rw[hR]at l⊢;obtain⟨r,aq⟩:=nM (AW p);obtain⟨CO,ap⟩:=nM (A5 p);rw[aq]at l K T S P;rw[ap]at v l J K aw;obtain⟨gn,ay⟩:=nM (ϲ d);rw[ay]at l⊢;clear hR aq ap ay Y h0 ak a3 aj n1 n2 m1 m2;obtain⟨b1,cd,b7,b0,ci,b3,left,right,br,bs,bz,ae,bh⟩:=p;obtain⟨la,lc,rr,rc,lk,b4,rk,cg,ga,gc,ag,ac⟩:=x;unfold Ai at v⊢;dsimp only at v l J K T S P mg ma⊢;obtain⟨n6,h6⟩:∃n,ϲ left=n:=⟨_,rfl⟩;obtain⟨n7,h7⟩:∃n,ϲ right=n:=⟨_,rfl⟩;obtain⟨n8,h8⟩:∃n,ϲ br=n:=⟨_,rfl⟩;obtain⟨n9,h⟩:∃n,ϲ bs=n:=⟨_,rfl⟩;obtain⟨u,an⟩:∃n,ϲ ae=n:=⟨_,rfl⟩;obtain⟨a4,ao⟩:∃n,ϲ bh=n:=⟨_,rfl⟩;simp only[h6,h7,h8,h,an,ao]at v l J K T S P mg ma⊢;clear h6 h7 h8 h an ao;obtain⟨cn,ai⟩:=nM (ϲ CO);have bb:=hV0 ai;rw[ai]at v l J aw;rw[P.o]at l;clear ai;go_enter func172,ntmps172;go_wp2_with fail;generalize M:((World.alloc w _).alloc _)=V;have af:Ϣ w V:=by rw[<-M];exact Ϯ.alloc ϥ _
 have a5:Δ V w 11 (vS ga u gc):=by subst M;go_simp
 have a6:Δ V w 12 (vS ag a4 ac):=by subst M;go_simp
 have vG:Δ V (w+1) 0 (vS a gn cap):=by subst M;go_simp
 clear M;refine(v.o _ af).mono ?_;rintro e c ⟨⟨m,s,rfl,av⟩,E⟩;have ba:=hV0 av;have bn:Ϣ w c:=bT af E;obtain⟨a7,a8,wG⟩:=lk3 E a5 a6 vG;have cb:w.heap.size+1<c.heap.size:=bLt _ _ wG;have b9:w.heap.size<c.heap.size:=ϣ;clear av E a5 a6 vG af;go_wp2;generalize D:((World.alloc c _).alloc _)=A;have f:Ϣ c A:=by rw[<-D];exact Ϯ.alloc ϥ _
 have a2:A.heap.size=c.heap.size+1+1:=by rw[<-D];simp
 have b5:Δ A c 0 (vS m cn s):=by subst D;go_simp
 have b6:Δ A (c+1) 0 (vS none 0 0):=by subst D;go_simp
 have f6:Ξ A (c+1) 0:=by subst D;go_simp
 obtain⟨bu,bv,bw⟩:=lk3 f a7 a8 wG;have be:=hV0 a2;have a9:=hV0 f;clear D a7 a8 wG a2 f
 go_loopw [14] (λt wr=> ∃k H N,k<=u/\t=vI (k:Nat)/\Below (c.heap.size+1) A wr/\Δ wr (c+1) 0 (vS H k N)/\Ξ wr (c+1) 0/\c.heap.size+1+1<=wr.heap.size/\Cm wr (c.heap.size+1+1) (vS H k N) (r.take k)) (λt _=>u - (intOf t).toNat)
 case atStart=>exact⟨0,none,0,At _,rfl,bR,b6,f6,by rw[be.o];exact HU _,KX _ _ _ _⟩
 case round=>
  obtain⟨k,H,N,q,rfl,F,cv,cf,az,a1⟩:=hrel;have aa:=hV0 a1;have am:=hV0 az;have lB:c.heap.size+1<wr.heap.size:=bLt _ _ cv;have au:Ϣ c wr:=a9.o.trans (F.mono ϣ);have ah:Ϣ w wr:=bT bn au;have c5:Δ wr c 0 (vS m cn s):=by rw[F.cell (p:=⟨c,0,none⟩) ϥ];exact b5
  have bx:Δ wr w 11 (vS ga u gc):=by rw[F.cell (p:=⟨w,11,none⟩) Ϩ];exact bu
  have bi:Δ wr w 12 (vS ag a4 ac):=by rw[F.cell (p:=⟨w,12,none⟩) Ϩ];exact bv
  have cG:Δ wr (w+1) 0 (vS a gn cap):=by rw[F.cell (p:=⟨w+1,0,none⟩) Ϩ];exact bw
  have al:ϡ (Au wr m CO):=Al ba.o au;clear a1 az;by_cases a0:k<u
  ·obtain⟨b,o,e,x1,x2,x3⟩:=J.o k a0;have Q:ϡ (r.take (k+1)=r.take k++[CO.getD (ae.getD k 0).toNat 0]):=K.o k a0;have bc:ϡ (ϲ (r.take k)=k):=T.o k q;obtain⟨z,hz⟩:=nM (ae.getD k 0);rw[hz]at x1 x2 x3 Q;obtain⟨zn,rfl⟩:=SK x2;simp only[SM]at x3 Q;obtain⟨b8,o8,e8,y8⟩:=al.o zn (by rw[bb.o];omega);obtain⟨bj,ax⟩:=nM (CO.getD zn 0);rw[ax]at y8 Q;subst e;subst e8;have q1:=cLz ah x1;have i1:=nn0 k;have i2:(k:Int)<(u:Int):=ϣ;have j1:=nn0 zn;have j2:(zn:Int)<(cn:Int):=ϣ;have b2:b8<wr.heap.size:=bLt _ _ y8;clear hz ax x1 x2;go_wp2
   go_region_law (first
    |(refine Q5 (by rfl) (.tmp 18) (.tmp 23) (by rfl) (c.heap.size+1+1) (vS H k N) (r.take k) bj wr.drew k bc.o (eG aa.o) ϣ (by exact am.o) (by rfl) (by rfl) ?_;intro g9 ab w2 bq bo;obtain⟨p1,p2,p3,p4⟩:=ZE F.drew ϣ am.o (eG aa.o) bo cv cf))
   all_goals
    have bk:Cm (ό w2 (c+1) 0 (vS (ϋ g9) (k+1) ab)) (c.heap.size+1+1) (vS (ϋ g9) (k+1) ab) (r.take (k+1)):=by
     rw[Q.o];exact ownsRow_setCell_below bq (a:=⟨c+1,0,none⟩) ϥ _
    go_wp2;go_roundw;exact⟨k+1,some ⟨g9,0,none⟩,ab,ϣ,by go_num,p1.setCell ϥ _,JR _ _ _ p2,by simpa using p3,by simpa using p4,bk⟩;simp[intOf];omega
  ·have bp:k=u:=ϣ;subst bp;have bd:ϡ (Au wr H r):=by have:=(Eg aa.o).1;rw[S.o]at this;exact this
   have bg:ϡ (∀I,Ϣ wr I->CT 238 #[vS a gn cap,.func (.func 239) #[] #[ω (c+1),ω (w+1),ω w,ω c]] I (ψ I (.bool R))):=λI h=>l.o _ _ _ _ H N m s I (bT ah h) (cLz h cv) (cLz h cG) (cLz h bi) (cLz h c5) (Al bd.o h) (Al al.o h);go_wp2_with (go_at_call 238;refine(bg.o _ bR).mono ?_;rintro e I ⟨rfl,bm⟩);go_ret;exact⟨rfl,bT ah bm⟩
def Acm{p:Pln}(h:Ag p=0):(0<ϲ p.left/\(ϲ p.left)<=4)/\0<ϲ p.right/\(ϲ p.right)<=4:=by
 have c:=(Bt h).2.2.1;exact⟨⟨c.1.1.1,c.1.1.2⟩,c.1.2.1.1,c.1.2.1.2⟩
theorem Bb(p:Pln)(x:PA)(a:Ϡ)(cap:Nat)(xs:List GX)(d:List Grp)(w:ϟ)(hw:wfPlan p)(v:planAt w p x)(ad:gsAt w a xs d)(ae:∀g∈d,wfG g)(aa:ϲ d<=ύ):
 χ 103 #[Ai p x,vS a (ϲ d) cap] w (ψ w (vI (CP p d))):=by
 have l:=hIz (λ(c:ϟ) (m:Ϣ w c)=>CY p x c hw (Ae v m));have i:ϡ (∀c,Ag p=0->p.grouped=true->Ϣ w c->CT 172 #[Ai p x,vS a (ϲ d) cap] c (ψ c (.bool (allB (ϲ d) (Gb p d))))):=λc j hg m=>by
  have hf:=Acm j;have an:=J9 j hg;exact CX p x a cap xs d c (Ae v m) j (ad.below m) ae aa hf.1.1 hf.2.1 ϣ ϣ ϣ ϣ
 obtain⟨R,q⟩:=nM (CP p d);have f:=hV0 q;unfold CP at f;rw[q];clear q hw v ad ae;obtain⟨AB,Z⟩:=nM (allB (ϲ d) (Gb p d));rw[Z]at i f;obtain⟨E,hE⟩:=nM (Ag p);rw[hE]at l i f;obtain⟨o,ab⟩:=nM (ϲ d);rw[ab]at i f aa⊢;clear Z hE ab;obtain⟨ap,av,au,ao,az,aq,left,right,ak,al,ai,ah,af⟩:=p;obtain⟨la,lc,rr,rc,lk,ar,rk,ay,ga,gc,ag,ac⟩:=x;unfold Ai at l i⊢;dsimp only at l i f⊢;obtain⟨n6,S⟩:∃n,ϲ left=n:=⟨_,rfl⟩;obtain⟨n7,T⟩:∃n,ϲ right=n:=⟨_,rfl⟩;obtain⟨n8,X⟩:∃n,ϲ ak=n:=⟨_,rfl⟩;obtain⟨n9,Y⟩:∃n,ϲ al=n:=⟨_,rfl⟩;obtain⟨aw,P⟩:∃n,ϲ ah=n:=⟨_,rfl⟩;obtain⟨ax,Q⟩:∃n,ϲ af=n:=⟨_,rfl⟩;simp only[S,T,X,Y,P,Q]at l i⊢;clear S T X Y P Q;go_enter func103,ntmps103;go_wp2_with fail;generalize r:(World.alloc w _)=V;have s:Ϣ w V:=by rw[<-r];exact Ϯ
 obtain⟨z,A,G,H,I,J,K,L,M,N,C,D,F⟩:=Aha r;clear r;refine(l.o _ s).mono ?_;rintro e c ⟨rfl,t⟩;have k:Ϣ w c:=bT s t;have zz:=Acx t z A G H I J K L M N C D F;clear z A G H I J K L M N C D F;obtain⟨z,A,G,H,I,J,K,L,M,N,C,D,F⟩:=zz;clear t s l;by_cases j:E=0
 ·subst j
  cases ai with
  |false=>
   have h:ϡ (1=R):=by show _=_;rw[<-f.o];simp
   go_wp2;go_ret;exact⟨Ad h.o,k⟩
  |true=>
   by_cases h1:o>4096
   ·have h:ϡ (2=R):=by show _=_;rw[<-f.o];simp;omega
    have aj:(o:Int)>4096:=ϣ;go_wp2;go_ret;exact⟨Ad h.o,k⟩
   ·have aj:¬((o:Int)>4096):=ϣ;have O:ϡ (∀c,Ϣ w c->_):=λc m=>i.o c rfl rfl m;clear i
    cases AB with
    |true=>
     have h:ϡ (0=R):=by show _=_;rw[<-f.o];simp;omega
     go_wp2_with (go_at_call 172;refine(O.o _ k).mono ?_;rintro e w2 ⟨rfl,u⟩);go_ret;exact⟨Ad h.o,bT k u⟩
    |false=>
     have h:ϡ (1=R):=by show _=_;rw[<-f.o];simp;omega
     go_wp2_with (go_at_call 172;refine(O.o _ k).mono ?_;rintro e w2 ⟨rfl,u⟩);go_ret;exact⟨Ad h.o,bT k u⟩
 ·have am:(E !=0)=true:=by simpa using j
  have h:ϡ (E=R):=by show _=_;rw[<-f.o,AE j]
  go_wp2;go_ret;exact⟨Ad h.o,k⟩
end gr
