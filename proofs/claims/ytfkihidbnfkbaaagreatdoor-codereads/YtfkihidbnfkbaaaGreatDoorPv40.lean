import Derived.Test.YtfkihidbnfkbaaaGreatDoorPv25
set_option linter.all false
set_option maxHeartbeats 8000000
set_option maxRecDepth 100000
open Inhabited renaming default->ϰ
open List renaming length->ϲ
namespace Go.Proofs.YtfkihidbnfkbaaaGreatDoor
open ChangeShapes WideShapes ChangeAt RowKit List Proofs.Tryz
namespace bf
open vl
attribute [local go_sem] Oper.semAt_some
variable {es : List EM} {l : List Ent} {e : EM} {x y : Ent} {w w' : ϟ} {B b base g n p : Nat} {ek : ByteArray} {es1 et : Int} {em1 : Bool}
def Cr(x:Int):IntKind.i64.wrap x=(x+9223372036854775808) % 18446744073709551616 - 9223372036854775808:=by
 simp only[IntKind.wrap,IntKind.signed,IntKind.bits];simp;split<;>omega
theorem Adl{R:EM->Ent->Prop}{k:Nat}(t:k<=ϲ l)(u:ϲ es=ϲ l)(h:∀i,i<ϲ l->R (es.getD i ϰ) (l.getD i ϰ))(q:R e y):
 ∀i,i<ϲ (l.take k++y::l.drop k)->R ((es.take k++e::es.drop k).getD i ϰ) ((l.take k++y::l.drop k).getD i ϰ):=λi r=>by
 have f:ϲ (l.take k)=k:=by rw[DA];omega
 have o:ϲ (es.take k)=k:=by rw[DA];omega
 rw[lAp,DP,RC,f]at r;by_cases d:i<k
 ·rw[Ba ϣ,Ba ϣ];have a:(es.take k).getD i ϰ=es.getD i ϰ:=by simp[gDe,getElem?_take,d]
  have c:(l.take k).getD i ϰ=l.getD i ϰ:=by simp[gDe,getElem?_take,d]
  rw[a,c];exact h i ϣ
 ·rw[Bf ϣ,Bf ϣ,f,o];by_cases m:i=k
  ·subst m;rw[cW];exact q
  ·obtain⟨j,s⟩:∃j,i - k=j+1:=⟨i - k - 1,ϣ⟩;rw[s,cB,cB];have a:(es.drop k).getD j ϰ=es.getD (i - 1) ϰ:=by
    rw[gDe,getElem?_drop,gDe,show k+j=i - 1 by omega]
   have c:(l.drop k).getD j ϰ=l.getD (i - 1) ϰ:=by
    rw[gDe,getElem?_drop,gDe,show k+j=i - 1 by omega]
   rw[a,c];exact h (i - 1) ϣ
def OR.other(h:OR w base e x)(a:∀b,Am w b 119->w'.heap[b]? =w.heap[b]?):OR w' base e x:=
 ⟨h.key,h.time,h.seq,h.met,h.len,A4 h.row (λg c=>a g (Az h.row c))⟩
def OR.below(h:OR w base e x)(a:Ϣ w w'):OR w' base e x:=
 ⟨h.key,h.time,h.seq,h.met,h.len,own_below h.row a⟩
def Yx:Ent:=⟨⟨#[]⟩,0,0,[],false⟩
def IA:EM:=⟨⟨#[]⟩,0,0,(none,0,0),false⟩
def Afs(w:ϟ)(base:Nat):OR w base IA Yx:=⟨rfl,rfl,rfl,rfl,rfl,KX _ _ _ _⟩
theorem AgB{w4 m c:ϟ}{o a f:Nat}{d:Ϡ}{s:List Value}
 (q:OE w4 base (vS (ϋ g) (n+1) o) (es++[IA]) (l++[Yx])) (Y:ϲ es=n) (K:ϲ es=ϲ l) (Z:p<=n)
 (O:ϲ s=5) (L:m.ownsRow base 166 5 (vS (ϋ g) (n+1) o) (n+1) (Ap (es.take p)++s++Ap (es.drop p)))
 (D:w4.heap.size<=m.heap.size) (J:∀b,b≠g->m.heap[b]? =w4.heap[b]?) (r:Ϣ m c) (A:AF c m (vS d a f) y.row) (M:ϲ y.row=a)
 (I:g≠B) (t:Am w4 B 166) (v:Am w4 g 166) (P:ek=y.key) (Q:et=y.time) (S:es1=y.seq) (T:em1=y.met) (u:Value):
 OE (ό (ό (ό (ό (ό (ό c B 3 u) g (p * 5) (.string ek)) g (p * 5+1) (vI et)) g (p * 5+2) (vI es1)) g (p * 5+3) (vS d a f)) g (p * 5+4) (.bool em1)) base (vS (ϋ g) (n+1) o)
  (es.take p++⟨ek,et,es1,(d,a,f),em1⟩::es.drop p) (l.take p++y::l.drop p):=by
 have z:ϲ (es.take p++(⟨ek,et,es1,(d,a,f),em1⟩:EM)::es.drop p)=n+1:=by
  rw[lAp,DP,DA,RC];omega
 have V:=own_below L r;have W:(c.setCell ⟨B,3,none⟩ u).ownsRow base 166 5 (vS (ϋ g) (n+1) o) (n+1) (Ap (es.take p)++s++Ap (es.drop p)):=
  A4 V (λb h=>CB _ _ _ _ (λe=>by cases h;exact I e))
 have F:=J6 (J6 (J6 (J6 (J6 W (p * 5) ϣ (.string ek)) (p * 5+1) ϣ (vI et)) (p * 5+2) ϣ (vI es1)) (p * 5+3) ϣ (vS d a f)) (p * 5+4) ϣ (.bool em1);have H:ϲ (Ap (es.take p))=p * 5:=by rw[Fj,DA];congr 1;omega
 rw[AaU H O]at F;have C:∀b,b≠g->b≠B->((((((c.setCell ⟨B,3,none⟩ u).setCell ⟨g,p * 5,none⟩ (.string ek)).setCell ⟨g,p * 5+1,none⟩ (vI et)).setCell ⟨g,p * 5+2,none⟩ (vI es1)).setCell ⟨g,p * 5+3,none⟩ (vS d a f)).setCell ⟨g,p * 5+4,none⟩ (.bool em1)).heap[b]? =c.heap[b]? :=λb j G=>by
  rw[CB _ _ _ _ j,CB _ _ _ _ j,CB _ _ _ _ j,CB _ _ _ _ j,CB _ _ _ _ j,CB _ _ _ _ G]
 have N:((((((c.setCell ⟨B,3,none⟩ u).setCell ⟨g,p * 5,none⟩ (.string ek)).setCell ⟨g,p * 5+1,none⟩ (vI et)).setCell ⟨g,p * 5+2,none⟩ (vI es1)).setCell ⟨g,p * 5+3,none⟩ (vS d a f)).setCell ⟨g,p * 5+4,none⟩ (.bool em1)).heap.size=c.heap.size:=by simp[World.setCell]
 have lB:B<w4.heap.size:=A7 t;have lg:g<w4.heap.size:=A7 v;refine⟨?_,?_,?_,?_⟩
 ·rw[N];exact B0 q.low (B0 D r.size)
 ·rw[z,Mb];exact F
 ·rw[z,lAp,DP,DA,RC];omega
 ·refine Adl (R:=OR _ base) ϣ K (λi X=>?_) ?_
  ·have k:=q.rows i (by rw[lAp];omega);rw[Ba ϣ,Ba ϣ]at k;refine k.other (λb h=>?_);have E:b≠g:=tyAt_apart h v Ϥ;have U:b≠B:=tyAt_apart h t Ϥ;have lb:b<w4.heap.size:=A7 h;rw[C b E U,r.block b ϣ,J b E]
  ·refine⟨P,Q,S,T,M.symm,D7 (A4 A (λb h=>?_)) (B0 q.low D)⟩;have:=(AL A h).1;exact C b ϣ ϣ
def Jt(h:w'.heap[b]? =w.heap[b]?)(o:Nat):w'.cell? ⟨b,o,none⟩=w.cell? ⟨b,o,none⟩:=by simp[World.cell?,h]
def Xr(h:w'.heap[b]? =w.heap[b]?)(o:Nat):w'.frozen? ⟨b,o,none⟩=w.frozen? ⟨b,o,none⟩:=by simp[World.frozen?,h]
def AaB(a:Ϣ w w')(h:Δ w B 0 (.string ek)/\Δ w B 1 (vI et)/\Δ w B 2 (vI es1)/\Δ w B 4 (.bool em1)/\Ξ w B 3)(c:B<w.heap.size):
 Δ w' B 0 (.string ek)/\Δ w' B 1 (vI et)/\Δ w' B 2 (vI es1)/\Δ w' B 4 (.bool em1)/\Ξ w' B 3:=
 ⟨cLz a h.1,cLz a h.2.1,cLz a h.2.2.1,cLz a h.2.2.2.1,(a.frozen (p:=⟨B,3,none⟩) c).trans h.2.2.2.2⟩
def Xs{cap:Nat}{A B y:List Value}(h:w.ownsRow base 166 5 (vS (ϋ g) n cap) n (A++y++B))(a:ϲ A=p * 5)(hy:ϲ y=5):
 (∃u,Δ w g (p * 5) u)/\(∃u,Δ w g (p * 5+1) u)/\(∃u,Δ w g (p * 5+1+1) u)/\(∃u,Δ w g (p * 5+1+1+1) u)/\(∃u,Δ w g (p * 5+1+1+1+1) u)/\(∀j,Ξ w g j):=by
 have c:=RT h (g:=g) rfl;have one:∀j,j<5->∃u,Δ w g (p * 5+j) u:=λj f=>by
  have d:j<ϲ y:=ϣ;have:=c (p * 5+j) y[j] (AdI a (gEe d));rw[Di,Fr]at this;exact⟨_,this⟩
 exact⟨one 0 ϣ,one 1 ϣ,one 2 ϣ,one 3 ϣ,one 4 ϣ,X9 h⟩
structure Left(w w':World)(base:Nat)(v:Value):Prop where
 size:w.heap.size<=w'.heap.size
 blk:∀k,k<w.heap.size->v.ownBlock≠some k->w'.heap[k]? =w.heap[k]?
def Left.refl(w:ϟ)(base:Nat)(v:Value):Left w w base v:=⟨HU _,λ_ _ _=>rfl⟩
theorem Py(base:Nat)(ad:Ϡ)(cap:Nat)(es:List EM)(l:List Ent)(e:EM)(y:Ent)(w:ϟ)(h:OE w base (vS ad (ϲ es) cap) es l)(hr:∀v,Below base w v->ER v e y)(bs:DV l)(hl:ϲ l<=100000)(bu:ϲ y.row<=2000000):
 χ 118 #[vS ad (ϲ es) cap,e.val] w λr w'=>(∃(hh:Hdr) (cr:List EM) (l':List Ent),r= .returned (.tuple #[hdV hh,.bool (!hasB l (AJ y))])/\OE w' base (hdV hh) cr l'/\(hasB l (AJ y)=true->l'=l)/\(hasB l (AJ y)=false->l'.Perm (y::l)/\DV l')/\(∀g,(hdV hh).ownBlock=some g->(Value.slice ad (ϲ es) cap).ownBlock=some g\/w.heap.size<=g))/\Below base w w'/\Left w w' base (vS ad (ϲ es) cap):=by
 have HO:=hV0 h;have HR:ϡ (DV l):=bs;have cb:ϡ (Cn w ad es):=OE.at h;have ai:ϡ (ER w e y):=hr w bR;have al:ϡ (∀v,Below base w v->CT 190 #[hdV e.row] v λr w'=>(∃a8 c',r= .returned (vS a8 (ϲ y.row) c')/\AF w' v (vS a8 (ϲ y.row) c') y.row)/\Ϣ v w'):=λv hb=>by
  have k:=AaV e.row.1 e.row.2.2 y.row v (hr v hb).row bu;unfold hdV;rw[(hr v hb).len];exact k
 have ak:=hIz (λ(f:EM) (v:ϟ)=>Mu f e v);have ci:ϡ (ϲ es=ϲ l):=h.len;have am:=h.low;obtain⟨n,hn⟩:∃n,ϲ es=n:=⟨_,rfl⟩;have C:=hV0 hn;have ao:ϡ (ϲ l=n):=by show _=_;rw[<-h.len];exact hn
 have ds:n<=100000:=by rw[<-hn,h.len];exact hl
 rw[hn];have cc:ϡ (∀(f:EM) (x:Ent),ER w f x->Fw f.ent e.ent=Fw x y):=λf x c=>K6 c (hr w bR);obtain⟨HB,ap⟩:=nM (hasB l (AJ y));have a1:=hV0 ap;rw[ap];obtain⟨S,ay⟩:=nM (ϲ y.row);have cm:=hV0 ay;rw[ay]at al;clear hn h hr bs hl bu ap ay;obtain⟨ek,et,es1,⟨i,o,t⟩,em1⟩:=e;unfold EM.val hdV at ak;unfold hdV at al;rw[show EM.val ⟨ek,et,es1,(i,o,t),em1⟩= .agg (φ ek et es1 i o t em1)from rfl];dsimp only at ak al;have cs:Ϣ w (ϊ w (φ ek et es1 i o t em1) 166):=Ϯ;have k0:Δ (ϊ w (φ ek et es1 i o t em1) 166) w 0 (.string ek):=ϧ;have k1:Δ (ϊ w (φ ek et es1 i o t em1) 166) w 1 (vI et):=ϧ;have k2:Δ (ϊ w (φ ek et es1 i o t em1) 166) w 2 (vI es1):=ϧ;have k3:Δ (ϊ w (φ ek et es1 i o t em1) 166) w 3 (vS i o t):=ϧ;have k4:Δ (ϊ w (φ ek et es1 i o t em1) 166) w 4 (.bool em1):=ϧ;have kf:∀j,Ξ (ϊ w (φ ek et es1 i o t em1) 166) w j:=by intro j;go_simp
 have dh:(w.alloc (.cells (φ ek et es1 i o t em1) 166)).heap.size=w.heap.size+1:=ϥ;have cp:ϡ (Am (ϊ w (φ ek et es1 i o t em1) 166) w.heap.size 166):=⟨_,_,DE _ _⟩;go_enter func118,ntmps118;go_wp2;generalize w.alloc (.cells (φ ek et es1 i o t em1) 166)=W0 at *
 go_loopw [6,7,8,9] (λlo hi _ _ wr=> ∃p q:Nat,lo=vI p/\hi=vI q/\Cut l y p q/\Ϣ W0 wr) (λlo hi _ _ _=>(intOf hi).toNat - (intOf lo).toNat)
 case atStart=>exact⟨0,n,rfl,rfl,by rw[<-ao.o];exact Cut.start l y,bR⟩
 case round=>
  obtain⟨p,q,rfl,rfl,hcut,P⟩:=hrel;have ag:=hV0 hcut;have dt:=hcut.le;have c8:q<=n:=by rw[<-ao.o];exact hcut.top
  have N:Ϣ w wr:=cs.trans (P.mono ϣ);obtain⟨K,Y,Z,c3,c4⟩:=lk5 P k0 k1 k2 k3 k4;have lw:w.heap.size<wr.heap.size:=bLt _ _ K;clear hcut;by_cases dq:p<q
  ·obtain⟨m,hm⟩:∃m,(p+q)/2=m:=⟨_,rfl⟩;have bo:p<=m:=ϣ;have bp:m<q:=ϣ;have dx:IntKind.i64.wrap ((p:Int)+(q:Int))=(p:Int)+(q:Int):=by rw[Cr];omega
   have dj:((p:Int)+(q:Int)).tdiv 2=(m:Int):=by rw[Int.tdiv_eq_ediv_of_nonneg ϣ];omega
   have dl:((p:Int)+(q:Int))/2=(m:Int):=ϣ;have dv:IntKind.i64.wrap (m:Int)=(m:Int):=by rw[Cr];omega
   have af:m<ϲ l:=by rw[ao.o];omega
   obtain⟨J,o1,e1,x1,x2,x3,x4,x5⟩:=cb.o m (by rw[C.o];omega);subst e1;obtain⟨U,z2,z3,V,z5⟩:=lk5 N x1 x2 x3 x4 x5;have bh:=(HO.o.rows m af).er;have be:=cc.o _ _ bh;have D:ϡ (∀v,CT 189 #[(es.getD m ϰ).val,.agg (φ ek et es1 i o t em1)] v (ψ v (vI (Fw (l.getD m ϰ) y)))):=λv=>by rw[<-be];exact ak.o _ v
   have HG:ϡ (l.getD m ϰ=l[m]):=getD_at af;obtain⟨cv,av⟩:=nM (Fw (l.getD m ϰ) y);have ah:=hV0 av;rw[av]at D;obtain⟨⟨fk,ft,fs,⟨f1,f2,f3⟩,fm⟩,hz⟩:∃z,es.getD m ϰ=z:=⟨_,rfl⟩;rw[hz]at U z2 z3 V z5 D;unfold EM.val hdV at D;unfold hdV at V;dsimp only at U z2 z3 V z5 D;have i1:=nn0 m;have i2:(m:Int)<(n:Int):=ϣ;have dy:J<wr.heap.size:=bLt _ _ U;clear hz av be bh x1 x2 x3 x4 x5 hm ak;by_cases v0:cv=0
   ·subst v0;have W:ϡ (HB=true):=by
     show HB=true;rw[<-a1.o];refine AgH af ?_;rw[<-HG.o];exact Md.1 ah.o
    go_wp2
    go_region_held3
     (λw'=>Ϟ w' J (o1+m * 5) (.string fk) (vI ft) (vI fs) (vS f1 f2 f3) (.bool fm) (ϖ w' w (.string ek) (vI et) (vI es1) (vS i o t) (.bool em1)))
     (first|go_keep|exact⟨cLz a U,cLz a z2,cLz a z3,cLz a V,cLz a z5,cLz a K,cLz a Y,cLz a Z,cLz a c3,cLz a c4⟩)
     (first|(go_at_call 189;refine(D.o _).mono ?_;rintro e2 G ⟨rfl,ab⟩;have a:Ϣ wr G:=bR.drew.trans ab))
    all_goals
     have an:Ϣ w G:=bT N a;have cx:Below base w G:=an.mono am;go_wp2
     go_ret2
     refine⟨⟨(some ⟨J,o1,none⟩,n,cap),es,l,?_,?_,λ_=>rfl,λh=>?_,λg hg=>.inl hg⟩,cx,an.size,λk F _=>an.block k F⟩
     ·rw[W.o];rfl
     ·rw[<-C.o];exact HO.o.below an
     ·rw[W.o]at h;cases h
   ·have d1:(cv==0)=false:=by simpa using v0
    by_cases v1:cv<0
    ·have cj:ϡ (ltP l[m] y):=by
      show ltP l[m] y;rw[<-HG.o];exact Ho.1 (by rw[ah.o];exact v1)
     go_wp2
     go_region_held3
      (λw'=>Ϟ w' J (o1+m * 5) (.string fk) (vI ft) (vI fs) (vS f1 f2 f3) (.bool fm) (ϖ w' w (.string ek) (vI et) (vI es1) (vS i o t) (.bool em1)))
      (first|go_keep|exact⟨cLz a U,cLz a z2,cLz a z3,cLz a V,cLz a z5,cLz a K,cLz a Y,cLz a Z,cLz a c3,cLz a c4⟩)
      (first|(go_at_call 189;refine(D.o _).mono ?_;rintro e2 G ⟨rfl,ab⟩;have a:Ϣ wr G:=bR.drew.trans ab))
     all_goals
      go_wp2;go_roundw;exact⟨m+1,q,by go_num,rfl,ag.o.up HR.o bp af bo cj.o,bT P a⟩;simp[intOf];omega
    ·have cd:ϡ (ltP y l[m]):=by
      show ltP y l[m];rcases ltP_tri l[m] y with h3|h3|h3
      ·have k:ltP (l.getD m ϰ) y:=by rw[HG.o];exact h3
       exact absurd (Ho.2 k) (by rw[ah.o];exact v1)
      ·have k:Er (l.getD m ϰ) y:=by rw[HG.o];exact h3
       exact absurd (Md.2 k) (by rw[ah.o];exact v0)
      ·exact h3
     go_wp2
     go_region_held3
      (λw'=>Ϟ w' J (o1+m * 5) (.string fk) (vI ft) (vI fs) (vS f1 f2 f3) (.bool fm) (ϖ w' w (.string ek) (vI et) (vI es1) (vS i o t) (.bool em1)))
      (first|go_keep|exact⟨cLz a U,cLz a z2,cLz a z3,cLz a V,cLz a z5,cLz a K,cLz a Y,cLz a Z,cLz a c3,cLz a c4⟩)
      (first|(go_at_call 189;refine(D.o _).mono ?_;rintro e2 G ⟨rfl,ab⟩;have a:Ϣ wr G:=bR.drew.trans ab))
     all_goals
      go_wp2;go_roundw;exact⟨p,m,rfl,rfl,ag.o.down HR.o bp af bo cd.o,bT P a⟩;simp[intOf];omega
  ·have c7:p=q:=ϣ;subst c7;have W:ϡ (HB=false):=by show HB=false;rw[<-a1.o];exact ag.o.none
   have aq:OE wr base (vS ad n cap) es l:=by rw[<-C.o];exact HO.o.below N
   have ck:=hV0 aq;have cl:ϡ (wr.ownsRow base 166 5 (vS ad n cap) n (Ap es)):=by
    have k:=aq.own;rw[C.o]at k;exact k
   have b6:∀b,(Value.slice ad n cap).ownBlock=some b->b<w.heap.size:=λb hb=>by
    have k:=HO.o.own;rw[C.o]at k;exact(AL k hb).2
   have a6:=hV0 b6;have cu:∀j,Ξ wr w j:=λj=>(P.frozen (p:=⟨w,j,none⟩) (by show w.heap.size<_;omega)).trans (kf j);have co:ϡ (Am wr w 166):=Ak cp.o P;obtain⟨R,bm,b8,b9,ca⟩:=IR Ul;have H:ϡ (prog.info? 166=some R/\R.zero=some (.agg #[ϐ,Ϗ,Ϗ,ώ,ϑ])/\R.size=5/\R.bytes=64):=⟨bm,b8,b9,ca⟩;have di:base<=wr.heap.size:=B0 am N.size;have dw:IntKind.i64.wrap ((p:Int)+1)=(p:Int)+1:=by rw[Cr];omega
   clear bm b8 b9 ca aq b6;go_wp2_with (at_builtin;refine wpList_append_lies _ rfl (.tmp 33) (.tmp 35) 33 rfl base 166 R (.agg #[ϐ,Ϗ,Ϗ,ώ,ϑ]) 5 64 underlying33 H.o.1 H.o.2.1 H.o.2.2.1 H.o.2.2.2 rfl Ϥ (vS ad n cap) n (Ap es) rfl (WD cl.o _) ⟨wr,0,none⟩ 1 1 [ϐ,Ϗ,Ϗ,ώ,ϑ] rfl rfl (Eu _ _ _ _ _ _ _) (by intro u hu;simp at hu;rcases hu with rfl|rfl|rfl|rfl|rfl<;>rfl) Ϥ ϭ ϣ Ϩ (wr.heap.size+1) ϥ ?_;intro g d w4 Q ae ar dr);have bd:n+1<=d:=Af4 Q;have bi:=AL Q (g:=g) rfl;have a5:ϡ (OE w4 base (vS (ϋ g) (n+1) d) (es++[IA]) (l++[Yx])/\Below base wr w4):=by
    have k:=JC (e:=IA) (x:=Yx) (g:=g) (cap2:=d) ck.o bR (Afs _ _) (by rw[C.o];exact Q) ae;rw[C.o]at k;exact k
   have bc:w4.heap[w.heap.size]? =wr.heap[w.heap.size]? :=by
    rw[ae.block w.heap.size Ϩ (λe=>by have:=a6.o _ e.symm;omega)];exact LE _ _ _ lw
   have bk:g≠w.heap.size:=by
    rcases ar with c|c
    ·have:=a6.o g c;omega
    ·omega
   have bj:∀g',(Value.slice (ϋ g) (n+1) d).ownBlock=some g'->(Value.slice ad n cap).ownBlock=some g'\/w.heap.size<=g':=λg' cw=>by
    have e:g=g':=by cases cw;rfl
    subst e;rcases ar with c|c
    ·exact .inl c
    ·exact .inr ϣ
   have a0:=hV0 bj;have bn:∀k,k<w.heap.size->(Value.slice ad n cap).ownBlock≠some k->w4.heap[k]? =w.heap[k]? :=λk F O=>by
    rw[ae.block k Ϩ (λe=>O e.symm),LE _ _ _ ϣ];exact N.block k F
   have cf:=hV0 bn;have du:wr.heap.size<=w4.heap.size:=by have:=ae.size;simp at this;omega
   obtain⟨bl,ct⟩:=nM (n - p);have c9:p+bl=n:=ϣ;obtain⟨d2,aw,bg⟩:=YH g (n+1) d (p+1) ϣ bd;obtain⟨s2,ax,bw⟩:=YH g (n+1) d p ϣ bd;rw[show n+1 - (p+1)=bl by omega]at aw;rw[show n+1 - p=bl+1 by omega]at ax;have dm:∀w,(Instr.sliceAt 33 (vS (ϋ g) (n+1) d) (some (vI ((p:Int)+1))) none none).run prog w= .ok (vS (some d2) bl (d - (p+1))) w:=aw;have dp:∀w,(Instr.sliceAt 33 (vS (ϋ g) (n+1) d) (some (vI (p:Int))) none none).run prog w= .ok (vS (some s2) (bl+1) (d - p)) w:=ax;have bx:Ap es=Ap (es.take p)++Ap (es.drop p):=by rw[<-Mb,PP]
   have a2:ϡ (ϲ (Ap (es.take p))=p * 5):=by show _=_;rw[Fj,DA,C.o,fC ϣ]
   have cg:ϡ (ϲ (Ap (es.drop p))=bl * 5):=by show _=_;rw[Fj,RC,C.o,ct]
   have a4:ϡ (∀ty,∃w3,(Builtin.copy_ #[33,33] ty #[vS (some d2) bl (d - (p+1)),vS (some s2) (bl+1) (d - p)]).run prog w4.drew= .ok (goInt bl) w3/\
    (∃y,ϲ y=5/\w3.ownsRow base 166 5 (vS (ϋ g) (n+1) d) (n+1) (Ap (es.take p)++y++Ap (es.drop p)))/\w3.heap.size=w4.drew.heap.size/\(∀b,b≠g->w3.heap[b]? =w4.drew.heap[b]?)/\Below g w4.drew w3):=λty=>
    AdF (w2:=w4.drew) (na:=p) (nb:=bl) (s:=5) (z:=[ϐ,Ϗ,Ϗ,ώ,ϑ]) 33 166 R underlying33 H.o.1 H.o.2.2.1 (eG (by rw[<-bx];exact Q)) a2.o cg.o rfl c9 (SP _) (some d2) (some s2) (d - (p+1)) (d - p) (λh=>Bk some (bg ϣ)) (λh=>Bk some (bw ϣ)) ty
   have cn:ϡ (Am w4 g 166):=Az Q rfl;clear aw ax bg bw Q ae bx ar bj bn;go_wp2
   go_region_law (first
    |(obtain⟨A,bv,⟨y5,b7,br⟩,bz,bb,ba⟩:=a4.o 3;refine AdG (by rfl) (.tmp 40) (.tmp 43) (by rfl) (vS (some d2) bl (d - (p+1))) (vS (some s2) (bl+1) (d - p)) _ (by simp[Act.eval,Act.put]) (by simp[Act.eval,Act.put]) bv ?_))
   all_goals
    have az:Below base w A:=by
     have c:Below base w wr:=N.mono am;have h2:Below base w w4:=c.trans a5.o.2;exact h2.trans (bR.drew.trans (ba.mono bi.1))
    have da:A.heap.size=w4.heap.size:=bz;have au:∀b,b≠g->A.heap[b]? =w4.heap[b]? :=bb;have E:A.heap[w.heap.size]? =wr.heap[w.heap.size]? :=(au _ bk.symm).trans bc;have cq:ϡ (Δ A w 0 (.string ek)/\Δ A w 1 (vI et)/\Δ A w 2 (vI es1)/\Δ A w 4 (.bool em1)/\Ξ A w 3):=
     ⟨(Jt E 0).trans K,(Jt E 1).trans Y,(Jt E 2).trans Z,(Jt E 4).trans c4,(Xr E 3).trans (cu 3)⟩
    have d3:Δ A w 3 (vS i o t):=(Jt E 3).trans c3;have db:w.heap.size<A.heap.size:=ϣ;have dz:g<A.heap.size:=ϣ;have a3:=hV0 br;have a7:=hV0 b7;have X:ϡ ((∀b,b≠g->A.heap[b]? =w4.heap[b]?)/\A.heap.size=w4.heap.size/\Below base w A):=⟨au,da,az⟩;clear br b7 bb au ba bz bv a4 E K Y Z c3 c4 az;have i1:=nn0 p;have i2:(p:Int)<((n+1:Nat):Int):=ϣ;have i3:(p:Int)<(n:Int)+1:=ϣ;go_wp2_with (go_at_call 190;refine(al.o _ X.o.2.2).mono ?_;rintro e2 T ⟨⟨I,L,rfl,bq⟩,aa⟩;have aj:ϡ (AF T A (vS I S L) y.row/\Ϣ A T):=⟨bq,aa⟩;have b3:=cLz aa d3;obtain⟨b0,J,b2,b4,b5⟩:=AaB aa cq.o db;have d0:w.heap.size<T.heap.size:=bLt _ _ b3;obtain⟨⟨u0,g0⟩,⟨u1,g1⟩,⟨u2,g2⟩,⟨u3,g3⟩,⟨u4,g4⟩,M⟩:=Xs (own_below a3.o aa) a2.o a7.o;have dc:=M (p * 5);have dd:=M (p * 5+1);have de:=M (p * 5+1+1);have df:=M (p * 5+1+1+1);have dg:=M (p * 5+1+1+1+1);clear M bq aa);have c5:=AgB (u:=vS I S L) a5.o.1 C.o ci.o c8 a7.o a3.o (Nat.le_of_eq X.o.2.1.symm) X.o.1 aj.o.2 aj.o.1 cm.o bk (A1 co.o bc) cn.o ai.o.key ai.o.time ai.o.seq ai.o.met;have ac:base<=g:=bi.1;have h6:Below base w T:=X.o.2.2.trans (aj.o.2.mono ϣ);have h7:Below base w (ό T w 3 (vS I S L)):=h6.setCell am _;have a9:=((((h7.setCell (p:=⟨g,p * 5,none⟩) ac (.string ek)).setCell (p:=⟨g,p * 5+1,none⟩) ac (vI et)).setCell (p:=⟨g,p * 5+2,none⟩) ac (vI es1)).setCell (p:=⟨g,p * 5+3,none⟩) ac (vS I S L)).setCell (p:=⟨g,p * 5+4,none⟩) ac (.bool em1);have cz:∀k,k<w.heap.size->(Value.slice ad n cap).ownBlock≠some k->k≠g:=λk F O e=>by
     subst e;rcases a0.o k rfl with c|c
     ·exact O c
     ·omega
    have cy:∀k,k<w.heap.size->(Value.slice ad n cap).ownBlock≠some k->((((((T.setCell ⟨w,3,none⟩ (vS I S L)).setCell ⟨g,p * 5,none⟩ (.string ek)).setCell ⟨g,p * 5+1,none⟩ (vI et)).setCell ⟨g,p * 5+2,none⟩ (vI es1)).setCell ⟨g,p * 5+3,none⟩ (vS I S L)).setCell ⟨g,p * 5+4,none⟩ (.bool em1)).heap[k]? =w.heap[k]? :=λk F O=>by
     have c:=cz k F O;rw[CB _ _ _ _ c,CB _ _ _ _ c,CB _ _ _ _ c,CB _ _ _ _ c,CB _ _ _ _ c,CB _ _ _ _ ϩ,aj.o.2.block k ϣ,X.o.1 k c,cf.o k F O]
    go_ret2
    refine⟨⟨(some ⟨g,0,none⟩,n+1,d),_,l.take p++y::l.drop p,?_,c5,λh=>?_,λ_=>⟨Cut.perm p,ag.o.rise HR.o⟩,a0.o⟩,a9,a9.size,cy⟩
    ·rw[W.o];rfl
    ·rw[W.o]at h;cases h
end bf
