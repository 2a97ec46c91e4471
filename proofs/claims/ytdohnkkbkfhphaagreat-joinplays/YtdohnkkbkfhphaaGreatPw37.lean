import Derived.Test.YtdohnkkbkfhphaaGreatPw23
set_option linter.all false
set_option maxHeartbeats 8000000
set_option maxRecDepth 100000
open Go.ChangeShapes Go.WideShapes Go.ChangeAt Go.RowKit List
open Inhabited renaming default->ϰ
namespace Go.Proofs.YtdohnkkbkfhphaaGreat
open Go.Proofs.Tryz
namespace bf
open vl
attribute [local go_sem] Oper.semAt_some
variable {es : List EM} {l : List Ent} {e : EM} {x y : Ent} {w w' : ϛ} {B b base g n p : Nat} {ek : ByteArray} {es1 et : Int} {em1 : Bool}
theorem BA(x:Int):IntKind.i64.wrap x=(x+9223372036854775808) % 18446744073709551616 - 9223372036854775808:=by
 simp only[IntKind.wrap,IntKind.signed,IntKind.bits];simp;split<;>omega
theorem Aa9{R:EM->Ent->Prop}{k:Nat}(t:k<=l.length)(u:es.length=l.length)(h:∀i,i<l.length->R (es.getD i ϰ) (l.getD i ϰ))(q:R e y):
 ∀i,i<(l.take k++y::l.drop k).length->R ((es.take k++e::es.drop k).getD i ϰ) ((l.take k++y::l.drop k).getD i ϰ):=λi r=>by
 have f:(l.take k).length=k:=by rw[length_take];omega
 have o:(es.take k).length=k:=by rw[length_take];omega
 rw[lAp,length_cons,length_drop,f]at r;by_cases d:i<k
 ·rw[AS ϟ,AS ϟ];have a:(es.take k).getD i ϰ=es.getD i ϰ:=by simp[gDe,getElem?_take,d]
  have c:(l.take k).getD i ϰ=l.getD i ϰ:=by simp[gDe,getElem?_take,d]
  rw[a,c];exact h i ϟ
 ·rw[AH ϟ,AH ϟ,f,o];by_cases m:i=k
  ·subst m;rw[Nat.sub_self];exact q
  ·obtain⟨j,s⟩:∃j,i - k=j+1:=⟨i - k - 1,ϟ⟩;rw[s,getD_cons_succ,getD_cons_succ];have a:(es.drop k).getD j ϰ=es.getD (i - 1) ϰ:=by
    rw[gDe,getElem?_drop,gDe,show k+j=i - 1 by omega]
   have c:(l.drop k).getD j ϰ=l.getD (i - 1) ϰ:=by
    rw[gDe,getElem?_drop,gDe,show k+j=i - 1 by omega]
   rw[a,c];exact h (i - 1) ϟ
theorem OR.other(h:OR w base e x)(a:∀b,An w b 103->w'.heap[b]? =w.heap[b]?):OR w' base e x:=
 ⟨h.key,h.time,h.seq,h.met,h.len,A2 h.row (λg c=>a g (A6 h.row c))⟩
theorem OR.below(h:OR w base e x)(a:Ϟ w w'):OR w' base e x:=
 ⟨h.key,h.time,h.seq,h.met,h.len,own_below h.row a⟩
def Wp:Ent:=⟨⟨#[]⟩,0,0,[],false⟩
def Ht:EM:=⟨⟨#[]⟩,0,0,(none,0,0),false⟩
theorem Acf(w:ϛ)(base:Nat):OR w base Ht Wp:=⟨rfl,rfl,rfl,rfl,rfl,World.ownsRow_nil _ _ _ _⟩
theorem Adl{c o d:ϛ}{q a h:Nat}{f:Ϝ}{t:List Value}
 (r:OE c base (vS (τ g) (n+1) q) (es++[Ht]) (l++[Wp])) (Y:es.length=n) (L:es.length=l.length) (Z:p<=n)
 (P:t.length=5) (M:o.ownsRow base 63 5 (vS (τ g) (n+1) q) (n+1) (Aq (es.take p)++t++Aq (es.drop p)))
 (E:c.heap.size<=o.heap.size) (K:∀b,b≠g->o.heap[b]? =c.heap[b]?) (s:Ϟ o d) (C:A4 d o (vS f a h) y.row) (N:y.row.length=a)
 (J:g≠B) (v:An c B 63) (z:An c g 63) (Q:ek=y.key) (k2:et=y.time) (S:es1=y.seq) (T:em1=y.met) (u:Value):
 OE (φ (φ (φ (φ (φ (φ d B 3 u) g (p * 5) (.string ek)) g (p * 5+1) (vI et)) g (p * 5+2) (vI es1)) g (p * 5+3) (vS f a h)) g (p * 5+4) (.bool em1)) base (vS (τ g) (n+1) q)
  (es.take p++⟨ek,et,es1,(f,a,h),em1⟩::es.drop p) (l.take p++y::l.drop p):=by
 have A:(es.take p++(⟨ek,et,es1,(f,a,h),em1⟩:EM)::es.drop p).length=n+1:=by
  rw[lAp,length_cons,length_take,length_drop];omega
 have V:=own_below M s;have W:(d.setCell ⟨B,3,none⟩ u).ownsRow base 63 5 (vS (τ g) (n+1) q) (n+1) (Aq (es.take p)++t++Aq (es.drop p)):=
  A2 V (λb j=>heap_setCell_other _ _ _ _ (λe=>by cases j;exact J e))
 have G:=I4 (I4 (I4 (I4 (I4 W (p * 5) ϟ (.string ek)) (p * 5+1) ϟ (vI et)) (p * 5+2) ϟ (vI es1)) (p * 5+3) ϟ (vS f a h)) (p * 5+4) ϟ (.bool em1);have I:(Aq (es.take p)).length=p * 5:=by rw[E4,length_take];congr 1;omega
 rw[Xh I P]at G;have D:∀b,b≠g->b≠B->((((((d.setCell ⟨B,3,none⟩ u).setCell ⟨g,p * 5,none⟩ (.string ek)).setCell ⟨g,p * 5+1,none⟩ (vI et)).setCell ⟨g,p * 5+2,none⟩ (vI es1)).setCell ⟨g,p * 5+3,none⟩ (vS f a h)).setCell ⟨g,p * 5+4,none⟩ (.bool em1)).heap[b]? =d.heap[b]? :=λb m H=>by
  rw[heap_setCell_other _ _ _ _ m,heap_setCell_other _ _ _ _ m,heap_setCell_other _ _ _ _ m,heap_setCell_other _ _ _ _ m,heap_setCell_other _ _ _ _ m,heap_setCell_other _ _ _ _ H]
 have O:((((((d.setCell ⟨B,3,none⟩ u).setCell ⟨g,p * 5,none⟩ (.string ek)).setCell ⟨g,p * 5+1,none⟩ (vI et)).setCell ⟨g,p * 5+2,none⟩ (vI es1)).setCell ⟨g,p * 5+3,none⟩ (vS f a h)).setCell ⟨g,p * 5+4,none⟩ (.bool em1)).heap.size=d.heap.size:=by simp[World.setCell]
 have lB:B<c.heap.size:=AX v;have lg:g<c.heap.size:=AX z;refine⟨?_,?_,?_,?_⟩
 ·rw[O];exact Nat.le_trans r.low (Nat.le_trans E s.size)
 ·rw[A,JS];exact G
 ·rw[A,lAp,length_cons,length_take,length_drop];omega
 ·refine Aa9 (R:=OR _ base) ϟ L (λi X=>?_) ?_
  ·have k:=r.rows i (by rw[lAp];omega);rw[AS ϟ,AS ϟ]at k;refine k.other (λb j=>?_);have F:b≠g:=tyAt_apart j z Ϡ;have U:b≠B:=tyAt_apart j v Ϡ;have lb:b<c.heap.size:=AX j;rw[D b F U,s.block b ϟ,K b F]
  ·refine⟨Q,k2,S,T,N.symm,CK (A2 C (λb j=>?_)) (Nat.le_trans r.low E)⟩;have:=(AM C j).1;exact D b ϟ ϟ
theorem C2(h:w'.heap[b]? =w.heap[b]?)(o:Nat):w'.cell? ⟨b,o,none⟩=w.cell? ⟨b,o,none⟩:=by simp[World.cell?,h]
theorem Df(h:w'.heap[b]? =w.heap[b]?)(o:Nat):w'.frozen? ⟨b,o,none⟩=w.frozen? ⟨b,o,none⟩:=by simp[World.frozen?,h]
theorem Y2(a:Ϟ w w')(h:Δ w B 0 (.string ek)/\Δ w B 1 (vI et)/\Δ w B 2 (vI es1)/\Δ w B 4 (.bool em1)/\Ξ w B 3)(c:B<w.heap.size):
 Δ w' B 0 (.string ek)/\Δ w' B 1 (vI et)/\Δ w' B 2 (vI es1)/\Δ w' B 4 (.bool em1)/\Ξ w' B 3:=
 ⟨cLz a h.1,cLz a h.2.1,cLz a h.2.2.1,cLz a h.2.2.2.1,(a.frozen (p:=⟨B,3,none⟩) c).trans h.2.2.2.2⟩
theorem UY{cap:Nat}{A B y:List Value}(h:w.ownsRow base 63 5 (vS (τ g) n cap) n (A++y++B))(a:A.length=p * 5)(hy:y.length=5):
 (∃u,Δ w g (p * 5) u)/\(∃u,Δ w g (p * 5+1) u)/\(∃u,Δ w g (p * 5+1+1) u)/\(∃u,Δ w g (p * 5+1+1+1) u)/\(∃u,Δ w g (p * 5+1+1+1+1) u)/\(∀j,Ξ w g j):=by
 have c:=World.ownsRow.cells h (g:=g) rfl;have one:∀j,j<5->∃u,Δ w g (p * 5+j) u:=λj f=>by
  have d:j<y.length:=ϟ;have:=c (p * 5+j) y[j] (Zl a (gEe d));rw[Ch,Nat.zero_add]at this;exact⟨_,this⟩
 exact⟨one 0 ϟ,one 1 ϟ,one 2 ϟ,one 3 ϟ,one 4 ϟ,TQ h⟩
structure Left(w w':World)(base:Nat)(v:Value):Prop where
 size:w.heap.size<=w'.heap.size
 blk:∀k,k<w.heap.size->v.ownBlock≠some k->w'.heap[k]? =w.heap[k]?
theorem Left.refl(w:ϛ)(base:Nat)(v:Value):Left w w base v:=⟨Nat.le_refl _,λ_ _ _=>rfl⟩
theorem KT(base:Nat)(ad:Ϝ)(cap:Nat)(es:List EM)(l:List Ent)(e:EM)(y:Ent)(w:ϛ)(h:OE w base (vS ad es.length cap) es l)(hr:∀v,Below base w v->ER v e y)(bs:Dh l)(hl:l.length<=100000)(bu:y.row.length<=2000000):
 η 46 #[vS ad es.length cap,e.val] w λr w'=>(∃(hh:Hdr) (cr:List EM) (l':List Ent),r= .returned (.tuple #[hdV hh,.bool (!hasB l (Az y))])/\OE w' base (hdV hh) cr l'/\(hasB l (Az y)=true->l'=l)/\(hasB l (Az y)=false->l'.Perm (y::l)/\Dh l')/\(∀g,(hdV hh).ownBlock=some g->(Value.slice ad es.length cap).ownBlock=some g\/w.heap.size<=g))/\Below base w w'/\Left w w' base (vS ad es.length cap):=by
 have HO:=hV0 h;have HR:ϝ (Dh l):=bs;have cb:ϝ (BG w ad es):=OE.at h;have ai:ϝ (ER w e y):=hr w bR;have al:ϝ (∀v,Below base w v->CT 86 #[hdV e.row] v λr w'=>(∃a8 c',r= .returned (vS a8 y.row.length c')/\A4 w' v (vS a8 y.row.length c') y.row)/\Ϟ v w'):=λv hb=>by
  have k:=Lp e.row.1 e.row.2.2 y.row v (hr v hb).row bu;unfold hdV;rw[(hr v hb).len];exact k
 have ak:=hIz (λ(f:EM) (v:ϛ)=>I6 f e v);have ci:ϝ (es.length=l.length):=h.len;have am:=h.low;obtain⟨n,hn⟩:∃n,es.length=n:=⟨_,rfl⟩;have D:=hV0 hn;have ao:ϝ (l.length=n):=by show _=_;rw[<-h.len];exact hn
 have ds:n<=100000:=by rw[<-hn,h.len];exact hl
 rw[hn];have cc:ϝ (∀(f:EM) (x:Ent),ER w f x->cmpP f.ent e.ent=cmpP x y):=λf x c=>Kg c (hr w bR);obtain⟨HB,ap⟩:=nM (hasB l (Az y));have a1:=hV0 ap;rw[ap];obtain⟨T,ay⟩:=nM y.row.length;have cm:=hV0 ay;rw[ay]at al;clear hn h hr bs hl bu ap ay;obtain⟨ek,et,es1,⟨i,o,t⟩,em1⟩:=e;unfold EM.val hdV at ak;unfold hdV at al;rw[show EM.val ⟨ek,et,es1,(i,o,t),em1⟩= .agg (ζ ek et es1 i o t em1)from rfl];dsimp only at ak al;have cs:Ϟ w (ξ w (ζ ek et es1 i o t em1) 63):=Ϫ;have k0:Δ (ξ w (ζ ek et es1 i o t em1) 63) w 0 (.string ek):=ϣ;have k1:Δ (ξ w (ζ ek et es1 i o t em1) 63) w 1 (vI et):=ϣ;have k2:Δ (ξ w (ζ ek et es1 i o t em1) 63) w 2 (vI es1):=ϣ;have k3:Δ (ξ w (ζ ek et es1 i o t em1) 63) w 3 (vS i o t):=ϣ;have k4:Δ (ξ w (ζ ek et es1 i o t em1) 63) w 4 (.bool em1):=ϣ;have kf:∀j,Ξ (ξ w (ζ ek et es1 i o t em1) 63) w j:=by intro j;go_simp
 have dh:(w.alloc (.cells (ζ ek et es1 i o t em1) 63)).heap.size=w.heap.size+1:=ϡ;have cp:ϝ (An (ξ w (ζ ek et es1 i o t em1) 63) w.heap.size 63):=⟨_,_,World.alloc_heap_new _ _⟩;go_enter func46,ntmps46;go_wp2;generalize w.alloc (.cells (ζ ek et es1 i o t em1) 63)=W0 at *
 go_loopw [6,7,8,9] (λlo hi _ _ wr=> ∃p q:Nat,lo=vI p/\hi=vI q/\Cut l y p q/\Ϟ W0 wr) (λlo hi _ _ _=>(intOf hi).toNat - (intOf lo).toNat)
 case atStart=>exact⟨0,n,rfl,rfl,by rw[<-ao.o];exact Cut.start l y,bR⟩
 case round=>
  obtain⟨p,q,rfl,rfl,hcut,F⟩:=hrel;have ag:=hV0 hcut;have dt:=hcut.le;have c8:q<=n:=by rw[<-ao.o];exact hcut.top
  have E:Ϟ w wr:=cs.trans (F.mono ϟ);have N:=cLz F k0;have Z:=cLz F k1;have c2:=cLz F k2;have c3:=cLz F k3;have c4:=cLz F k4;have lw:w.heap.size<wr.heap.size:=bLt _ _ N;clear hcut;by_cases dq:p<q
  ·obtain⟨m,hm⟩:∃m,(p+q)/2=m:=⟨_,rfl⟩;have bo:p<=m:=ϟ;have bp:m<q:=ϟ;have dx:IntKind.i64.wrap ((p:Int)+(q:Int))=(p:Int)+(q:Int):=by rw[BA];omega
   have dj:((p:Int)+(q:Int)).tdiv 2=(m:Int):=by rw[Int.tdiv_eq_ediv_of_nonneg ϟ];omega
   have dl:((p:Int)+(q:Int))/2=(m:Int):=ϟ;have dv:IntKind.i64.wrap (m:Int)=(m:Int):=by rw[BA];omega
   have af:m<l.length:=by rw[ao.o];omega
   obtain⟨M,o1,e1,x1,x2,x3,x4,x5⟩:=cb.o m (by rw[D.o];omega);subst e1;have V:=cLz E x1;have z2:=cLz E x2;have z3:=cLz E x3;have W:=cLz E x4;have z5:=cLz E x5;have bh:=(HO.o.rows m af).er;have be:=cc.o _ _ bh;have G:ϝ (∀v,CT 55 #[(es.getD m ϰ).val,.agg (ζ ek et es1 i o t em1)] v (θ v (vI (cmpP (l.getD m ϰ) y)))):=λv=>by rw[<-be];exact ak.o _ v
   have HG:ϝ (l.getD m ϰ=l[m]):=getD_at af;obtain⟨cv,av⟩:=nM (cmpP (l.getD m ϰ) y);have ah:=hV0 av;rw[av]at G;obtain⟨⟨fk,ft,fs,⟨f1,f2,f3⟩,fm⟩,hz⟩:∃z,es.getD m ϰ=z:=⟨_,rfl⟩;rw[hz]at V z2 z3 W z5 G;unfold EM.val hdV at G;unfold hdV at W;dsimp only at V z2 z3 W z5 G;have i1:(0:Int)<=(m:Int):=ϟ;have i2:(m:Int)<(n:Int):=ϟ;have dy:M<wr.heap.size:=bLt _ _ V;clear hz av be bh x1 x2 x3 x4 x5 hm ak;by_cases v0:cv=0
   ·subst v0;have X:ϝ (HB=true):=by
     show HB=true;rw[<-a1.o];refine AcI af ?_;rw[<-HG.o];exact GG.1 ah.o
    go_wp2
    go_region_held3
     (λw'=>ύ w' M (o1+m * 5) (.string fk) (vI ft) (vI fs) (vS f1 f2 f3) (.bool fm) (Ϗ w' w (.string ek) (vI et) (vI es1) (vS i o t) (.bool em1)))
     (first|go_keep|exact⟨cLz a V,cLz a z2,cLz a z3,cLz a W,cLz a z5,cLz a N,cLz a Z,cLz a c2,cLz a c3,cLz a c4⟩)
     (first|(go_at_call 55;refine(G.o _).mono ?_;rintro e2 J ⟨rfl,ab⟩;have a:Ϟ wr J:=bR.drew.trans ab))
    all_goals
     have an:Ϟ w J:=bT E a;have cx:Below base w J:=an.mono am;go_wp2
     go_ret2
     refine⟨⟨(some ⟨M,o1,none⟩,n,cap),es,l,?_,?_,λ_=>rfl,λh=>?_,λg hg=>.inl hg⟩,cx,an.size,λk I _=>an.block k I⟩
     ·rw[X.o];rfl
     ·rw[<-D.o];exact HO.o.below an
     ·rw[X.o]at h;cases h
   ·have d1:(cv==0)=false:=by simpa using v0
    by_cases v1:cv<0
    ·have cj:ϝ (ltP l[m] y):=by
      show ltP l[m] y;rw[<-HG.o];exact Fc.1 (by rw[ah.o];exact v1)
     go_wp2
     go_region_held3
      (λw'=>ύ w' M (o1+m * 5) (.string fk) (vI ft) (vI fs) (vS f1 f2 f3) (.bool fm) (Ϗ w' w (.string ek) (vI et) (vI es1) (vS i o t) (.bool em1)))
      (first|go_keep|exact⟨cLz a V,cLz a z2,cLz a z3,cLz a W,cLz a z5,cLz a N,cLz a Z,cLz a c2,cLz a c3,cLz a c4⟩)
      (first|(go_at_call 55;refine(G.o _).mono ?_;rintro e2 J ⟨rfl,ab⟩;have a:Ϟ wr J:=bR.drew.trans ab))
     all_goals
      go_wp2;go_roundw
      case rel=>exact⟨m+1,q,by go_num,rfl,ag.o.up HR.o bp af bo cj.o,bT F a⟩
      case measure=>simp[intOf];omega
    ·have cd:ϝ (ltP y l[m]):=by
      show ltP y l[m];rcases ltP_tri l[m] y with h3|h3|h3
      ·have k:ltP (l.getD m ϰ) y:=by rw[HG.o];exact h3
       exact absurd (Fc.2 k) (by rw[ah.o];exact v1)
      ·have k:Eb (l.getD m ϰ) y:=by rw[HG.o];exact h3
       exact absurd (GG.2 k) (by rw[ah.o];exact v0)
      ·exact h3
     go_wp2
     go_region_held3
      (λw'=>ύ w' M (o1+m * 5) (.string fk) (vI ft) (vI fs) (vS f1 f2 f3) (.bool fm) (Ϗ w' w (.string ek) (vI et) (vI es1) (vS i o t) (.bool em1)))
      (first|go_keep|exact⟨cLz a V,cLz a z2,cLz a z3,cLz a W,cLz a z5,cLz a N,cLz a Z,cLz a c2,cLz a c3,cLz a c4⟩)
      (first|(go_at_call 55;refine(G.o _).mono ?_;rintro e2 J ⟨rfl,ab⟩;have a:Ϟ wr J:=bR.drew.trans ab))
     all_goals
      go_wp2;go_roundw
      case rel=>exact⟨p,m,rfl,rfl,ag.o.down HR.o bp af bo cd.o,bT F a⟩
      case measure=>simp[intOf];omega
  ·have c7:p=q:=ϟ;subst c7;have X:ϝ (HB=false):=by show HB=false;rw[<-a1.o];exact ag.o.none
   have aq:OE wr base (vS ad n cap) es l:=by rw[<-D.o];exact HO.o.below E
   have ck:=hV0 aq;have cl:ϝ (wr.ownsRow base 63 5 (vS ad n cap) n (Aq es)):=by
    have k:=aq.own;rw[D.o]at k;exact k
   have b6:∀b,(Value.slice ad n cap).ownBlock=some b->b<w.heap.size:=λb hb=>by
    have k:=HO.o.own;rw[D.o]at k;exact(AM k hb).2
   have a6:=hV0 b6;have cu:∀j,Ξ wr w j:=λj=>(F.frozen (p:=⟨w,j,none⟩) (by show w.heap.size<_;omega)).trans (kf j);have co:ϝ (An wr w 63):=Ae cp.o F;obtain⟨S,bm,b8,b9,ca⟩:=info_parts Nk;have K:ϝ (Tryz.prog.info? 63=some S/\S.zero=some (.agg #[ϊ,ω,ω,ψ,ϋ])/\S.size=5/\S.bytes=64):=⟨bm,b8,b9,ca⟩;have di:base<=wr.heap.size:=Nat.le_trans am E.size;have dw:IntKind.i64.wrap ((p:Int)+1)=(p:Int)+1:=by rw[BA];omega
   clear bm b8 b9 ca aq b6;go_wp2_with (at_builtin;refine wpList_append_lies _ rfl (.tmp 33) (.tmp 35) 26 rfl base 63 S (.agg #[ϊ,ω,ω,ψ,ϋ]) 5 64 underlying26 K.o.1 K.o.2.1 K.o.2.2.1 K.o.2.2.2 rfl Ϡ (vS ad n cap) n (Aq es) rfl (World.ownsRow.alloc cl.o _) ⟨wr,0,none⟩ 1 1 [ϊ,ω,ω,ψ,ϋ] rfl rfl (Dd _ _ _ _ _ _ _) (by intro u hu;simp at hu;rcases hu with rfl|rfl|rfl|rfl|rfl<;>rfl) Ϡ ϩ ϟ Ϥ (wr.heap.size+1) ϡ ?_;intro g d C R ae ar dr);have bd:n+1<=d:=Qk R;have bi:=AM R (g:=g) rfl;have a5:ϝ (OE C base (vS (τ g) (n+1) d) (es++[Ht]) (l++[Wp])/\Below base wr C):=by
    have k:=IG (e:=Ht) (x:=Wp) (g:=g) (cap2:=d) ck.o bR (Acf _ _) (by rw[D.o];exact R) ae;rw[D.o]at k;exact k
   have bc:C.heap[w.heap.size]? =wr.heap[w.heap.size]? :=by
    rw[ae.block w.heap.size Ϥ (λe=>by have:=a6.o _ e.symm;omega)];exact Below.heap_alloc _ _ _ lw
   have bk:g≠w.heap.size:=by
    rcases ar with c|c
    ·have:=a6.o g c;omega
    ·omega
   have bj:∀g',(Value.slice (τ g) (n+1) d).ownBlock=some g'->(Value.slice ad n cap).ownBlock=some g'\/w.heap.size<=g':=λg' cw=>by
    have e:g=g':=by cases cw;rfl
    subst e;rcases ar with c|c
    ·exact .inl c
    ·exact .inr ϟ
   have a0:=hV0 bj;have bn:∀k,k<w.heap.size->(Value.slice ad n cap).ownBlock≠some k->C.heap[k]? =w.heap[k]? :=λk I Q=>by
    rw[ae.block k Ϥ (λe=>Q e.symm),Below.heap_alloc _ _ _ ϟ];exact E.block k I
   have cf:=hV0 bn;have du:wr.heap.size<=C.heap.size:=by have:=ae.size;simp at this;omega
   obtain⟨bl,ct⟩:=nM (n - p);have c9:p+bl=n:=ϟ;obtain⟨d2,aw,bg⟩:=VF g (n+1) d (p+1) ϟ bd;obtain⟨s2,ax,bw⟩:=VF g (n+1) d p ϟ bd;rw[show n+1 - (p+1)=bl by omega]at aw;rw[show n+1 - p=bl+1 by omega]at ax;have dm:∀w,(Instr.sliceAt 26 (vS (τ g) (n+1) d) (some (vI ((p:Int)+1))) none none).run Tryz.prog w= .ok (vS (some d2) bl (d - (p+1))) w:=aw;have dp:∀w,(Instr.sliceAt 26 (vS (τ g) (n+1) d) (some (vI (p:Int))) none none).run Tryz.prog w= .ok (vS (some s2) (bl+1) (d - p)) w:=ax;have bx:Aq es=Aq (es.take p)++Aq (es.drop p):=by rw[<-JS,take_append_drop]
   have a2:ϝ ((Aq (es.take p)).length=p * 5):=by show _=_;rw[E4,length_take,D.o,Nat.min_eq_left ϟ]
   have cg:ϝ ((Aq (es.drop p)).length=bl * 5):=by show _=_;rw[E4,length_drop,D.o,ct]
   have a4:ϝ (∀ty,∃w3,(Builtin.copy_ #[26,26] ty #[vS (some d2) bl (d - (p+1)),vS (some s2) (bl+1) (d - p)]).run Tryz.prog C.drew= .ok (goInt bl) w3/\
    (∃y,y.length=5/\w3.ownsRow base 63 5 (vS (τ g) (n+1) d) (n+1) (Aq (es.take p)++y++Aq (es.drop p)))/\w3.heap.size=C.drew.heap.size/\(∀b,b≠g->w3.heap[b]? =C.drew.heap[b]?)/\Below g C.drew w3):=λty=>
    Zi (w2:=C.drew) (na:=p) (nb:=bl) (s:=5) (z:=[ϊ,ω,ω,ψ,ϋ]) 26 63 S underlying26 K.o.1 K.o.2.2.1 (World.ownsRow.drew (by rw[<-bx];exact R)) a2.o cg.o rfl c9 (Ql _) (some d2) (some s2) (d - (p+1)) (d - p) (λh=>congrArg some (bg ϟ)) (λh=>congrArg some (bw ϟ)) ty
   have cn:ϝ (An C g 63):=A6 R rfl;clear aw ax bg bw R ae bx ar bj bn;go_wp2
   go_region_law (first
    |(obtain⟨A,bv,⟨y5,b7,br⟩,bz,bb,ba⟩:=a4.o 3;refine Zj (by rfl) (.tmp 40) (.tmp 43) (by rfl) (vS (some d2) bl (d - (p+1))) (vS (some s2) (bl+1) (d - p)) _ (by simp[Act.eval,Act.put]) (by simp[Act.eval,Act.put]) bv ?_))
   all_goals
    have az:Below base w A:=by
     have c:Below base w wr:=E.mono am;have h2:Below base w C:=c.trans a5.o.2;exact h2.trans (bR.drew.trans (ba.mono bi.1))
    have da:A.heap.size=C.heap.size:=bz;have au:∀b,b≠g->A.heap[b]? =C.heap[b]? :=bb;have H:A.heap[w.heap.size]? =wr.heap[w.heap.size]? :=(au _ bk.symm).trans bc;have cq:ϝ (Δ A w 0 (.string ek)/\Δ A w 1 (vI et)/\Δ A w 2 (vI es1)/\Δ A w 4 (.bool em1)/\Ξ A w 3):=
     ⟨(C2 H 0).trans N,(C2 H 1).trans Z,(C2 H 2).trans c2,(C2 H 4).trans c4,(Df H 3).trans (cu 3)⟩
    have d3:Δ A w 3 (vS i o t):=(C2 H 3).trans c3;have db:w.heap.size<A.heap.size:=ϟ;have dz:g<A.heap.size:=ϟ;have a3:=hV0 br;have a7:=hV0 b7;have Y:ϝ ((∀b,b≠g->A.heap[b]? =C.heap[b]?)/\A.heap.size=C.heap.size/\Below base w A):=⟨au,da,az⟩;clear br b7 bb au ba bz bv a4 H N Z c2 c3 c4 az;have i1:(0:Int)<=(p:Int):=ϟ;have i2:(p:Int)<((n+1:Nat):Int):=ϟ;have i3:(p:Int)<(n:Int)+1:=ϟ;go_wp2_with (go_at_call 86;refine(al.o _ Y.o.2.2).mono ?_;rintro e2 U ⟨⟨L,O,rfl,bq⟩,aa⟩;have aj:ϝ (A4 U A (vS L T O) y.row/\Ϟ A U):=⟨bq,aa⟩;have b3:=cLz aa d3;obtain⟨b0,M,b2,b4,b5⟩:=Y2 aa cq.o db;have d0:w.heap.size<U.heap.size:=bLt _ _ b3;obtain⟨⟨u0,g0⟩,⟨u1,g1⟩,⟨u2,g2⟩,⟨u3,g3⟩,⟨u4,g4⟩,P⟩:=UY (own_below a3.o aa) a2.o a7.o;have dc:=P (p * 5);have dd:=P (p * 5+1);have de:=P (p * 5+1+1);have df:=P (p * 5+1+1+1);have dg:=P (p * 5+1+1+1+1);clear P bq aa);have c5:=Adl (u:=vS L T O) a5.o.1 D.o ci.o c8 a7.o a3.o (Nat.le_of_eq Y.o.2.1.symm) Y.o.1 aj.o.2 aj.o.1 cm.o bk (AW co.o bc) cn.o ai.o.key ai.o.time ai.o.seq ai.o.met;have ac:base<=g:=bi.1;have h6:Below base w U:=Y.o.2.2.trans (aj.o.2.mono ϟ);have h7:Below base w (φ U w 3 (vS L T O)):=h6.setCell am _;have a9:=((((h7.setCell (p:=⟨g,p * 5,none⟩) ac (.string ek)).setCell (p:=⟨g,p * 5+1,none⟩) ac (vI et)).setCell (p:=⟨g,p * 5+2,none⟩) ac (vI es1)).setCell (p:=⟨g,p * 5+3,none⟩) ac (vS L T O)).setCell (p:=⟨g,p * 5+4,none⟩) ac (.bool em1);have cz:∀k,k<w.heap.size->(Value.slice ad n cap).ownBlock≠some k->k≠g:=λk I Q e=>by
     subst e;rcases a0.o k rfl with c|c
     ·exact Q c
     ·omega
    have cy:∀k,k<w.heap.size->(Value.slice ad n cap).ownBlock≠some k->((((((U.setCell ⟨w,3,none⟩ (vS L T O)).setCell ⟨g,p * 5,none⟩ (.string ek)).setCell ⟨g,p * 5+1,none⟩ (vI et)).setCell ⟨g,p * 5+2,none⟩ (vI es1)).setCell ⟨g,p * 5+3,none⟩ (vS L T O)).setCell ⟨g,p * 5+4,none⟩ (.bool em1)).heap[k]? =w.heap[k]? :=λk I Q=>by
     have c:=cz k I Q;rw[heap_setCell_other _ _ _ _ c,heap_setCell_other _ _ _ _ c,heap_setCell_other _ _ _ _ c,heap_setCell_other _ _ _ _ c,heap_setCell_other _ _ _ _ c,heap_setCell_other _ _ _ _ ϥ,aj.o.2.block k ϟ,Y.o.1 k c,cf.o k I Q]
    go_ret2
    refine⟨⟨(some ⟨g,0,none⟩,n+1,d),_,l.take p++y::l.drop p,?_,c5,λh=>?_,λ_=>⟨Cut.perm p,ag.o.rise HR.o⟩,a0.o⟩,a9,a9.size,cy⟩
    ·rw[X.o];rfl
    ·rw[X.o]at h;cases h
end bf
end Go.Proofs.YtdohnkkbkfhphaaGreat
