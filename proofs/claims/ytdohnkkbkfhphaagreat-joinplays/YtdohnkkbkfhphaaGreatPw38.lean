import Derived.Test.YtdohnkkbkfhphaaGreatPw37
set_option linter.all false
set_option maxHeartbeats 16000000
set_option maxRecDepth 100000
open Go.ChangeShapes Go.WideShapes Go.ChangeAt Go.RowKit List
open Inhabited renaming default->ϰ
namespace Go.Proofs.YtdohnkkbkfhphaaGreat
open Go.Proofs.Tryz
namespace bf
open vl
attribute [local go_sem] Oper.semAt_some
variable {b : Buf} {j k : Nat} {l : List Ent} {f : Bool}
theorem Np{w:ϛ}{x:BX}(h:bufAt w b x)(e:k<(partsB b).length):
 ((x.m::x.rs).getD k ϰ).1.2.1=((partsB b).getD k ϰ).length/\BG w ((x.m::x.rs).getD k ϰ).1.1 ((x.m::x.rs).getD k ϰ).2/\ERs w ((x.m::x.rs).getD k ϰ).2 ((partsB b).getD k ϰ):=by
 have g:k<(x.m::x.rs).length:=by
  have:(partsB b).length=(x.m::x.rs).length:=by simp[partsB,h.rlen]
  omega
 have c:(x.m::x.rs).getD k ϰ∈x.m::x.rs:=AD g;have a:ERs w ((x.m::x.rs).getD k ϰ).2 ((partsB b).getD k ϰ):=by
  cases k with
  |zero=>exact h.mem
  |succ k=>
   have d:k<b.runs.length:=by simpa[partsB]using e
   simpa[partsB]using h.runs k d
 exact⟨by rw[(h.len _ c).1,a.1],h.ems _ c,a⟩
theorem Nq(c:k<(partsB b).length)(a:j<((partsB b).getD k ϰ).length):((partsB b).getD k ϰ).getD j ϰ∈Aa b:=
 mem_flatten.2 ⟨_,AD c,AD a⟩
theorem LL(b:Buf)(x:BX)(w:ϛ)(h:bufAt w b x)(hs:(Aa b).length<=100000)(bb:∀y∈Aa b,y.row.length<=2000000):
 η 81 #[AF b x] w λr N=>(∃(hh:Hdr) (es:List EM) (l:List Ent) (f:Bool),r= .returned (.tuple #[hdV hh,.bool f])/\OE N (w.heap.size+1) (hdV hh) es l/\ES (Aa b) l f)/\Ϟ w N:=by
 have HP:ϝ (∀k,k<(partsB b).length->((x.m::x.rs).getD k ϰ).1.2.1=((partsB b).getD k ϰ).length/\BG w ((x.m::x.rs).getD k ϰ).1.1 ((x.m::x.rs).getD k ϰ).2/\ERs w ((x.m::x.rs).getD k ϰ).2 ((partsB b).getD k ϰ)):=λk hk=>Np h hk;have aw:ϝ (∀k j,k<(partsB b).length->j<((partsB b).getD k ϰ).length->(((partsB b).getD k ϰ).getD j ϰ).row.length<=2000000):=λk j hk hj=>bb _ (Nq hk hj);have HD:ϝ (F8 w x.ra (x.rs.map (·.1))):=h.hds;have a8:=h.few;have ai:ϝ ((partsB b).length=x.rs.length+1):=by show _=_;simp[partsB,h.rlen]
 have HS:ϝ ((partsB b).flatten.length<=100000):=hs;have au:ϝ (Aa b=(partsB b).flatten):=rfl;clear h hs bb;obtain⟨EB,a4⟩:=nM (Aa b);rw[a4]at au⊢;obtain⟨a,a5⟩:=nM (partsB b);rw[a5]at HP aw ai HS au;clear a4 a5;obtain⟨ra,rc,⟨⟨V,W,m3⟩,ml⟩,T⟩:=x;obtain⟨ag,bk,bm⟩:=b;unfold AF hdV;dsimp only at HP HD a8 ai⊢;obtain⟨n,hn⟩:∃n,T.length=n:=⟨_,rfl⟩;have HN:ϝ (T.length=n):=hn;rw[hn]at ai a8;rw[hn];clear hn;have ay:Ϟ w (ξ w (ν ag V W m3 ra n rc) 29):=Ϫ;have k0:Δ (ξ w (ν ag V W m3 ra n rc) 29) w 0 (vI ag):=ϣ;have k1:Δ (ξ w (ν ag V W m3 ra n rc) 29) w 1 (vS V W m3):=ϣ;have k2:Δ (ξ w (ν ag V W m3 ra n rc) 29) w 2 (vS ra n rc):=ϣ;have bc:(w.alloc (.cells (ν ag V W m3 ra n rc) 29)).heap.size=w.heap.size+1:=ϡ;go_enter func81,ntmps81;go_wp2;generalize w.alloc (.cells (ν ag V W m3 ra n rc) 29)=m at *
 go_loopw [4,5,6,7,8,9] (λo fi ii _ _ _ wr=> ∃(k:Nat) (hh:Hdr) (es:List EM) (l:List Ent) (f:Bool),o=hdV hh/\fi= .bool f/\ii=vI ((k:Int) - 1)/\k<=n+1/\OE wr m (hdV hh) es l/\ES ((a.take k).flatten) l f/\Ϟ m wr) (λ_ _ ii _ _ _ _=>n+1 - (intOf ii+1).toNat)
 case atStart=>exact⟨0,(none,0,0),[],[],true,rfl,rfl,rfl,Nat.zero_le _,BD nR,ES.nil,bR⟩
 case round=>
  obtain⟨k,hh,es,l,f,rfl,rfl,rfl,hk,a9,a7,aj⟩:=hrel;have av:ϝ (OE wr m (hdV hh) es l):=a9;have X:ϝ (ES ((a.take k).flatten) l f):=a7;have a6:Ϟ w wr:=ay.trans (aj.mono ϟ);have c0:=cLz aj k0;have c1:=cLz aj k1;have c2:=cLz aj k2;have lw:w.heap.size<wr.heap.size:=bLt _ _ c0;clear a9 a7;by_cases bg:k<n+1
  ·have D:k<a.length:=by rw[ai.o];exact bg
   cases k with
   |zero=>
    obtain⟨K,v⟩:∃z:Nat,ϝ (z=0):=⟨0,rfl⟩;have E:=HP.o 0 (by rw[ai.o];omega);obtain⟨pl,Q⟩:=nM ((a.getD K ϰ).length);have Y:ϝ ((a.getD K ϰ).length=pl):=Q;have a2:pl=W:=by rw[<-Q,v.o,<-E.1];rfl
    have ar:ϝ (BG w V ml):=E.2.1;have ah:ϝ (ERs w ml (a.getD K ϰ)):=by rw[v.o];exact E.2.2
    have D:K<a.length:=by rw[v.o];exact D
    have X:ϝ (ES ((a.take K).flatten) l f):=by rw[v.o];exact X.o
    obtain⟨S,ba⟩:=nM ml;rw[ba]at ar ah;subst a2;have bd:pl<=9223372036854775807:=by
     have t:=JU (ps:=a) (i:=K) (k:=pl) D;unfold GA at t;rw[lAp,length_take,Q]at t;have:=HS.o;omega
    clear E Q ba;obtain⟨o1,o2,o3⟩:=hh;unfold hdV;dsimp only;go_wp2
    go_loopw [4,5,8,9] (λo fi jj _ wr=> ∃(j:Nat) (hh:Hdr) (es:List EM) (l:List Ent) (f:Bool),o=hdV hh/\fi= .bool f/\jj=vI j/\j<=pl/\OE wr m (hdV hh) es l/\ES (GA a K j) l f/\Ϟ m wr) (λ_ _ jj _ _=>pl - (intOf jj).toNat)
    case atStart=>exact⟨0,(o1,o2,o3),es,l,f,rfl,rfl,rfl,Nat.zero_le _,av.o,by rw[OX];exact X.o,aj⟩
    case round=>
     obtain⟨j,an,s,c,Z,rfl,rfl,rfl,hj,af,ac,B⟩:=hrel;have P:ϝ (OE wr m (hdV an) s c):=af;have C:ϝ (ES (GA a K j) c Z):=ac;have al:Ϟ w wr:=ay.trans (B.mono ϟ);have e0:=cLz B k0;have e1:=cLz B k1;have e2:=cLz B k2;have bj:w.heap.size<wr.heap.size:=bLt _ _ e0;have ap:c.length<=100000:=Nat.le_trans ac.len (Nat.le_trans (JU D) HS.o);obtain⟨t,h2,G⟩:=an;have a0:h2=s.length:=by
      obtain⟨ad,cp,e⟩:=af.form;unfold hdV at e
      cases e;rfl
     subst a0;unfold hdV at P⊢;dsimp only at P⊢;by_cases ao:j<pl
     ·have ae:j<(a.getD K ϰ).length:=by rw[Y.o];exact ao
      obtain⟨b1,o1,ee,z1,z2,z3,z4,z5⟩:=BM ar.o al j (by rw[ah.o.1,Y.o];exact ao);subst ee;have am:=ah.o.2 j ae;have A:ϝ (CT 46 #[vS t s.length G,(S.getD j ϰ).val] wr λr N=>(∃(hh:Hdr) (ax:List EM) (R:List Ent),r= .returned (.tuple #[hdV hh,.bool (!hasB c (Az ((a.getD K ϰ).getD j ϰ)))])/\OE N m (hdV hh) ax R/\(hasB c (Az ((a.getD K ϰ).getD j ϰ))=true->R=c)/\(hasB c (Az ((a.getD K ϰ).getD j ϰ))=false->R.Perm (((a.getD K ϰ).getD j ϰ)::c)/\Dh R)/\(∀g,(hdV hh).ownBlock=some g->(Value.slice t s.length G).ownBlock=some g\/wr.heap.size<=g))/\Below m.heap.size wr N/\Left wr N m.heap.size (vS t s.length G)):=
       KT m.heap.size t G s c (S.getD j ϰ) ((a.getD K ϰ).getD j ϰ) wr P.o (λw1 az=>am.below (al.trans (az.mono ϟ))) C.o.rise ap (aw.o K j D ae)
      have ak:ϝ (GA a K (j+1)=GA a K j++[(a.getD K ϰ).getD j ϰ]):=OW ae;obtain⟨⟨fk,ft,fs,⟨f1,f3,f4⟩,fm⟩,U⟩:∃z,S.getD j ϰ=z:=⟨_,rfl⟩;rw[U]at z1 z2 z3 z4 z5 A;unfold EM.val at A;unfold hdV at z4;dsimp only at z1 z2 z3 z4 z5 A;rw[show hdV (f1,f3,f4)=vS f1 f3 f4 from rfl]at A;obtain⟨u,aa⟩:=nM (hasB c (Az ((a.getD K ϰ).getD j ϰ)));have O:ϝ (hasB c (Az ((a.getD K ϰ).getD j ϰ))=u):=aa;rw[aa]at A;have i1:(0:Int)<=(j:Int):=ϟ;have i2:(j:Int)<(pl:Int):=ϟ;have bi:b1<wr.heap.size:=bLt _ _ z1;clear U aa am af ac ap
      cases Z with
      |true=>
       go_wp2_with (go_at_call 46;refine A.o.mono ?_;rintro e6 w6 ⟨⟨⟨J,L,M⟩,F,d,rfl,q,I,H,_⟩,ab,_⟩;unfold hdV at q⊢;dsimp only at q⊢;have p:ϝ (OE w6 m (vS J L M) F d/\(u=true->d=c)/\(u=false->d.Perm (((a.getD K ϰ).getD j ϰ)::c)/\Dh d)):=⟨q,I,H⟩;clear q I H;cases u)
       all_goals
        go_roundw
        case rel=>exact⟨j+1,(J,L,M),F,d,_,rfl,rfl,by go_num,ϟ,p.o.1,by rw[ak.o];first|exact C.o.more O.o (p.o.2.2 rfl).1 (p.o.2.2 rfl).2|(rw[p.o.2.1 rfl];exact C.o.there O.o),B.trans ab⟩
        case measure=>simp[intOf];omega
      |false=>
       go_wp2_with (go_at_call 46;refine A.o.mono ?_;rintro e6 w6 ⟨⟨⟨J,L,M⟩,F,d,rfl,q,I,H,_⟩,ab,_⟩;unfold hdV at q⊢;dsimp only at q⊢;have p:ϝ (OE w6 m (vS J L M) F d/\(u=true->d=c)/\(u=false->d.Perm (((a.getD K ϰ).getD j ϰ)::c)/\Dh d)):=⟨q,I,H⟩;clear q I H;cases u)
       all_goals
        go_roundw
        case rel=>exact⟨j+1,(J,L,M),F,d,_,rfl,rfl,by go_num,ϟ,p.o.1,by rw[ak.o];first|exact C.o.more O.o (p.o.2.2 rfl).1 (p.o.2.2 rfl).2|(rw[p.o.2.1 rfl];exact C.o.there O.o),B.trans ab⟩
        case measure=>simp[intOf];omega
     ·have a1:j=pl:=ϟ;subst a1;go_wp2;go_roundw
      case rel=>exact⟨K+1,(t,s.length,G),s,c,Z,rfl,rfl,(by have hK:=v.o;subst hK;first|rfl|go_num|(congr 1;omega)),by have:=v.o;omega,P.o,by rw[<-Lo D,Y.o];exact C.o,B⟩
      case measure=>(have hK:=v.o;subst hK;simp[intOf]<;>omega)
   |succ k=>
    obtain⟨K,v⟩:∃z:Nat,ϝ (z=k+1):=⟨k+1,rfl⟩;obtain⟨b2,o4,e4,x4⟩:=HD.o k (by rw[lMp,HN.o];omega);subst e4;have z0:=cLz a6 x4;have a3:(T.map (·.1)).getD k (none,0,0)=(T.getD k ϰ).1:=by rw[gDe,getElem?_map,gEe (by rw[HN.o];omega),gDe,gEe (by rw[HN.o];omega)];rfl
    rw[a3]at z0;have E:ϝ ((T.getD k ϰ).1.2.1=(a.getD (k+1) ϰ).length/\BG w (T.getD k ϰ).1.1 (T.getD k ϰ).2/\ERs w (T.getD k ϰ).2 (a.getD (k+1) ϰ)):=HP.o (k+1) D;obtain⟨⟨⟨m4,m5,m6⟩,S⟩,U⟩:∃z,T.getD k ϰ=z:=⟨_,rfl⟩;rw[U]at z0 E;unfold hdV at z0;dsimp only at z0 E;obtain⟨pl,Q⟩:=nM ((a.getD K ϰ).length);have Y:ϝ ((a.getD K ϰ).length=pl):=Q;have a2:pl=m5:=by rw[<-Q,v.o,<-E.o.1]
    have ar:ϝ (BG w m4 S):=E.o.2.1;have ah:ϝ (ERs w S (a.getD K ϰ)):=by rw[v.o];exact E.o.2.2
    have D:K<a.length:=by rw[v.o];exact D
    have X:ϝ (ES ((a.take K).flatten) l f):=by rw[v.o];exact X.o
    subst a2;have bd:pl<=9223372036854775807:=by
     have t:=JU (ps:=a) (i:=K) (k:=pl) D;unfold GA at t;rw[lAp,length_take,Q]at t;have:=HS.o;omega
    have aq:((k+1:Nat):Int) - 1=(k:Int):=ϟ;have i3:(0:Int)<=(k:Int):=ϟ;have i4:(k:Int)<(n:Int):=ϟ;clear E Q U a3 x4;obtain⟨o1,o2,o3⟩:=hh;unfold hdV;dsimp only;rw[aq];clear aq;go_wp2
    go_loopw [4,5,8,9] (λo fi jj _ wr=> ∃(j:Nat) (hh:Hdr) (es:List EM) (l:List Ent) (f:Bool),o=hdV hh/\fi= .bool f/\jj=vI j/\j<=pl/\OE wr m (hdV hh) es l/\ES (GA a K j) l f/\Ϟ m wr) (λ_ _ jj _ _=>pl - (intOf jj).toNat)
    case atStart=>exact⟨0,(o1,o2,o3),es,l,f,rfl,rfl,rfl,Nat.zero_le _,av.o,by rw[OX];exact X.o,aj⟩
    case round=>
     obtain⟨j,an,s,c,Z,rfl,rfl,rfl,hj,af,ac,B⟩:=hrel;have P:ϝ (OE wr m (hdV an) s c):=af;have C:ϝ (ES (GA a K j) c Z):=ac;have al:Ϟ w wr:=ay.trans (B.mono ϟ);have e0:=cLz B k0;have e1:=cLz B k1;have e2:=cLz B k2;have bj:w.heap.size<wr.heap.size:=bLt _ _ e0;have ap:c.length<=100000:=Nat.le_trans ac.len (Nat.le_trans (JU D) HS.o);obtain⟨t,h2,G⟩:=an;have a0:h2=s.length:=by
      obtain⟨ad,cp,e⟩:=af.form;unfold hdV at e
      cases e;rfl
     subst a0;unfold hdV at P⊢;dsimp only at P⊢;by_cases ao:j<pl
     ·have ae:j<(a.getD K ϰ).length:=by rw[Y.o];exact ao
      obtain⟨b1,o1,ee,z1,z2,z3,z4,z5⟩:=BM ar.o al j (by rw[ah.o.1,Y.o];exact ao);subst ee;have am:=ah.o.2 j ae;have A:ϝ (CT 46 #[vS t s.length G,(S.getD j ϰ).val] wr λr N=>(∃(hh:Hdr) (ax:List EM) (R:List Ent),r= .returned (.tuple #[hdV hh,.bool (!hasB c (Az ((a.getD K ϰ).getD j ϰ)))])/\OE N m (hdV hh) ax R/\(hasB c (Az ((a.getD K ϰ).getD j ϰ))=true->R=c)/\(hasB c (Az ((a.getD K ϰ).getD j ϰ))=false->R.Perm (((a.getD K ϰ).getD j ϰ)::c)/\Dh R)/\(∀g,(hdV hh).ownBlock=some g->(Value.slice t s.length G).ownBlock=some g\/wr.heap.size<=g))/\Below m.heap.size wr N/\Left wr N m.heap.size (vS t s.length G)):=
       KT m.heap.size t G s c (S.getD j ϰ) ((a.getD K ϰ).getD j ϰ) wr P.o (λw1 az=>am.below (al.trans (az.mono ϟ))) C.o.rise ap (aw.o K j D ae)
      have ak:ϝ (GA a K (j+1)=GA a K j++[(a.getD K ϰ).getD j ϰ]):=OW ae;obtain⟨⟨fk,ft,fs,⟨f1,f3,f4⟩,fm⟩,U⟩:∃z,S.getD j ϰ=z:=⟨_,rfl⟩;rw[U]at z1 z2 z3 z4 z5 A;unfold EM.val at A;unfold hdV at z4;dsimp only at z1 z2 z3 z4 z5 A;rw[show hdV (f1,f3,f4)=vS f1 f3 f4 from rfl]at A;obtain⟨u,aa⟩:=nM (hasB c (Az ((a.getD K ϰ).getD j ϰ)));have O:ϝ (hasB c (Az ((a.getD K ϰ).getD j ϰ))=u):=aa;rw[aa]at A;have i1:(0:Int)<=(j:Int):=ϟ;have i2:(j:Int)<(pl:Int):=ϟ;have bi:b1<wr.heap.size:=bLt _ _ z1;clear U aa am af ac ap
      cases Z with
      |true=>
       go_wp2_with (go_at_call 46;refine A.o.mono ?_;rintro e6 w6 ⟨⟨⟨J,L,M⟩,F,d,rfl,q,I,H,_⟩,ab,_⟩;unfold hdV at q⊢;dsimp only at q⊢;have p:ϝ (OE w6 m (vS J L M) F d/\(u=true->d=c)/\(u=false->d.Perm (((a.getD K ϰ).getD j ϰ)::c)/\Dh d)):=⟨q,I,H⟩;clear q I H;cases u)
       all_goals
        go_roundw
        case rel=>exact⟨j+1,(J,L,M),F,d,_,rfl,rfl,by go_num,ϟ,p.o.1,by rw[ak.o];first|exact C.o.more O.o (p.o.2.2 rfl).1 (p.o.2.2 rfl).2|(rw[p.o.2.1 rfl];exact C.o.there O.o),B.trans ab⟩
        case measure=>simp[intOf];omega
      |false=>
       go_wp2_with (go_at_call 46;refine A.o.mono ?_;rintro e6 w6 ⟨⟨⟨J,L,M⟩,F,d,rfl,q,I,H,_⟩,ab,_⟩;unfold hdV at q⊢;dsimp only at q⊢;have p:ϝ (OE w6 m (vS J L M) F d/\(u=true->d=c)/\(u=false->d.Perm (((a.getD K ϰ).getD j ϰ)::c)/\Dh d)):=⟨q,I,H⟩;clear q I H;cases u)
       all_goals
        go_roundw
        case rel=>exact⟨j+1,(J,L,M),F,d,_,rfl,rfl,by go_num,ϟ,p.o.1,by rw[ak.o];first|exact C.o.more O.o (p.o.2.2 rfl).1 (p.o.2.2 rfl).2|(rw[p.o.2.1 rfl];exact C.o.there O.o),B.trans ab⟩
        case measure=>simp[intOf];omega
     ·have a1:j=pl:=ϟ;subst a1;go_wp2;go_roundw
      case rel=>exact⟨K+1,(t,s.length,G),s,c,Z,rfl,rfl,(by have hK:=v.o;subst hK;first|rfl|go_num|(congr 1;omega)),by have:=v.o;omega,P.o,by rw[<-Lo D,Y.o];exact C.o,B⟩
      case measure=>(have hK:=v.o;subst hK;simp[intOf]<;>omega)
  ·have be:k=n+1:=ϟ;subst be;obtain⟨o1,o2,o3⟩:=hh;unfold hdV;dsimp only;have bh:¬(((n+1:Nat):Int) - 1<(n:Int)):=ϟ;have aq:((n+1:Nat):Int) - 1=(n:Int):=ϟ;rw[aq];clear aq bh;go_wp2
   go_ret2
   refine⟨⟨(o1,o2,o3),es,l,f,rfl,?_,?_⟩,a6⟩
   ·rw[<-bc];exact av.o
   ·rw[au.o];have:=X.o;rw[take_of_length_le (by rw[ai.o];exact Nat.le_refl _)]at this;exact this
def Hu(b:Buf)(k:Nat):Nat:=b.mem.length+((b.runs.take k).flatten).length
def Hd(b:Buf)(k:Nat):Bool:=(b.runs.take k).any λr=>decide (r.length=0)
theorem X5(b:Buf):Hu b 0=b.mem.length:=by simp[Hu]
theorem X6(h:k<b.runs.length):Hu b (k+1)=Hu b k+(b.runs.getD k ϰ).length:=by
 unfold Hu;rw[Eo (d:=ϰ) h,flatten_append,lAp];simp;omega
theorem ZC(b:Buf):Hu b b.runs.length=(Aa b).length:=by
 unfold Hu;rw[take_length,C3,lAp]
theorem Abp(k:Nat):Hu b k<=(Aa b).length:=by
 unfold Hu;rw[C3,lAp];have:b.runs.flatten=(b.runs.take k).flatten++(b.runs.drop k).flatten:=by rw[<-flatten_append,take_append_drop]
 rw[this,lAp];omega
theorem X7(h:k<b.runs.length):Hd b (k+1)=(Hd b k||decide ((b.runs.getD k ϰ).length=0)):=by
 unfold Hd;rw[Eo (d:=ϰ) h,any_append];simp
theorem ZD(h:Hd b k=true):¬okB b:=λok=>by
 unfold Hd at h;obtain⟨r,a,e⟩:=any_eq_true.1 h;have:=ok.full r (mem_of_mem_take a);have c:r.length=0:=by simpa using e
 omega
theorem Abq(h:Hd b b.runs.length=false):∀r∈b.runs,0<r.length:=λr a=>by
 unfold Hd at h;rw[take_length]at h;have:=any_eq_false.1 h r a;simp at this;rcases Nat.eq_zero_or_pos r.length with e|e
 ·exact absurd (length_eq_zero_iff.1 e) this
 ·exact e
theorem Us(h:A8 b.lim 1 64=false):3=Dy b:=by unfold Dy;rw[if_pos h]
theorem ZE(h:A8 b.lim 1 64=true)(a:(Aa b).length>4096\/(b.mem.length:Int)>b.lim):2=Dy b:=by
 have c:countB b=false:=by
  unfold countB;rcases a with a|a
  ·rw[decide_eq_false (by omega:¬(Aa b).length<=4096),Bool.and_false]
  ·rw[decide_eq_false (by omega:¬(b.mem.length:Int)<=b.lim),Bool.false_and]
 unfold Dy;rw[h,c];rfl
theorem ZF(h:A8 b.lim 1 64=true)(c:(Aa b).length<=4096)(d:(b.mem.length:Int)<=b.lim)(i:¬okB b):1=Dy b:=by
 have a:countB b=true:=by
  unfold countB;rw[decide_eq_true c,decide_eq_true d];rfl
 have g:Fo b=false:=by
  cases e:Fo b with
  |false=>rfl
  |true=>exact absurd (Ei (by unfold Dy;rw[h,a,e];rfl)) i
 unfold Dy;rw[h,a,g];rfl
theorem Abr(h1:A8 b.lim 1 64=true)(g:(Aa b).length<=4096)(h:(b.mem.length:Int)<=b.lim)(i:Hd b b.runs.length=false)(m:upB b.mem=true)(n:∀j,j<b.runs.length->upB (b.runs.getD j ϰ)=true)(e:ES (Aa b) l f)(d:f=true/\∀j,j<l.length->Dp (l.getD j ϰ)=true):okB b:=by
 have c:=e.perm d.1;refine PU ((Bh _ _ _).1 h1) h g (λy o=>?_) (λp c=>?_) (Abq i) (e.fine.1 d.1)
 ·obtain⟨j,a,rfl⟩:=getElem_of_mem (c.mem_iff.2 o);have:=d.2 j a;rw[getD_at a]at this;exact Lv.1 this
 ·rcases mem_cons.1 c with rfl|c
  ·exact Mh.1 m
  ·obtain⟨j,a,rfl⟩:=getElem_of_mem c;have:=n j a;rw[getD_at a]at this;exact Mh.1 this
theorem ZG(ok:okB b)(h:l∈partsB b)(k:upB l=false):False:=by
 rw[Mh.2 (ok.rises h)]at k;cases k
theorem Abs(ok:okB b)(a:ES (Aa b) l f)(e:j<l.length)(k:Dp (l.getD j ϰ)=false):False:=by
 have c:=a.fine.2 ok.once;have:=ok.entry ((a.perm c).mem_iff.1 (AD (d:=ϰ) e));rw[F0 this]at k;cases k
theorem Af{x y:Int}(h:x=y):Ending.returned (vI x)= .returned (vI y):=by rw[h]
theorem F7(b:Buf)(x:BX)(w:ϛ)(h:bufAt w b x)(hw:∀y∈Aa b,wfE y/\y.key.size<=140737488355328/\y.row.length<=2000000)(hs:(Aa b).length<=4611686018427387904):
 η 42 #[AF b x] w (θ w (vI (Dy b))):=by
 have KE:ϝ (∀a,(Aa b).length<=4096->Ϟ w a->CT 81 #[AF b x] a λr w'=>(∃(hh:Hdr) (u:List EM) (l:List Ent) (f:Bool),r= .returned (.tuple #[hdV hh,.bool f])/\OE w' (a.heap.size+1) (hdV hh) u l/\ES (Aa b) l f)/\Ϟ a w'):=
  λa hl N=>LL b x a (Ag h N) ϟ (λy hy=>(hw y hy).2.2)
 have aj:x.m∈x.m::x.rs:=mem_cons_self ..;have KM:ϝ (∀a,b.mem.length<=4096->Ϟ w a->CT 80 #[hdV x.m.1] a (θ a (.bool (upB b.mem)))):=λa hl N=>by
  have k:=OH x.m.1.1 x.m.1.2.2 x.m.2 b.mem a (BM (h.ems _ aj) N) (h.mem.below N) ϟ;unfold hdV;rw[(h.len _ aj).1,h.mem.1];exact k
 have KR:ϝ (∀i a,i<b.runs.length->(b.runs.getD i ϰ).length<=4096->Ϟ w a->CT 80 #[hdV (x.rs.getD i ϰ).1] a (θ a (.bool (upB (b.runs.getD i ϰ))))):=λi a hi hl N=>by
  have g1:x.rs.getD i ϰ∈x.m::x.rs:=mem_cons_of_mem _ (AD (by rw[h.rlen];exact hi));have e1:=h.runs i hi;have k:=OH (x.rs.getD i ϰ).1.1 (x.rs.getD i ϰ).1.2.2 (x.rs.getD i ϰ).2 (b.runs.getD i ϰ) a (BM (h.ems _ g1) N) (e1.below N) ϟ;unfold hdV;rw[(h.len _ g1).1,e1.1];exact k
 have KF:=hIz (λe y (a:ϛ) (he:ER a e y) (hy:y∈Aa b)=>WE e y a he (hw y hy).1 (hw y hy).2.1);have KW:ϝ (∀a,CT 29 #[vI b.lim,vI 1,vI 64] a λe w'=>e= .returned (.bool (A8 b.lim 1 64))/\w'=a):=λa=>Ar _ _ _ a;obtain⟨R,V⟩:=nM (Dy b);have H3:ϝ (A8 b.lim 1 64=false->3=R):=λh=>by rw[<-V];exact Us h
 have H2:ϝ (A8 b.lim 1 64=true->(Aa b).length>4096\/(b.mem.length:Int)>b.lim->2=R):=λh k=>by rw[<-V];exact ZE h k
 have Q:ϝ (A8 b.lim 1 64=true->(Aa b).length<=4096->(b.mem.length:Int)<=b.lim->¬okB b->1=R):=λh k1 k2 k3=>by rw[<-V];exact ZF h k1 k2 k3
 have H0:ϝ (∀l f,A8 b.lim 1 64=true->(Aa b).length<=4096->(b.mem.length:Int)<=b.lim->Hd b b.runs.length=false->upB b.mem=true->(∀j,j<b.runs.length->upB (b.runs.getD j ϰ)=true)->ES (Aa b) l f->(f=true/\∀j,j<l.length->Dp (l.getD j ϰ)=true)->0=R):=λl f s h2 h3 h4 h5 h6 h7 h8=>by rw[<-V];exact(En (Abr s h2 h3 h4 h5 h6 h7 h8)).symm
 rw[V];have HD:ϝ (F8 w x.ra (x.rs.map (·.1))):=h.hds;have bh:=h.few;have a3:ϝ (∀k,k<b.runs.length->b.runs.getD k ϰ∈partsB b):=λk o=>mem_cons_of_mem _ (AD o);have az:ϝ (∀k,k<b.runs.length->(b.runs.getD k ϰ).length<=(Aa b).length):=λk o=>Qo (mem_cons_of_mem _ (AD o));have a0:ϝ (b.mem.length<=(Aa b).length):=Qo (mem_cons_self ..);have a4:ϝ (Hu b 0=b.mem.length):=X5 b;have a5:ϝ (∀k,k<b.runs.length->Hu b (k+1)=Hu b k+(b.runs.getD k ϰ).length):=λk o=>X6 o;have al:ϝ (∀k,Hu b k<=(Aa b).length):=λk=>Abp k;have a6:ϝ (Hu b b.runs.length=(Aa b).length):=ZC b;have ax:ϝ (∀k,k<b.runs.length->Hd b (k+1)=(Hd b k||decide ((b.runs.getD k ϰ).length=0))):=λk o=>X7 o;have bu:ϝ (∀k,Hd b k=true->¬okB b):=λk o=>ZD o;have a2:ϝ (∀i,i<b.runs.length->(x.rs.getD i ϰ).1.2.1=(b.runs.getD i ϰ).length):=λi hi=>by
  have g1:x.rs.getD i ϰ∈x.m::x.rs:=mem_cons_of_mem _ (AD (by rw[h.rlen];exact hi));rw[(h.len _ g1).1,(h.runs i hi).1]
 have a1:ϝ (x.m.1.2.1=b.mem.length):=by show _=_;rw[(h.len _ aj).1,h.mem.1]
 have ak:=h.rlen;have bp:ϝ (Hd b 0=false):=by show _=_;simp[Hd]
 clear V h hw aj;obtain⟨ra,rc,⟨⟨Y,A,Z⟩,ml⟩,I⟩:=x;obtain⟨D,bj⟩:=nM b.lim;obtain⟨L,bc⟩:∃z:Nat->List Ent,(λk=>b.runs.getD k ϰ)=z:=⟨_,rfl⟩;have bd:∀k,b.runs.getD k ϰ=L k:=λk=>congrFun bc k;obtain⟨n,hn⟩:=nM b.runs.length;obtain⟨T,hT⟩:=nM ((Aa b).length);have bq:ϝ (∀k,k<=(Aa b).length->k<=T):=λk o=>by rw[<-hT];exact o
 have bm:b.mem.length=A:=a1.o.symm;unfold AF hdV at KE⊢;unfold hdV at KM;simp only[bd,hn,bj,hT,bm]at KE KM KR KW H3 H2 Q H0 a3 az a0 a4 a5 al a6 ax a2 hs ak bh⊢;have U:ϝ (I.length=n/\True):=⟨ak,trivial⟩;rw[ak]at KE bh⊢;clear bj bc bd hn bm ak a1;have B:Ϟ w (ξ w (ν D Y A Z ra n rc) 29):=Ϫ;have k0:Δ (ξ w (ν D Y A Z ra n rc) 29) w 0 (vI D):=ϣ;have k1:Δ (ξ w (ν D Y A Z ra n rc) 29) w 1 (vS Y A Z):=ϣ;have k2:Δ (ξ w (ν D Y A Z ra n rc) 29) w 2 (vS ra n rc):=ϣ;have b9:A<=T:=a0.o;obtain⟨BT,bb⟩:=nM (A8 D 1 64);rw[bb]at KW H3 H2 Q H0;clear bb
 cases BT with
 |false=>
  have d:ϝ (3=R):=H3.o rfl;go_enter func42,ntmps42;go_wp2_with (go_at_call 29;refine(KW.o _).mono ?_;rintro e w' ⟨rfl,ar⟩;subst ar);go_ret;exact⟨Af d.o,B⟩
 |true=>
  have G:true=true:=rfl;go_enter func42,ntmps42;go_wp2_with (go_at_call 29;refine(KW.o _).mono ?_;rintro e w' ⟨rfl,ar⟩;subst ar);generalize w.alloc (.cells (ν D Y A Z ra n rc) 29)=W0 at *
  go_loopw [3,4,5] (λsn O t wr=> ∃k:Nat,k<=n/\t=vI k/\sn=vI (Hu b k)/\O= .bool (Hd b k)/\wr=W0) (λ_ _ t _=>n - (intOf t).toNat)
  case atStart=>exact⟨0,Nat.zero_le _,rfl,by rw[a4.o],by rw[bp.o],rfl⟩
  case round=>
   obtain⟨k,o,rfl,rfl,rfl,rfl⟩:=hrel;have lw:w.heap.size<wr.heap.size:=bLt _ _ k0;obtain⟨p,hp⟩:=nM (Hu b k);have HP:ϝ (Hu b k=p):=hp;have ca:p<=T:=by rw[<-hp];exact al.o k
   obtain⟨O,aq⟩:=nM (Hd b k);have HO:ϝ (Hd b k=O):=aq;rw[hp,aq];clear hp aq;by_cases m:k<n
   ·obtain⟨b4,o4,e4,J⟩:=HD.o k (by rw[lMp,U.o.1];exact m);subst e4;have F:=cLz B J;have aa:(I.map (·.1)).getD k (none,0,0)=(I.getD k ϰ).1:=by rw[gDe,getElem?_map,gEe (by rw[U.o.1];exact m),gDe,gEe (by rw[U.o.1];exact m)];rfl
    rw[aa]at F;have ai:=a2.o k m;have af:=a5.o k m;have ac:=ax.o k m;have b6:=al.o (k+1);rw[HP.o]at af;rw[HO.o]at ac;obtain⟨⟨⟨s1,E,s3⟩,sl⟩,H⟩:∃z,I.getD k ϰ=z:=⟨_,rfl⟩;rw[H]at F ai;unfold hdV at F;dsimp only at F ai;rw[<-ai]at af ac;obtain⟨zb,au⟩:=nM (decide (E=0));rw[au]at ac;have cc:((E:Int)==0)=zb:=by rw[<-au];by_cases e:E=0<;>simp[e]
    have a7:ϝ (Hu b (k+1)=p+E):=af;have ay:ϝ (Hd b (k+1)=(O||zb)):=ac;rw[af]at b6;have cb:IntKind.i64.wrap ((p:Int)+(E:Int))=(p:Int)+(E:Int):=by rw[BA];omega
    have i1:(0:Int)<=(k:Int):=ϟ;have i2:(k:Int)<(n:Int):=ϟ;clear H ai aa J af ac au;by_cases b0:(p:Int)+(E:Int)>4096
    ·have d:ϝ (2=R):=H2.o G (.inl ϟ)
     cases O
     all_goals
      go_wp2;go_ret;exact⟨Af d.o,B⟩
    ·have b7:¬4096<(p:Int)+(E:Int):=ϟ
     cases O with
     |false=>
      go_wp2;go_roundw
      case rel=>exact⟨k+1,ϟ,by go_num,by rw[a7.o];go_num,by rw[ay.o];rfl,ϧ⟩
      case measure=>simp[intOf]<;>omega
     |true=>
      go_wp2;go_roundw
      case rel=>exact⟨k+1,ϟ,by go_num,by rw[a7.o];go_num,by rw[ay.o];rfl,ϧ⟩
      case measure=>simp[intOf]<;>omega
   ·have W:n=k:=ϟ;subst W;have b3:p=T:=by rw[<-HP.o];exact a6.o
    subst b3;by_cases b0:(p:Int)>4096
    ·have d:ϝ (2=R):=H2.o G (.inl ϟ);go_wp2;go_ret;exact⟨Af d.o,B⟩
    ·have X:p<=4096:=ϟ;by_cases b2:(A:Int)>D
     ·have d:ϝ (2=R):=H2.o G (.inr b2);go_wp2;go_ret;exact⟨Af d.o,B⟩
     ·have hm:(A:Int)<=D:=ϟ
      cases O with
      |true=>
       have d:ϝ (1=R):=Q.o G X hm (bu.o _ HO.o);go_wp2;go_ret;exact⟨Af d.o,B⟩
      |false=>
       have bv:ϝ (Hd b n=false):=HO.o;have c:=KM.o wr ϟ B;obtain⟨UM,ao⟩:=nM (upB b.mem);have ba:ϝ (upB b.mem=UM):=ao;rw[ao]at c;clear ao
       cases UM with
       |false=>
        have d:ϝ (1=R):=Q.o G X hm (λok=>ZG ok (mem_cons_self ..) ba.o);go_wp2_with (go_at_call 80;refine c.mono ?_;rintro e6 w6 ⟨rfl,q⟩);go_ret;exact⟨Af d.o,bT B q⟩
       |true=>
        go_wp2_with (go_at_call 80;refine c.mono ?_;rintro e6 w2 ⟨rfl,q⟩;have bx:Ϟ w w2:=bT B q;have c0:=cLz q k0;have c1:=cLz q k1;have c2:=cLz q k2;have cf:w.heap.size<w2.heap.size:=bLt _ _ c0)
        go_loopw [6] (λt wr=> ∃k:Nat,k<=n/\t=vI k/\Ϟ w2 wr/\∀j,j<k->upB (L j)=true) (λt _=>n - (intOf t).toNat)
        case atStart=>exact⟨0,Nat.zero_le _,rfl,bR,λj v=>absurd v (Nat.not_lt_zero j)⟩
        case round=>
         obtain⟨k,o,rfl,ae,bn⟩:=hrel;have a9:ϝ (∀j,j<k->upB (L j)=true):=bn;have ab:Ϟ w wr:=bT bx ae;have d0:=cLz ae c0;have d1:=cLz ae c1;have d2:=cLz ae c2;have cd:w.heap.size<wr.heap.size:=bLt _ _ d0;clear bn;by_cases m:k<n
         ·obtain⟨b4,o4,e4,J⟩:=HD.o k (by rw[lMp,U.o.1];exact m);subst e4;have F:=cLz ab J;have aa:(I.map (·.1)).getD k (none,0,0)=(I.getD k ϰ).1:=by rw[gDe,getElem?_map,gEe (by rw[U.o.1];exact m),gDe,gEe (by rw[U.o.1];exact m)];rfl
          rw[aa]at F;have c:ϝ (CT 80 #[hdV (I.getD k ϰ).1] wr (θ wr (.bool (upB (L k))))):=KR.o k wr m (Nat.le_trans (az.o k m) ϟ) ab;obtain⟨UB,an⟩:=nM (upB (L k));have a8:ϝ (upB (L k)=UB):=an;rw[an]at c;obtain⟨⟨⟨s1,E,s3⟩,sl⟩,H⟩:∃z,I.getD k ϰ=z:=⟨_,rfl⟩;rw[H]at F c;unfold hdV at F c;dsimp only at F c;have i1:(0:Int)<=(k:Int):=ϟ;have i2:(k:Int)<(n:Int):=ϟ;clear H an aa J
          cases UB with
          |false=>
           have d:ϝ (1=R):=Q.o G X hm (λok=>ZG ok (a3.o k m) a8.o);go_wp2_with (go_at_call 80;refine c.o.mono ?_;rintro e6 w6 ⟨rfl,q⟩);go_ret;exact⟨Af d.o,bT ab q⟩
          |true=>
           go_wp2_with (go_at_call 80;refine c.o.mono ?_;rintro e6 w6 ⟨rfl,q⟩);go_roundw
           case rel=>exact⟨k+1,ϟ,by go_num,bT ae q,λj v=>by
            rcases Nat.lt_succ_iff_lt_or_eq.1 v with s|s
            ·exact a9.o j s
            ·rw[s];exact a8.o⟩
           case measure=>simp[intOf]<;>omega
         ·have W:k=n:=ϟ;subst W;have bw:ϝ (∀j,j<k->upB (L j)=true):=a9.o;have c:=KE.o wr ϟ ab;go_wp2_with (go_at_call 81;refine c.mono ?_;rintro e6 w3 ⟨⟨⟨q1,q2,q3⟩,u,l,f,rfl,P,ap⟩,be⟩;have bz:Ϟ w w3:=bT ab be;have K:ϝ (ES (Aa b) l f/\u.length=l.length):=⟨ap,P.len⟩;have br:ϝ (ERs w3 u l):=P.ers;(try dsimp only);dsimp only at P;have b5:q2=u.length:=(by obtain⟨ad,cp,e⟩:=P.form;cases e;rfl);subst b5;have bo:ϝ (BG w3 q1 u):=P.at;obtain⟨M,ah⟩:=nM u.length;have ag:ϝ (u.length=M):=ah;rw[ah];have b8:M<=4096:=(by rw[<-ah,P.len];exact Nat.le_trans (bq.o _ ap.len) X);clear P ap be ah)
          go_loopw [8,9] (λfi t wr=> ∃(k:Nat) (g:Bool),k<=M/\t=vI k/\fi= .bool g/\Ϟ w3 wr/\(g=true↔f=true/\∀j,j<k->Dp (l.getD j ϰ)=true)) (λ_ t _=>M - (intOf t).toNat)
          case atStart=>exact⟨0,f,Nat.zero_le _,rfl,rfl,bR,ϡ⟩
          case round=>
           obtain⟨k,g,o,rfl,rfl,C,hg⟩:=hrel;have S:ϝ (g=true↔f=true/\∀j,j<k->Dp (l.getD j ϰ)=true):=hg;have bg:Ϟ w wr:=bT bz C;clear hg;by_cases W:k<M
           ·have bi:k<l.length:=by rw[<-K.o.2,ag.o];exact W
            have i1:(0:Int)<=(k:Int):=ϟ;have i2:(k:Int)<(M:Int):=ϟ
            cases g with
            |false=>
             go_wp2;go_roundw
             case rel=>exact⟨k+1,false,ϟ,by go_num,rfl,C,by
              constructor
              ·intro h;cases h
              ·rintro ⟨s,h2⟩;exact S.o.2 ⟨s,λj v=>h2 j ϟ⟩⟩
             case measure=>simp[intOf]<;>omega
            |true=>
             have aw:ϝ (f=true):=(S.o.1 rfl).1;have bk:l.getD k ϰ∈Aa b:=(K.o.1.perm aw.o).mem_iff.1 (AD bi);obtain⟨b1,o1,ee,x1,x2,x3,J,x5⟩:=bo.o k (by rw[ag.o];exact W);subst ee;have z1:=cLz C x1;have z2:=cLz C x2;have z3:=cLz C x3;have z4:=cLz C J;have z5:=cLz C x5;have c:ϝ (CT 82 #[(u.getD k ϰ).val] wr (θ wr (.bool (Dp (l.getD k ϰ))))):=KF.o _ _ wr ((br.o.2 k bi).below C) bk;obtain⟨FB,am⟩:=nM (Dp (l.getD k ϰ));have av:ϝ (Dp (l.getD k ϰ)=FB):=am;rw[am]at c;obtain⟨⟨fk,ft,fs,⟨f1,f3,f4⟩,fm⟩,H⟩:∃z,u.getD k ϰ=z:=⟨_,rfl⟩;rw[H]at z1 z2 z3 z4 z5 c;unfold EM.val at c;unfold hdV at z4;dsimp only at z1 z2 z3 z4 z5 c;rw[show hdV (f1,f3,f4)=vS f1 f3 f4 from rfl]at c;clear H am x1 x2 x3 J x5 bk;go_wp2_with (go_at_call 82;refine c.o.mono ?_;rintro e6 w6 ⟨rfl,q⟩);have bs:ϝ (FB=true↔f=true/\∀j,j<k+1->Dp (l.getD j ϰ)=true):=by
              constructor
              ·intro h;refine⟨aw.o,λj v=>?_⟩;rcases Nat.lt_succ_iff_lt_or_eq.1 v with s|s
               ·exact(S.o.1 ϧ).2 j s
               ·rw[s,av.o];exact h
              ·rintro ⟨_,h2⟩;rw[<-av.o];exact h2 k ϟ
             go_roundw
             case rel=>exact⟨k+1,FB,ϟ,by go_num,rfl,bT C q,bs.o⟩
             case measure=>simp[intOf]<;>omega
           ·have m:k=M:=ϟ;subst m
            cases g with
            |false=>
             have d:ϝ (1=R):=Q.o G X hm (λok=>by
              have h9:=K.o.1.fine.2 ok.once;have:false=true:=S.o.2 ⟨h9,λj v=>by
               cases e:Dp (l.getD j ϰ)with
               |true=>rfl
               |false=>exact(Abs ok K.o.1 (by rw[<-K.o.2,ag.o];exact v) e).elim⟩
              cases this)
             go_wp2;go_ret;exact⟨Af d.o,bg⟩
            |true=>
             have d:ϝ (0=R):=H0.o l f G X hm bv.o ba.o bw.o K.o.1 ⟨(S.o.1 rfl).1,λj v=>(S.o.1 rfl).2 j (by rw[<-ag.o,K.o.2];exact v)⟩;go_wp2;go_ret;exact⟨Af d.o,bg⟩
end bf
end Go.Proofs.YtdohnkkbkfhphaaGreat
