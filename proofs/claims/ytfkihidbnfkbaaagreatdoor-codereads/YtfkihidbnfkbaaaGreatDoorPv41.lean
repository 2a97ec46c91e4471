import Derived.Test.YtfkihidbnfkbaaaGreatDoorPv40
import Derived.Test.YtfkihidbnfkbaaaGreatDoorPv31
set_option linter.all false
set_option maxHeartbeats 16000000
set_option maxRecDepth 100000
open Inhabited renaming default->ϰ
open List renaming length->ϲ
namespace Go.Proofs.YtfkihidbnfkbaaaGreatDoor
open ChangeShapes WideShapes ChangeAt RowKit List Proofs.Tryz
namespace bf
open vl
attribute [local go_sem] Oper.semAt_some
variable {b : Buf} {j k : Nat} {l : List Ent} {f : Bool}
theorem VJ{w:ϟ}{x:BX}(h:bufAt w b x)(g:k<ϲ (partsB b)):
 ((x.m::x.rs).getD k ϰ).1.2.1=ϲ ((partsB b).getD k ϰ)/\Cn w ((x.m::x.rs).getD k ϰ).1.1 ((x.m::x.rs).getD k ϰ).2/\ERs w ((x.m::x.rs).getD k ϰ).2 ((partsB b).getD k ϰ):=by
 have i:k<ϲ (x.m::x.rs):=by
  have:ϲ (partsB b)=ϲ (x.m::x.rs):=by simp[partsB,h.rlen]
  omega
 have d:(x.m::x.rs).getD k ϰ∈x.m::x.rs:=Bc i;have c:ERs w ((x.m::x.rs).getD k ϰ).2 ((partsB b).getD k ϰ):=by
  cases k with
  |zero=>exact h.mem
  |succ k=>
   have e:k<ϲ b.runs:=by simpa[partsB]using g
   simpa[partsB]using h.runs k e
 exact⟨by rw[(h.len _ d).1,c.1],h.ems _ d,c⟩
def Abr(d:k<ϲ (partsB b))(c:j<ϲ ((partsB b).getD k ϰ)):((partsB b).getD k ϰ).getD j ϰ∈Ab b:=
 Th.2 ⟨_,Bc d,Bc c⟩
theorem MM(b:Buf)(x:BX)(w:ϟ)(h:bufAt w b x)(hs:ϲ (Ab b)<=100000)(bd:∀y∈Ab b,ϲ y.row<=2000000):
 χ 187 #[Bh b x] w λr T=>(∃(m:Hdr) (I:List EM) (l:List Ent) (f:Bool),r= .returned (.tuple #[hdV m,.bool f])/\OE T (w.heap.size+1) (hdV m) I l/\ES (Ab b) l f)/\Ϣ w T:=by
 have HP:ϡ (∀k,k<ϲ (partsB b)->((x.m::x.rs).getD k ϰ).1.2.1=ϲ ((partsB b).getD k ϰ)/\Cn w ((x.m::x.rs).getD k ϰ).1.1 ((x.m::x.rs).getD k ϰ).2/\ERs w ((x.m::x.rs).getD k ϰ).2 ((partsB b).getD k ϰ)):=λk hk=>VJ h hk;have ay:ϡ (∀k j,k<ϲ (partsB b)->j<ϲ ((partsB b).getD k ϰ)->ϲ (((partsB b).getD k ϰ).getD j ϰ).row<=2000000):=λk j hk hj=>bd _ (Abr hk hj);have HD:ϡ (Gj w x.ra (x.rs.map (·.1))):=h.hds;have ba:=h.few;have ak:ϡ (ϲ (partsB b)=ϲ x.rs+1):=by show _=_;simp[partsB,h.rlen]
 have HS:ϡ (ϲ (partsB b).flatten<=100000):=hs;have aw:ϡ (Ab b=(partsB b).flatten):=rfl;clear h hs bd;obtain⟨EB,a6⟩:=nM (Ab b);rw[a6]at aw⊢;obtain⟨c,a7⟩:=nM (partsB b);rw[a7]at HP ay ak HS aw;clear a6 a7;obtain⟨ra,rc,⟨⟨m1,m2,m3⟩,ml⟩,Z⟩:=x;obtain⟨ai,bn,bo⟩:=b;unfold Bh hdV;dsimp only at HP HD ba ak⊢;obtain⟨n,hn⟩:∃n,ϲ Z=n:=⟨_,rfl⟩;have HN:ϡ (ϲ Z=n):=hn;rw[hn]at ak ba;rw[hn];clear hn;have a0:Ϣ w (ϊ w (τ ai m1 m2 m3 ra n rc) 36):=Ϯ;have k0:Δ (ϊ w (τ ai m1 m2 m3 ra n rc) 36) w 0 (vI ai):=ϧ;have k1:Δ (ϊ w (τ ai m1 m2 m3 ra n rc) 36) w 1 (vS m1 m2 m3):=ϧ;have k2:Δ (ϊ w (τ ai m1 m2 m3 ra n rc) 36) w 2 (vS ra n rc):=ϧ;have be:(w.alloc (.cells (τ ai m1 m2 m3 ra n rc) 36)).heap.size=w.heap.size+1:=ϥ;go_enter func187,ntmps187;go_wp2;generalize w.alloc (.cells (τ ai m1 m2 m3 ra n rc) 36)=u at *
 go_loopw [4,5,6,7,8,9] (λo fi ii _ _ _ wr=> ∃(k:Nat) (m:Hdr) (I:List EM) (l:List Ent) (f:Bool),o=hdV m/\fi= .bool f/\ii=vI ((k:Int) - 1)/\k<=n+1/\OE wr u (hdV m) I l/\ES ((c.take k).flatten) l f/\Ϣ u wr) (λ_ _ ii _ _ _ _=>n+1 - (intOf ii+1).toNat)
 case atStart=>exact⟨0,(none,0,0),[],[],true,rfl,rfl,rfl,At _,DJ nR,ES.nil,bR⟩
 case round=>
  obtain⟨k,m,I,l,f,rfl,rfl,rfl,hk,bb,a9,av⟩:=hrel;have ax:ϡ (OE wr u (hdV m) I l):=bb;have aa:ϡ (ES ((c.take k).flatten) l f):=a9;have a8:Ϣ w wr:=a0.trans (av.mono ϣ);obtain⟨c0,c1,c2⟩:=lk3 av k0 k1 k2;have lw:w.heap.size<wr.heap.size:=bLt _ _ c0;clear bb a9;by_cases bi:k<n+1
  ·have H:k<ϲ c:=by rw[ak.o];exact bi
   cases k with
   |zero=>
    obtain⟨K,E⟩:∃z:Nat,ϡ (z=0):=⟨0,rfl⟩;have J:=HP.o 0 (by rw[ak.o];omega);obtain⟨pl,W⟩:=nM (ϲ (c.getD K ϰ));have ab:ϡ (ϲ (c.getD K ϰ)=pl):=W;have a4:pl=m2:=by rw[<-W,E.o,<-J.1];rfl
    have au:ϡ (Cn w m1 ml):=J.2.1;have aj:ϡ (ERs w ml (c.getD K ϰ)):=by rw[E.o];exact J.2.2
    have H:K<ϲ c:=by rw[E.o];exact H
    have aa:ϡ (ES ((c.take K).flatten) l f):=by rw[E.o];exact aa.o
    obtain⟨Y,bc⟩:=nM ml;rw[bc]at au aj;subst a4;have bg:pl<=9223372036854775807:=by
     have C:=Mc (ps:=c) (i:=K) (k:=pl) H;unfold Ig at C;rw[lAp,DA,W]at C;have:=HS.o;omega
    clear J W bc;obtain⟨o1,o2,o3⟩:=m;unfold hdV;dsimp only;go_wp2
    go_loopw [4,5,8,9] (λo fi jj _ wr=> ∃(j:Nat) (m:Hdr) (I:List EM) (l:List Ent) (f:Bool),o=hdV m/\fi= .bool f/\jj=vI j/\j<=pl/\OE wr u (hdV m) I l/\ES (Ig c K j) l f/\Ϣ u wr) (λ_ _ jj _ _=>pl - (intOf jj).toNat)
    case atStart=>exact⟨0,(o1,o2,o3),I,l,f,rfl,rfl,rfl,At _,ax.o,by rw[Rf];exact aa.o,av⟩
    case round=>
     obtain⟨j,ao,B,d,f2,rfl,rfl,rfl,hj,ah,af,O⟩:=hrel;have V:ϡ (OE wr u (hdV ao) B d):=ah;have G:ϡ (ES (Ig c K j) d f2):=af;have am:Ϣ w wr:=a0.trans (O.mono ϣ);obtain⟨e0,e1,e2⟩:=lk3 O k0 k1 k2;have bm:w.heap.size<wr.heap.size:=bLt _ _ e0;have aq:ϲ d<=100000:=B0 af.len (B0 (Mc H) HS.o);obtain⟨C,h2,M⟩:=ao;have a2:h2=ϲ B:=by
      obtain⟨ad,cp,e⟩:=ah.form;unfold hdV at e
      cases e;rfl
     subst a2;unfold hdV at V⊢;dsimp only at V⊢;by_cases ap:j<pl
     ·have ag:j<ϲ (c.getD K ϰ):=by rw[ab.o];exact ap
      obtain⟨b1,o1,ee,z1,z2,z3,z4,z5⟩:=Ch au.o am j (by rw[aj.o.1,ab.o];exact ap);subst ee;have an:=aj.o.2 j ag;have F:ϡ (CT 118 #[vS C (ϲ B) M,(Y.getD j ϰ).val] wr λr T=>(∃(m:Hdr) (az:List EM) (X:List Ent),r= .returned (.tuple #[hdV m,.bool (!hasB d (AJ ((c.getD K ϰ).getD j ϰ)))])/\OE T u (hdV m) az X/\(hasB d (AJ ((c.getD K ϰ).getD j ϰ))=true->X=d)/\(hasB d (AJ ((c.getD K ϰ).getD j ϰ))=false->X.Perm (((c.getD K ϰ).getD j ϰ)::d)/\DV X)/\(∀g,(hdV m).ownBlock=some g->(Value.slice C (ϲ B) M).ownBlock=some g\/wr.heap.size<=g))/\Below u.heap.size wr T/\Left wr T u.heap.size (vS C (ϲ B) M)):=
       Py u.heap.size C M B d (Y.getD j ϰ) ((c.getD K ϰ).getD j ϰ) wr V.o (λw1 a1=>an.below (am.trans (a1.mono ϣ))) G.o.rise aq (ay.o K j H ag)
      have al:ϡ (Ig c K (j+1)=Ig c K j++[(c.getD K ϰ).getD j ϰ]):=Re ag;obtain⟨⟨fk,ft,fs,⟨f1,f3,f4⟩,fm⟩,hz⟩:∃z,Y.getD j ϰ=z:=⟨_,rfl⟩;rw[hz]at z1 z2 z3 z4 z5 F;unfold EM.val at F;unfold hdV at z4;dsimp only at z1 z2 z3 z4 z5 F;rw[show hdV (f1,f3,f4)=vS f1 f3 f4 from rfl]at F;obtain⟨D,ac⟩:=nM (hasB d (AJ ((c.getD K ϰ).getD j ϰ)));have U:ϡ (hasB d (AJ ((c.getD K ϰ).getD j ϰ))=D):=ac;rw[ac]at F;have i1:=nn0 j;have i2:(j:Int)<(pl:Int):=ϣ;have bk:b1<wr.heap.size:=bLt _ _ z1;clear hz ac an ah af aq
      cases f2 with
      |true=>
       go_wp2_with (go_at_call 118;refine F.o.mono ?_;rintro e6 w6 ⟨⟨⟨Q,R,S⟩,L,t,rfl,A,P,N,_⟩,ae,_⟩;unfold hdV at A⊢;dsimp only at A⊢;have v:ϡ (OE w6 u (vS Q R S) L t/\(D=true->t=d)/\(D=false->t.Perm (((c.getD K ϰ).getD j ϰ)::d)/\DV t)):=⟨A,P,N⟩;clear A P N;cases D)
       all_goals
        go_roundw;exact⟨j+1,(Q,R,S),L,t,_,rfl,rfl,by go_num,ϣ,v.o.1,by rw[al.o];first|exact G.o.more U.o (v.o.2.2 rfl).1 (v.o.2.2 rfl).2|(rw[v.o.2.1 rfl];exact G.o.there U.o),O.trans ae⟩;simp[intOf];omega
      |false=>
       go_wp2_with (go_at_call 118;refine F.o.mono ?_;rintro e6 w6 ⟨⟨⟨Q,R,S⟩,L,t,rfl,A,P,N,_⟩,ae,_⟩;unfold hdV at A⊢;dsimp only at A⊢;have v:ϡ (OE w6 u (vS Q R S) L t/\(D=true->t=d)/\(D=false->t.Perm (((c.getD K ϰ).getD j ϰ)::d)/\DV t)):=⟨A,P,N⟩;clear A P N;cases D)
       all_goals
        go_roundw;exact⟨j+1,(Q,R,S),L,t,_,rfl,rfl,by go_num,ϣ,v.o.1,by rw[al.o];first|exact G.o.more U.o (v.o.2.2 rfl).1 (v.o.2.2 rfl).2|(rw[v.o.2.1 rfl];exact G.o.there U.o),O.trans ae⟩;simp[intOf];omega
     ·have a3:j=pl:=ϣ;subst a3;go_wp2;go_roundw
      case rel=>exact⟨K+1,(C,ϲ B,M),B,d,f2,rfl,rfl,(by have hK:=E.o;subst hK;first|rfl|go_num|(congr 1;omega)),by have:=E.o;omega,V.o,by rw[<-MI H,ab.o];exact G.o,O⟩
      case measure=>(have hK:=E.o;subst hK;simp[intOf]<;>omega)
   |succ k=>
    obtain⟨K,E⟩:∃z:Nat,ϡ (z=k+1):=⟨k+1,rfl⟩;obtain⟨b2,o4,e4,x4⟩:=HD.o k (by rw[lMp,HN.o];omega);subst e4;have z0:=cLz a8 x4;have a5:(Z.map (·.1)).getD k (none,0,0)=(Z.getD k ϰ).1:=by rw[gDe,L7,gEe (by rw[HN.o];omega),gDe,gEe (by rw[HN.o];omega)];rfl
    rw[a5]at z0;have J:ϡ ((Z.getD k ϰ).1.2.1=ϲ (c.getD (k+1) ϰ)/\Cn w (Z.getD k ϰ).1.1 (Z.getD k ϰ).2/\ERs w (Z.getD k ϰ).2 (c.getD (k+1) ϰ)):=HP.o (k+1) H;obtain⟨⟨⟨m4,m5,m6⟩,Y⟩,hz⟩:∃z,Z.getD k ϰ=z:=⟨_,rfl⟩;rw[hz]at z0 J;unfold hdV at z0;dsimp only at z0 J;obtain⟨pl,W⟩:=nM (ϲ (c.getD K ϰ));have ab:ϡ (ϲ (c.getD K ϰ)=pl):=W;have a4:pl=m5:=by rw[<-W,E.o,<-J.o.1]
    have au:ϡ (Cn w m4 Y):=J.o.2.1;have aj:ϡ (ERs w Y (c.getD K ϰ)):=by rw[E.o];exact J.o.2.2
    have H:K<ϲ c:=by rw[E.o];exact H
    have aa:ϡ (ES ((c.take K).flatten) l f):=by rw[E.o];exact aa.o
    subst a4;have bg:pl<=9223372036854775807:=by
     have C:=Mc (ps:=c) (i:=K) (k:=pl) H;unfold Ig at C;rw[lAp,DA,W]at C;have:=HS.o;omega
    have ar:((k+1:Nat):Int) - 1=(k:Int):=ϣ;have i3:=nn0 k;have i4:(k:Int)<(n:Int):=ϣ;clear J W hz a5 x4;obtain⟨o1,o2,o3⟩:=m;unfold hdV;dsimp only;rw[ar];clear ar;go_wp2
    go_loopw [4,5,8,9] (λo fi jj _ wr=> ∃(j:Nat) (m:Hdr) (I:List EM) (l:List Ent) (f:Bool),o=hdV m/\fi= .bool f/\jj=vI j/\j<=pl/\OE wr u (hdV m) I l/\ES (Ig c K j) l f/\Ϣ u wr) (λ_ _ jj _ _=>pl - (intOf jj).toNat)
    case atStart=>exact⟨0,(o1,o2,o3),I,l,f,rfl,rfl,rfl,At _,ax.o,by rw[Rf];exact aa.o,av⟩
    case round=>
     obtain⟨j,ao,B,d,f2,rfl,rfl,rfl,hj,ah,af,O⟩:=hrel;have V:ϡ (OE wr u (hdV ao) B d):=ah;have G:ϡ (ES (Ig c K j) d f2):=af;have am:Ϣ w wr:=a0.trans (O.mono ϣ);obtain⟨e0,e1,e2⟩:=lk3 O k0 k1 k2;have bm:w.heap.size<wr.heap.size:=bLt _ _ e0;have aq:ϲ d<=100000:=B0 af.len (B0 (Mc H) HS.o);obtain⟨C,h2,M⟩:=ao;have a2:h2=ϲ B:=by
      obtain⟨ad,cp,e⟩:=ah.form;unfold hdV at e
      cases e;rfl
     subst a2;unfold hdV at V⊢;dsimp only at V⊢;by_cases ap:j<pl
     ·have ag:j<ϲ (c.getD K ϰ):=by rw[ab.o];exact ap
      obtain⟨b1,o1,ee,z1,z2,z3,z4,z5⟩:=Ch au.o am j (by rw[aj.o.1,ab.o];exact ap);subst ee;have an:=aj.o.2 j ag;have F:ϡ (CT 118 #[vS C (ϲ B) M,(Y.getD j ϰ).val] wr λr T=>(∃(m:Hdr) (az:List EM) (X:List Ent),r= .returned (.tuple #[hdV m,.bool (!hasB d (AJ ((c.getD K ϰ).getD j ϰ)))])/\OE T u (hdV m) az X/\(hasB d (AJ ((c.getD K ϰ).getD j ϰ))=true->X=d)/\(hasB d (AJ ((c.getD K ϰ).getD j ϰ))=false->X.Perm (((c.getD K ϰ).getD j ϰ)::d)/\DV X)/\(∀g,(hdV m).ownBlock=some g->(Value.slice C (ϲ B) M).ownBlock=some g\/wr.heap.size<=g))/\Below u.heap.size wr T/\Left wr T u.heap.size (vS C (ϲ B) M)):=
       Py u.heap.size C M B d (Y.getD j ϰ) ((c.getD K ϰ).getD j ϰ) wr V.o (λw1 a1=>an.below (am.trans (a1.mono ϣ))) G.o.rise aq (ay.o K j H ag)
      have al:ϡ (Ig c K (j+1)=Ig c K j++[(c.getD K ϰ).getD j ϰ]):=Re ag;obtain⟨⟨fk,ft,fs,⟨f1,f3,f4⟩,fm⟩,hz⟩:∃z,Y.getD j ϰ=z:=⟨_,rfl⟩;rw[hz]at z1 z2 z3 z4 z5 F;unfold EM.val at F;unfold hdV at z4;dsimp only at z1 z2 z3 z4 z5 F;rw[show hdV (f1,f3,f4)=vS f1 f3 f4 from rfl]at F;obtain⟨D,ac⟩:=nM (hasB d (AJ ((c.getD K ϰ).getD j ϰ)));have U:ϡ (hasB d (AJ ((c.getD K ϰ).getD j ϰ))=D):=ac;rw[ac]at F;have i1:=nn0 j;have i2:(j:Int)<(pl:Int):=ϣ;have bk:b1<wr.heap.size:=bLt _ _ z1;clear hz ac an ah af aq
      cases f2 with
      |true=>
       go_wp2_with (go_at_call 118;refine F.o.mono ?_;rintro e6 w6 ⟨⟨⟨Q,R,S⟩,L,t,rfl,A,P,N,_⟩,ae,_⟩;unfold hdV at A⊢;dsimp only at A⊢;have v:ϡ (OE w6 u (vS Q R S) L t/\(D=true->t=d)/\(D=false->t.Perm (((c.getD K ϰ).getD j ϰ)::d)/\DV t)):=⟨A,P,N⟩;clear A P N;cases D)
       all_goals
        go_roundw;exact⟨j+1,(Q,R,S),L,t,_,rfl,rfl,by go_num,ϣ,v.o.1,by rw[al.o];first|exact G.o.more U.o (v.o.2.2 rfl).1 (v.o.2.2 rfl).2|(rw[v.o.2.1 rfl];exact G.o.there U.o),O.trans ae⟩;simp[intOf];omega
      |false=>
       go_wp2_with (go_at_call 118;refine F.o.mono ?_;rintro e6 w6 ⟨⟨⟨Q,R,S⟩,L,t,rfl,A,P,N,_⟩,ae,_⟩;unfold hdV at A⊢;dsimp only at A⊢;have v:ϡ (OE w6 u (vS Q R S) L t/\(D=true->t=d)/\(D=false->t.Perm (((c.getD K ϰ).getD j ϰ)::d)/\DV t)):=⟨A,P,N⟩;clear A P N;cases D)
       all_goals
        go_roundw;exact⟨j+1,(Q,R,S),L,t,_,rfl,rfl,by go_num,ϣ,v.o.1,by rw[al.o];first|exact G.o.more U.o (v.o.2.2 rfl).1 (v.o.2.2 rfl).2|(rw[v.o.2.1 rfl];exact G.o.there U.o),O.trans ae⟩;simp[intOf];omega
     ·have a3:j=pl:=ϣ;subst a3;go_wp2;go_roundw
      case rel=>exact⟨K+1,(C,ϲ B,M),B,d,f2,rfl,rfl,(by have hK:=E.o;subst hK;first|rfl|go_num|(congr 1;omega)),by have:=E.o;omega,V.o,by rw[<-MI H,ab.o];exact G.o,O⟩
      case measure=>(have hK:=E.o;subst hK;simp[intOf]<;>omega)
  ·have bh:k=n+1:=ϣ;subst bh;obtain⟨o1,o2,o3⟩:=m;unfold hdV;dsimp only;have bj:¬(((n+1:Nat):Int) - 1<(n:Int)):=ϣ;have ar:((n+1:Nat):Int) - 1=(n:Int):=ϣ;rw[ar];clear ar bj;go_wp2
   go_ret2
   refine⟨⟨(o1,o2,o3),I,l,f,rfl,?_,?_⟩,a8⟩
   ·rw[<-be];exact ax.o
   ·rw[aw.o];have:=aa.o;rw[KI (by rw[ak.o];exact HU _)]at this;exact this
def ID(b:Buf)(k:Nat):Nat:=ϲ b.mem+ϲ ((b.runs.take k).flatten)
def Il(b:Buf)(k:Nat):Bool:=(b.runs.take k).any λr=>decide (ϲ r=0)
def YW(b:Buf):ID b 0=ϲ b.mem:=by simp[ID]
def YX(h:k<ϲ b.runs):ID b (k+1)=ID b k+ϲ (b.runs.getD k ϰ):=by
 unfold ID;rw[Dk (d:=ϰ) h,cE,lAp];simp;omega
def Abs(b:Buf):ID b (ϲ b.runs)=ϲ (Ab b):=by
 unfold ID;rw[Ok,E6,lAp]
def AdT(k:Nat):ID b k<=ϲ (Ab b):=by
 unfold ID;rw[E6,lAp];have:b.runs.flatten=(b.runs.take k).flatten++(b.runs.drop k).flatten:=by rw[<-cE,PP]
 rw[this,lAp];omega
def YY(h:k<ϲ b.runs):Il b (k+1)=(Il b k||decide (ϲ (b.runs.getD k ϰ)=0)):=by
 unfold Il;rw[Dk (d:=ϰ) h,any_append];simp
def Abt(h:Il b k=true):¬okB b:=λok=>by
 unfold Il at h;obtain⟨r,c,e⟩:=bP.1 h;have:=ok.full r (cJ c);have d:ϲ r=0:=by simpa using e
 omega
def AdU(h:Il b (ϲ b.runs)=false):∀r∈b.runs,0<ϲ r:=λr c=>by
 unfold Il at h;rw[Ok]at h;have:=cS.1 h r c;simp at this;rcases dP (ϲ r) with e|e
 ·exact absurd (aL.1 e) this
 ·exact e
def VK(h:A8 b.lim 1 64=false):3=D6 b:=by unfold D6;rw[AE h]
def Abu(h:A8 b.lim 1 64=true)(c:ϲ (Ab b)>4096\/(ϲ b.mem:Int)>b.lim):2=D6 b:=by
 have d:countB b=false:=by
  unfold countB;rcases c with c|c
  ·rw[BP (by omega:¬(ϲ (Ab b))<=4096),Bool.and_false]
  ·rw[BP (by omega:¬(ϲ b.mem:Int)<=b.lim),Bool.false_and]
 unfold D6;rw[h,d];rfl
theorem Abv(h:A8 b.lim 1 64=true)(d:ϲ (Ab b)<=4096)(g:(ϲ b.mem:Int)<=b.lim)(m:¬okB b):1=D6 b:=by
 have c:countB b=true:=by
  unfold countB;rw[DB d,DB g];rfl
 have i:FV b=false:=by
  cases e:FV b with
  |false=>rfl
  |true=>exact absurd (ED (by unfold D6;rw[h,c,e];rfl)) m
 unfold D6;rw[h,c,i];rfl
def AdV(h1:A8 b.lim 1 64=true)(h:ϲ (Ab b)<=4096)(i:(ϲ b.mem:Int)<=b.lim)(m:Il b (ϲ b.runs)=false)(n:upB b.mem=true)(o:∀j,j<ϲ b.runs->upB (b.runs.getD j ϰ)=true)(g:ES (Ab b) l f)(e:f=true/\∀j,j<ϲ l->Du (l.getD j ϰ)=true):okB b:=by
 have d:=g.perm e.1;refine RU ((Bg _ _ _).1 h1) i h (λy hy=>?_) (λp d=>?_) (AdU m) (g.fine.1 e.1)
 ·obtain⟨j,c,rfl⟩:=LT (d.mem_iff.2 hy);have:=e.2 j c;rw[getD_at c]at this;exact Me.1 this
 ·rcases E3.1 d with rfl|d
  ·exact Nx.1 n
  ·obtain⟨j,c,rfl⟩:=LT d;have:=o j c;rw[getD_at c]at this;exact Nx.1 this
def Abw(ok:okB b)(h:l∈partsB b)(k:upB l=false):False:=by
 rw[Nx.2 (ok.rises h)]at k;cases k
def AdW(ok:okB b)(c:ES (Ab b) l f)(g:j<ϲ l)(k:Du (l.getD j ϰ)=false):False:=by
 have e:=c.fine.2 ok.once;have:=ok.entry ((c.perm e).mem_iff.1 (Bc (d:=ϰ) g));rw[Ge this]at k;cases k
theorem Fz(b:Buf)(x:BX)(w:ϟ)(h:bufAt w b x)(hw:∀y∈Ab b,wfE y/\y.key.size<=140737488355328/\(ϲ y.row)<=2000000)(hs:ϲ (Ab b)<=4611686018427387904):
 χ 114 #[Bh b x] w (ψ w (vI (D6 b))):=by
 have KE:ϡ (∀c,ϲ (Ab b)<=4096->Ϣ w c->CT 187 #[Bh b x] c λr w'=>(∃(hh:Hdr) (B:List EM) (l:List Ent) (f:Bool),r= .returned (.tuple #[hdV hh,.bool f])/\OE w' (c.heap.size+1) (hdV hh) B l/\ES (Ab b) l f)/\Ϣ c w'):=
  λc hl P=>MM b x c (Ao h P) ϣ (λy hy=>(hw y hy).2.2)
 have aj:x.m∈x.m::x.rs:=E0 ..;have KM:ϡ (∀c,ϲ b.mem<=4096->Ϣ w c->CT 186 #[hdV x.m.1] c (ψ c (.bool (upB b.mem)))):=λc hl P=>by
  have k:=Q1 x.m.1.1 x.m.1.2.2 x.m.2 b.mem c (Ch (h.ems _ aj) P) (h.mem.below P) ϣ;unfold hdV;rw[(h.len _ aj).1,h.mem.1];exact k
 have KR:ϡ (∀i c,i<ϲ b.runs->ϲ (b.runs.getD i ϰ)<=4096->Ϣ w c->CT 186 #[hdV (x.rs.getD i ϰ).1] c (ψ c (.bool (upB (b.runs.getD i ϰ))))):=λi c hi hl P=>by
  have g1:x.rs.getD i ϰ∈x.m::x.rs:=EQ _ (Bc (by rw[h.rlen];exact hi));have e1:=h.runs i hi;have k:=Q1 (x.rs.getD i ϰ).1.1 (x.rs.getD i ϰ).1.2.2 (x.rs.getD i ϰ).2 (b.runs.getD i ϰ) c (Ch (h.ems _ g1) P) (e1.below P) ϣ;unfold hdV;rw[(h.len _ g1).1,e1.1];exact k
 have KF:=hIz (λe y (c:ϟ) (he:ER c e y) (hy:y∈Ab b)=>ZA e y c he (hw y hy).1 (hw y hy).2.1);have KW:ϡ (∀c,CT 83 #[vI b.lim,vI 1,vI 64] c λe w'=>e= .returned (.bool (A8 b.lim 1 64))/\w'=c):=λc=>An _ _ _ c;obtain⟨R,X⟩:=nM (D6 b);have H3:ϡ (A8 b.lim 1 64=false->3=R):=λh=>by rw[<-X];exact VK h
 have H2:ϡ (A8 b.lim 1 64=true->ϲ (Ab b)>4096\/(ϲ b.mem:Int)>b.lim->2=R):=λh k=>by rw[<-X];exact Abu h k
 have U:ϡ (A8 b.lim 1 64=true->ϲ (Ab b)<=4096->(ϲ b.mem:Int)<=b.lim->¬okB b->1=R):=λh k1 k2 k3=>by rw[<-X];exact Abv h k1 k2 k3
 have H0:ϡ (∀l f,A8 b.lim 1 64=true->ϲ (Ab b)<=4096->(ϲ b.mem:Int)<=b.lim->Il b (ϲ b.runs)=false->upB b.mem=true->(∀j,j<ϲ b.runs->upB (b.runs.getD j ϰ)=true)->ES (Ab b) l f->(f=true/\∀j,j<ϲ l->Du (l.getD j ϰ)=true)->0=R):=λl f v h2 h3 h4 h5 h6 h7 h8=>by rw[<-X];exact(Gh (AdV v h2 h3 h4 h5 h6 h7 h8)).symm
 rw[X];have HD:ϡ (Gj w x.ra (x.rs.map (·.1))):=h.hds;have bi:=h.few;have a4:ϡ (∀k,k<ϲ b.runs->b.runs.getD k ϰ∈partsB b):=λk t=>EQ _ (Bc t);have a0:ϡ (∀k,k<ϲ b.runs->ϲ (b.runs.getD k ϰ)<=ϲ (Ab b)):=λk t=>Rx (EQ _ (Bc t));have a1:ϡ (ϲ b.mem<=ϲ (Ab b)):=Rx (E0 ..);have a5:ϡ (ID b 0=ϲ b.mem):=YW b;have a6:ϡ (∀k,k<ϲ b.runs->ID b (k+1)=ID b k+ϲ (b.runs.getD k ϰ)):=λk t=>YX t;have al:ϡ (∀k,ID b k<=ϲ (Ab b)):=λk=>AdT k;have a7:ϡ (ID b (ϲ b.runs)=ϲ (Ab b)):=Abs b;have ay:ϡ (∀k,k<ϲ b.runs->Il b (k+1)=(Il b k||decide (ϲ (b.runs.getD k ϰ)=0))):=λk t=>YY t;have bv:ϡ (∀k,Il b k=true->¬okB b):=λk t=>Abt t;have a3:ϡ (∀i,i<ϲ b.runs->(x.rs.getD i ϰ).1.2.1=ϲ (b.runs.getD i ϰ)):=λi hi=>by
  have g1:x.rs.getD i ϰ∈x.m::x.rs:=EQ _ (Bc (by rw[h.rlen];exact hi));rw[(h.len _ g1).1,(h.runs i hi).1]
 have a2:ϡ (x.m.1.2.1=ϲ b.mem):=by show _=_;rw[(h.len _ aj).1,h.mem.1]
 have ak:=h.rlen;have bq:ϡ (Il b 0=false):=by show _=_;simp[Il]
 clear X h hw aj;obtain⟨ra,rc,⟨⟨m1,D,m3⟩,ml⟩,K⟩:=x;obtain⟨F,bk⟩:=nM b.lim;obtain⟨N,bd⟩:∃z:Nat->List Ent,(λk=>b.runs.getD k ϰ)=z:=⟨_,rfl⟩;have be:∀k,b.runs.getD k ϰ=N k:=λk=>congrFun bd k;obtain⟨n,hn⟩:=nM (ϲ b.runs);obtain⟨T,hT⟩:=nM (ϲ (Ab b));have br:ϡ (∀k,k<=ϲ (Ab b)->k<=T):=λk t=>by rw[<-hT];exact t
 have bn:ϲ b.mem=D:=a2.o.symm;unfold Bh hdV at KE⊢;unfold hdV at KM;simp only[be,hn,bk,hT,bn]at KE KM KR KW H3 H2 U H0 a4 a0 a1 a5 a6 al a7 ay a3 hs ak bi⊢;have W:ϡ (ϲ K=n/\True):=⟨ak,trivial⟩;rw[ak]at KE bi⊢;clear bk bd be hn bn ak a2;have E:Ϣ w (ϊ w (τ F m1 D m3 ra n rc) 36):=Ϯ;have k0:Δ (ϊ w (τ F m1 D m3 ra n rc) 36) w 0 (vI F):=ϧ;have k1:Δ (ϊ w (τ F m1 D m3 ra n rc) 36) w 1 (vS m1 D m3):=ϧ;have k2:Δ (ϊ w (τ F m1 D m3 ra n rc) 36) w 2 (vS ra n rc):=ϧ;have ca:D<=T:=a1.o;obtain⟨BT,bc⟩:=nM (A8 F 1 64);rw[bc]at KW H3 H2 U H0;clear bc
 cases BT with
 |false=>
  have m:ϡ (3=R):=H3.o rfl;go_enter func114,ntmps114;go_wp2_with (go_at_call 83;refine(KW.o _).mono ?_;rintro e w' ⟨rfl,au⟩;subst au);go_ret;exact⟨Ad m.o,E⟩
 |true=>
  have I:true=true:=rfl;go_enter func114,ntmps114;go_wp2_with (go_at_call 83;refine(KW.o _).mono ?_;rintro e w' ⟨rfl,au⟩;subst au);generalize w.alloc (.cells (τ F m1 D m3 ra n rc) 36)=W0 at *
  go_loopw [3,4,5] (λsn Q A wr=> ∃k:Nat,k<=n/\A=vI k/\sn=vI (ID b k)/\Q= .bool (Il b k)/\wr=W0) (λ_ _ A _=>n - (intOf A).toNat)
  case atStart=>exact⟨0,At _,rfl,by rw[a5.o],by rw[bq.o],rfl⟩
  case round=>
   obtain⟨k,t,rfl,rfl,rfl,rfl⟩:=hrel;have lw:w.heap.size<wr.heap.size:=bLt _ _ k0;obtain⟨p,hp⟩:=nM (ID b k);have HP:ϡ (ID b k=p):=hp;have cb:p<=T:=by rw[<-hp];exact al.o k
   obtain⟨Q,aq⟩:=nM (Il b k);have HO:ϡ (Il b k=Q):=aq;rw[hp,aq];clear hp aq;by_cases o:k<n
   ·obtain⟨b4,o4,e4,L⟩:=HD.o k (by rw[lMp,W.o.1];exact o);subst e4;have H:=cLz E L;have aa:(K.map (·.1)).getD k (none,0,0)=(K.getD k ϰ).1:=by rw[gDe,L7,gEe (by rw[W.o.1];exact o),gDe,gEe (by rw[W.o.1];exact o)];rfl
    rw[aa]at H;have ai:=a3.o k o;have af:=a6.o k o;have ac:=ay.o k o;have b7:=al.o (k+1);rw[HP.o]at af;rw[HO.o]at ac;obtain⟨⟨⟨s1,G,s3⟩,sl⟩,J⟩:∃z,K.getD k ϰ=z:=⟨_,rfl⟩;rw[J]at H ai;unfold hdV at H;dsimp only at H ai;rw[<-ai]at af ac;obtain⟨zb,av⟩:=nM (decide (G=0));rw[av]at ac;have cd:((G:Int)==0)=zb:=by rw[<-av];by_cases e:G=0<;>simp[e]
    have a8:ϡ (ID b (k+1)=p+G):=af;have az:ϡ (Il b (k+1)=(Q||zb)):=ac;rw[af]at b7;have cc:IntKind.i64.wrap ((p:Int)+(G:Int))=(p:Int)+(G:Int):=by rw[Cr];omega
    have i1:=nn0 k;have i2:(k:Int)<(n:Int):=ϣ;clear J ai aa L af ac av;by_cases b2:(p:Int)+(G:Int)>4096
    ·have m:ϡ (2=R):=H2.o I (.inl ϣ)
     cases Q
     all_goals
      go_wp2;go_ret;exact⟨Ad m.o,E⟩
    ·have b8:¬4096<(p:Int)+(G:Int):=ϣ
     cases Q with
     |false=>
      go_wp2;go_roundw
      case rel=>exact⟨k+1,ϣ,by go_num,by rw[a8.o];go_num,by rw[az.o];rfl,ϫ⟩
      case measure=>simp[intOf]<;>omega
     |true=>
      go_wp2;go_roundw
      case rel=>exact⟨k+1,ϣ,by go_num,by rw[a8.o];go_num,by rw[az.o];rfl,ϫ⟩
      case measure=>simp[intOf]<;>omega
   ·have Y:n=k:=ϣ;subst Y;have b5:p=T:=by rw[<-HP.o];exact a7.o
    subst b5;by_cases b2:(p:Int)>4096
    ·have m:ϡ (2=R):=H2.o I (.inl ϣ);go_wp2;go_ret;exact⟨Ad m.o,E⟩
    ·have Z:p<=4096:=ϣ;by_cases b3:(D:Int)>F
     ·have m:ϡ (2=R):=H2.o I (.inr b3);go_wp2;go_ret;exact⟨Ad m.o,E⟩
     ·have hm:(D:Int)<=F:=ϣ
      cases Q with
      |true=>
       have m:ϡ (1=R):=U.o I Z hm (bv.o _ HO.o);go_wp2;go_ret;exact⟨Ad m.o,E⟩
      |false=>
       have bw:ϡ (Il b n=false):=HO.o;have d:=KM.o wr ϣ E;obtain⟨UM,ao⟩:=nM (upB b.mem);have bb:ϡ (upB b.mem=UM):=ao;rw[ao]at d;clear ao
       cases UM with
       |false=>
        have m:ϡ (1=R):=U.o I Z hm (λok=>Abw ok (E0 ..) bb.o);go_wp2_with (go_at_call 186;refine d.mono ?_;rintro e6 w6 ⟨rfl,u⟩);go_ret;exact⟨Ad m.o,bT E u⟩
       |true=>
        go_wp2_with (go_at_call 186;refine d.mono ?_;rintro e6 w2 ⟨rfl,u⟩;have bz:Ϣ w w2:=bT E u;have c0:=cLz u k0;have c1:=cLz u k1;have c2:=cLz u k2;have cg:w.heap.size<w2.heap.size:=bLt _ _ c0)
        go_loopw [6] (λA wr=> ∃k:Nat,k<=n/\A=vI k/\Ϣ w2 wr/\∀j,j<k->upB (N j)=true) (λA _=>n - (intOf A).toNat)
        case atStart=>exact⟨0,At _,rfl,bR,λj C=>absurd C (CA j)⟩
        case round=>
         obtain⟨k,t,rfl,ar,bo⟩:=hrel;have ba:ϡ (∀j,j<k->upB (N j)=true):=bo;have ab:Ϣ w wr:=bT bz ar;obtain⟨d0,d1,d2⟩:=lk3 ar c0 c1 c2;have cf:w.heap.size<wr.heap.size:=bLt _ _ d0;clear bo;by_cases o:k<n
         ·obtain⟨b4,o4,e4,L⟩:=HD.o k (by rw[lMp,W.o.1];exact o);subst e4;have H:=cLz ab L;have aa:(K.map (·.1)).getD k (none,0,0)=(K.getD k ϰ).1:=by rw[gDe,L7,gEe (by rw[W.o.1];exact o),gDe,gEe (by rw[W.o.1];exact o)];rfl
          rw[aa]at H;have d:ϡ (CT 186 #[hdV (K.getD k ϰ).1] wr (ψ wr (.bool (upB (N k))))):=KR.o k wr o (B0 (a0.o k o) ϣ) ab;obtain⟨UB,an⟩:=nM (upB (N k));have a9:ϡ (upB (N k)=UB):=an;rw[an]at d;obtain⟨⟨⟨s1,G,s3⟩,sl⟩,J⟩:∃z,K.getD k ϰ=z:=⟨_,rfl⟩;rw[J]at H d;unfold hdV at H d;dsimp only at H d;have i1:=nn0 k;have i2:(k:Int)<(n:Int):=ϣ;clear J an aa L
          cases UB with
          |false=>
           have m:ϡ (1=R):=U.o I Z hm (λok=>Abw ok (a4.o k o) a9.o);go_wp2_with (go_at_call 186;refine d.o.mono ?_;rintro e6 w6 ⟨rfl,u⟩);go_ret;exact⟨Ad m.o,bT ab u⟩
          |true=>
           go_wp2_with (go_at_call 186;refine d.o.mono ?_;rintro e6 w6 ⟨rfl,u⟩);go_roundw
           case rel=>exact⟨k+1,ϣ,by go_num,bT ar u,λj C=>by
            rcases Fm.1 C with v|v
            ·exact ba.o j v
            ·rw[v];exact a9.o⟩
           case measure=>simp[intOf]<;>omega
         ·have Y:k=n:=ϣ;subst Y;have bx:ϡ (∀j,j<k->upB (N j)=true):=ba.o;have d:=KE.o wr ϣ ab;go_wp2_with (go_at_call 187;refine d.mono ?_;rintro e6 w3 ⟨⟨⟨q1,q2,q3⟩,B,l,f,rfl,S,ap⟩,bg⟩;have b0:Ϣ w w3:=bT ab bg;have M:ϡ (ES (Ab b) l f/\(ϲ B)=ϲ l):=⟨ap,S.len⟩;have bs:ϡ (ERs w3 B l):=S.ers;(try dsimp only);dsimp only at S;have b6:q2=ϲ B:=(by obtain⟨ad,cp,e⟩:=S.form;cases e;rfl);subst b6;have bp:ϡ (Cn w3 q1 B):=S.at;obtain⟨O,ah⟩:=nM (ϲ B);have ag:ϡ (ϲ B=O):=ah;rw[ah];have b9:O<=4096:=(by rw[<-ah,S.len];exact B0 (br.o _ ap.len) Z);clear S ap bg ah)
          go_loopw [8,9] (λfi A wr=> ∃(k:Nat) (g:Bool),k<=O/\A=vI k/\fi= .bool g/\Ϣ w3 wr/\(g=true↔f=true/\∀j,j<k->Du (l.getD j ϰ)=true)) (λ_ A _=>O - (intOf A).toNat)
          case atStart=>exact⟨0,f,At _,rfl,rfl,bR,ϥ⟩
          case round=>
           obtain⟨k,g,t,rfl,rfl,ae,hg⟩:=hrel;have V:ϡ (g=true↔f=true/\∀j,j<k->Du (l.getD j ϰ)=true):=hg;have bh:Ϣ w wr:=bT b0 ae;clear hg;by_cases Y:k<O
           ·have bj:k<ϲ l:=by rw[<-M.o.2,ag.o];exact Y
            have i1:=nn0 k;have i2:(k:Int)<(O:Int):=ϣ
            cases g with
            |false=>
             go_wp2;go_roundw
             case rel=>exact⟨k+1,false,ϣ,by go_num,rfl,ae,by
              constructor
              ·intro h;cases h
              ·rintro ⟨v,h2⟩;exact V.o.2 ⟨v,λj C=>h2 j ϣ⟩⟩
             case measure=>simp[intOf]<;>omega
            |true=>
             have ax:ϡ (f=true):=(V.o.1 rfl).1;have bm:l.getD k ϰ∈Ab b:=(M.o.1.perm ax.o).mem_iff.1 (Bc bj);obtain⟨b1,o1,ee,x1,x2,x3,L,x5⟩:=bp.o k (by rw[ag.o];exact Y);subst ee;obtain⟨z1,z2,z3,z4,z5⟩:=lk5 ae x1 x2 x3 L x5;have d:ϡ (CT 188 #[(B.getD k ϰ).val] wr (ψ wr (.bool (Du (l.getD k ϰ))))):=KF.o _ _ wr ((bs.o.2 k bj).below ae) bm;obtain⟨FB,am⟩:=nM (Du (l.getD k ϰ));have aw:ϡ (Du (l.getD k ϰ)=FB):=am;rw[am]at d;obtain⟨⟨fk,ft,fs,⟨f1,f3,f4⟩,fm⟩,J⟩:∃z,B.getD k ϰ=z:=⟨_,rfl⟩;rw[J]at z1 z2 z3 z4 z5 d;unfold EM.val at d;unfold hdV at z4;dsimp only at z1 z2 z3 z4 z5 d;rw[show hdV (f1,f3,f4)=vS f1 f3 f4 from rfl]at d;clear J am x1 x2 x3 L x5 bm;go_wp2_with (go_at_call 188;refine d.o.mono ?_;rintro e6 w6 ⟨rfl,u⟩);have bu:ϡ (FB=true↔f=true/\∀j,j<k+1->Du (l.getD j ϰ)=true):=by
              constructor
              ·intro h;refine⟨ax.o,λj C=>?_⟩;rcases Fm.1 C with v|v
               ·exact(V.o.1 ϫ).2 j v
               ·rw[v,aw.o];exact h
              ·rintro ⟨_,h2⟩;rw[<-aw.o];exact h2 k ϣ
             go_roundw
             case rel=>exact⟨k+1,FB,ϣ,by go_num,rfl,bT ae u,bu.o⟩
             case measure=>simp[intOf]<;>omega
           ·have o:k=O:=ϣ;subst o
            cases g with
            |false=>
             have m:ϡ (1=R):=U.o I Z hm (λok=>by
              have h9:=M.o.1.fine.2 ok.once;have:false=true:=V.o.2 ⟨h9,λj C=>by
               cases e:Du (l.getD j ϰ)with
               |true=>rfl
               |false=>exact(AdW ok M.o.1 (by rw[<-M.o.2,ag.o];exact C) e).elim⟩
              cases this)
             go_wp2;go_ret;exact⟨Ad m.o,bh⟩
            |true=>
             have m:ϡ (0=R):=H0.o l f I Z hm bw.o bb.o bx.o M.o.1 ⟨(V.o.1 rfl).1,λj C=>(V.o.1 rfl).2 j (by rw[<-ag.o,M.o.2];exact C)⟩;go_wp2;go_ret;exact⟨Ad m.o,bh⟩
def okB.ents(ok:okB b)(h:ES (Ab b) l f):f=true/\l.Perm (Ab b)/\DV l:=by
 have c:=h.fine.2 ok.once;exact⟨c,h.perm c,h.rise⟩
def okB.size(ok:okB b):ϲ (Ab b)<=100000/\∀y∈Ab b,ϲ y.row<=2000000:=
 ⟨by have:=ok.all;omega,λy hy=>by have:=ok.small.2.2 y hy;omega⟩
theorem Tk(b:Buf)(x:BX)(w:ϟ)(h:bufAt w b x)(ok:okB b):
 χ 115 #[Bh b x] w λe g=>(∃(d:Hdr) (c:List EM) (l:List Ent),e= .returned (hdV d)/\OE g w (hdV d) c l/\l.Perm (Ab b)/\DV l)/\Ϣ w g:=by
 have o:ϡ (∀m,Ϣ w m->CT 187 #[Bh b x] m λr g=>(∃(d:Hdr) (c:List EM) (l:List Ent) (f:Bool),r= .returned (.tuple #[hdV d,.bool f])/\OE g w (hdV d) c l/\l.Perm (Ab b)/\DV l)/\Ϣ m g):=λm D=>
  (MM b x m (Ao h D) ok.size.1 ok.size.2).mono (λe g ⟨⟨d,c,l,f,I,i,J⟩,H⟩=>⟨⟨d,c,l,f,I,i.mono (by have:=D.size;omega),(ok.ents J).2⟩,H⟩)
 obtain⟨L,C⟩:=nM (Ab b);rw[C]at o⊢;clear h ok C;obtain⟨z,A,⟨⟨u,v,y⟩,O⟩,B⟩:=x;obtain⟨t,N,S⟩:=b;rw[show Bh ⟨t,N,S⟩ ⟨z,A,((u,v,y),O),B⟩= .agg #[vI t,vS u v y,vS z (ϲ B) A]from rfl]at o⊢;obtain⟨n,F⟩:∃n,ϲ B=n:=⟨_,rfl⟩;rw[F]at o⊢;clear F;have E:Ϣ w (ϊ w (τ t u v y z n A) 36):=Ϯ;go_enter func115,ntmps115;go_wp2_with (go_at_call 187;refine(o.o _ E).mono ?_;rintro e T ⟨⟨⟨P,Q,R⟩,c,l,f,rfl,i,K,M⟩,G⟩;unfold hdV at i⊢;dsimp only at i⊢);go_ret;exact⟨⟨(P,Q,R),c,l,rfl,i,K,M⟩,bT E G⟩
end bf
namespace jn
open vl bf
variable {p : pl.Pln} {s : Jn} {a b q : List Ent} {k : Nat}
def sqE(y:Ent):Ent:=⟨⟨#[]⟩,0,y.seq,[],false⟩
structure CJ(p:pl.Pln)(s:Jn)(D:List (Int×Ent))(q:List Ent):Prop where
 below:∀e∈D,e.2.seq<s.seq
 row:∀e∈D,FZ p e.1 e.2=true
 once:(D.map (·.2.seq)).Nodup
 perm:q.Perm (D.map λe=>sqE e.2)
 rise:DV q
def AfX(p:pl.Pln)(s:Jn):CJ p s [] []:=⟨λe c=>absurd c SW,λe c=>absurd c SW,eJ,eR _,eX⟩
def CJ.has{D:List (Int×Ent)}(h:CJ p s D q)(y:Ent):hasB q (AJ (sqE y))=true↔y.seq∈D.map (·.2.seq):=by
 unfold hasB;rw[bP]
 constructor
 ·rintro ⟨z,i,d⟩;obtain⟨e,g,rfl⟩:=DS.1 (h.perm.mem_iff.1 i);have d:=Fd d;have:e.2.seq=y.seq:=Bk (λt=>t.2.2) d;exact DS.2 ⟨e,g,this⟩
 ·intro hy;obtain⟨e,g,c⟩:=DS.1 hy;refine⟨sqE e.2,h.perm.mem_iff.2 (DS.2 ⟨e,g,rfl⟩),DB ?_⟩;show(_,_,_)=(_,_,_);have c:e.2.seq=y.seq:=c;rw[show(sqE e.2).seq=(sqE y).seq from c];rfl
theorem CJ.more{D:List (Int×Ent)}{i:List Ent}{d:Int}{y:Ent}(h:CJ p s D q)(h1:y.seq<s.seq)(m:FZ p d y=true)(n:hasB q (AJ (sqE y))=false)(r:i.Perm (sqE y::q))(t:DV i):CJ p s (D++[(d,y)]) i:=by
 have o:y.seq ∉ D.map (·.2.seq):=λk=>by
  have:=(h.has y).2 k;rw[n]at this
  cases this
 refine⟨λe g=>?_,λe g=>?_,?_,?_,t⟩
 ·rcases Fk.1 g with k|k
  ·exact h.below e k
  ·rw[M2.1 k];exact h1
 ·rcases Fk.1 g with k|k
  ·exact h.row e k
  ·rw[M2.1 k];exact m
 ·rw[DQ];refine aK.2 ⟨h.once,eQ ..,λa ha b c e=>?_⟩;have c:b=y.seq:=M2.1 c;rw[c]at e;exact o (e▸ha)
 ·rw[DQ];exact r.trans ((h.perm.cons _).trans (perm_append_singleton (sqE y) _).symm)
def Co(a b:List Ent):List (Int×Ent):=a.map (λy=>((1:Int),y))++b.map (λy=>((2:Int),y))
def XH(a b:List Ent):(Co a b).map (·.2.seq)=(a++b).map (·.seq):=by
 unfold Co;rw[DQ,DQ,aR,aR];rfl
def Qo(p:pl.Pln)(s:Jn):Bool:=decide (s.L.lim=p.limit)&&decide (s.R.lim=p.limit)
theorem Abx(ha:a.Perm (Ab s.L))(e:b.Perm (Ab s.R))(c:Qo p s=true)(h:CJ p s (Co a b) q):Ct p s=true:=by
 have d:(a++b).Perm (Ab s.L++Ab s.R):=ha.append e;unfold Qo at c;rw[G3]at c;have m:JW s=true:=by
  unfold JW;refine DB ⟨λy hy=>?_,?_⟩
  ·rcases Fk.1 (d.mem_iff.2 hy)with k|k
   ·exact h.below (1,y) (Fk.2 (.inl (DS.2 ⟨y,k,rfl⟩)))
   ·exact h.below (2,y) (Fk.2 (.inr (DS.2 ⟨y,k,rfl⟩)))
  ·have:=h.once;rw[XH]at this;exact((d.map (·.seq)).nodup_iff).1 this
 have g:I9 p 1 s.L=true:=aT.2 λy hy=>h.row (1,y) (Fk.2 (.inl (DS.2 ⟨y,ha.mem_iff.2 hy,rfl⟩)));have i:I9 p 2 s.R=true:=aT.2 λy hy=>h.row (2,y) (Fk.2 (.inr (DS.2 ⟨y,e.mem_iff.2 hy,rfl⟩)));unfold Ct;rw[c.1,c.2,m,g,i];rfl
def Qp(c:Qo p s=false):Ct p s=false:=by
 unfold Qo at c;unfold Ct;rw[c];simp
theorem AdX(ha:a.Perm (Ab s.L))(m:b.Perm (Ab s.R))(h:CJ p s ((Co a b).take k) q)(o:k<ϲ (Co a b))
 (c:s.seq<=((Co a b).getD k (0,ϰ)).2.seq\/FZ p ((Co a b).getD k (0,ϰ)).1 ((Co a b).getD k (0,ϰ)).2=false\/hasB q (AJ (sqE ((Co a b).getD k (0,ϰ)).2))=true):Ct p s=false:=by
 have w:(a++b).Perm (Ab s.L++Ab s.R):=ha.append m;have r:(Co a b).getD k (0,ϰ)∈Co a b:=Bc o;have n:∀e∈Co a b,(e.1=1/\e.2∈Ab s.L)\/(e.1=2/\e.2∈Ab s.R):=λe x=>by
  rcases Fk.1 x with j|j
  ·obtain⟨y,hy,rfl⟩:=DS.1 j;exact .inl ⟨rfl,ha.mem_iff.1 hy⟩
  ·obtain⟨y,hy,rfl⟩:=DS.1 j;exact .inr ⟨rfl,m.mem_iff.1 hy⟩
 have t:∀d:¬F3 s.seq (Ab s.L++Ab s.R),Ct p s=false:=λd=>by
  have e:JW s=false:=BP d;unfold Ct;rw[e];simp
 rcases c with c|c|c
 ·refine t (λd=>?_);have:((Co a b).getD k (0,ϰ)).2∈Ab s.L++Ab s.R:=by
   rcases n _ r with⟨_,j⟩|⟨_,j⟩
   ·exact Fk.2 (.inl j)
   ·exact Fk.2 (.inr j)
  have:=d.1 _ this;omega
 ·rcases n _ r with⟨g,j⟩|⟨g,j⟩
  ·rw[g]at c;have:I9 p 1 s.L=false:=eE.2 ⟨_,j,by rw[c];decide⟩;unfold Ct;rw[this];simp
  ·rw[g]at c;have:I9 p 2 s.R=false:=eE.2 ⟨_,j,by rw[c];decide⟩;unfold Ct;rw[this];simp
 ·refine t (λd=>?_);have u:=(h.has _).1 c;have i:((Co a b).map (·.2.seq)).Nodup:=by
   rw[XH];exact((w.map (·.seq)).nodup_iff).2 d.2
  have e:Co a b=(Co a b).take k++((Co a b).getD k (0,ϰ)::(Co a b).drop (k+1)):=by
   rw[getD_at o,getElem_cons_drop,PP]
  rw[e,DQ,P3]at i;have v:=(aK.1 i).2.2 _ u _ (E0 ..);exact v rfl
def AdY(h:k<ϲ a):(Co a b).getD k (0,ϰ)=(1,a.getD k ϰ)/\(Co a b).take (k+1)=(Co a b).take k++[(1,a.getD k ϰ)]:=by
 have c:k<ϲ (Co a b):=by unfold Co;rw[lAp,lMp];omega
 have e:(Co a b).getD k (0,ϰ)=(1,a.getD k ϰ):=by
  rw[gDe,gDe];unfold Co;rw[aM (by rw[lMp];exact h),L7,gEe h];rfl
 refine⟨e,?_⟩;rw[M1 c,<-getD_at (d:=(0,ϰ)) c,e]
def AdZ(h:k<ϲ b):(Co a b).getD (ϲ a+k) (0,ϰ)=(2,b.getD k ϰ)/\(Co a b).take (ϲ a+(k+1))=(Co a b).take (ϲ a+k)++[(2,b.getD k ϰ)]:=by
 have c:ϲ a+k<ϲ (Co a b):=by unfold Co;rw[lAp,lMp,lMp];omega
 have e:(Co a b).getD (ϲ a+k) (0,ϰ)=(2,b.getD k ϰ):=by
  rw[gDe,gDe];unfold Co;rw[bB (by rw[lMp];omega),lMp,fq,L7,gEe h];rfl
 refine⟨e,?_⟩;rw[<-cU,M1 c,<-getD_at (d:=(0,ϰ)) c,e]
def Qq(m:Int):bf.A8 m (-1099511627777) 1099511627776=Dv m:=by
 unfold bf.A8 Dv tm.Br noMark;rw[PJ];simp only[cX,Sh];omega
end jn
