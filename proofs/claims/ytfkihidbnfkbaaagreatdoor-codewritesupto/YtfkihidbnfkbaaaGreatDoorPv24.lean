import Derived.Test.YtfkihidbnfkbaaaGreatDoorPv23
set_option linter.all false
set_option maxHeartbeats 8000000
set_option maxRecDepth 100000
open Go.ChangeShapes Go.WideShapes Go.ChangeAt Go.RowKit List
open Inhabited renaming default->ϰ
namespace Go.Proofs.YtfkihidbnfkbaaaGreatDoor
namespace bf
open vl
theorem Aes{w:Ϡ}{base:Nat}{e:TypeId}{size n cap g:Nat}{d:List Value}(h:w.ownsRow base e size (vS (ϋ g) n cap) n d)(j:Nat):Ξ w g j:=by
 rcases h.2 with⟨e,_⟩|⟨l,f,i,c,a⟩
 ·cases e
 ·cases c
  simp[World.frozen?,a]
theorem Acg{W:Ϡ}{b o:Nat}{v:Value}(h:Δ W b o v):W.setCell ⟨b,o,none⟩ v=W:=by
 unfold World.cell? at h;unfold World.setCell;dsimp only at h⊢
 cases hb:W.heap[b]? with
 |none=>rw[hb]at h;cases h
 |some x=>
  rw[hb]at h
  cases x with
  |cells c t f=>
   simp only[Option.isSome_none,Bool.false_eq_true,if_false]at h;have l:W.heap.modify b (λx=>match x with
    | .cells c elem frozen=>.cells (if (none:Option Nat).isSome then c else c.setIfInBounds o v) elem frozen
    |o=>o)=W.heap:=by
    refine Array.ext Ϧ (λi q d=>?_);rw[Array.getElem_modify];by_cases e:b=i
    ·subst e;have n:W.heap[b]= .cells c t f:=by
      have:=Array.getElem?_eq_getElem d;rw[hb]at this;injection this with this
      exact this.symm
     rw[if_pos rfl,n];dsimp only;have g:c.setIfInBounds o v=c:=by
      obtain⟨r,m⟩:=Array.getElem?_eq_some_iff.1 h;refine Array.ext Ϧ (λj s p=>?_);rw[Array.getElem_setIfInBounds p];by_cases a:o=j
      ·subst a;simp[m]
      ·simp[a]
     simp[g]
    ·rw[if_neg e]
   exact congrArg (λz:Array Obj=>{W with heap:=z}) l
  |_=>cases h
end bf
namespace bf
open vl
attribute [local go_sem] Oper.semAt_some
variable {b : Buf} {k : Nat}
theorem Wo{w:Ϡ}{x:BX}(h:bufAt w b x)(e:k<(partsB b).length):
 ((x.m::x.rs).getD k ϰ).1.2.1=((partsB b).getD k ϰ).length/\BR w ((x.m::x.rs).getD k ϰ).1.1 ((x.m::x.rs).getD k ϰ).2/\ERs w ((x.m::x.rs).getD k ϰ).2 ((partsB b).getD k ϰ):=by
 have f:k<(x.m::x.rs).length:=by
  have:(partsB b).length=(x.m::x.rs).length:=by simp[partsB,h.rlen]
  omega
 have c:(x.m::x.rs).getD k ϰ∈x.m::x.rs:=AN f;have a:ERs w ((x.m::x.rs).getD k ϰ).2 ((partsB b).getD k ϰ):=by
  cases k with
  |zero=>exact h.mem
  |succ k=>
   have d:k<b.runs.length:=by simpa[partsB]using e
   simpa[partsB]using h.runs k d
 exact⟨by rw[(h.len _ c).1,a.1],h.ems _ c,a⟩
theorem Ach{j:Nat}(c:k<(partsB b).length)(a:j<((partsB b).getD k ϰ).length):((partsB b).getD k ϰ).getD j ϰ∈Ab b:=
 mem_flatten.2 ⟨_,AN c,AN a⟩
theorem M3(b:Buf)(x:BX)(w:Ϡ)(h:bufAt w b x)(hs:(Ab b).length<=100000)(bc:∀y∈Ab b,y.row.length<=2000000):
 χ 187 #[B5 b x] w λr P=>(∃(d:Hdr) (E:List EM) (l:List Ent) (f:Bool),r= .returned (.tuple #[hdV d,.bool f])/\OE P (w.heap.size+1) (hdV d) E l/\ES (Ab b) l f)/\ϣ w P:=by
 have HP:Ϣ (∀k,k<(partsB b).length->((x.m::x.rs).getD k ϰ).1.2.1=((partsB b).getD k ϰ).length/\BR w ((x.m::x.rs).getD k ϰ).1.1 ((x.m::x.rs).getD k ϰ).2/\ERs w ((x.m::x.rs).getD k ϰ).2 ((partsB b).getD k ϰ)):=λk hk=>Wo h hk;have ax:Ϣ (∀k j,k<(partsB b).length->j<((partsB b).getD k ϰ).length->(((partsB b).getD k ϰ).getD j ϰ).row.length<=2000000):=λk j hk hj=>bc _ (Ach hk hj);have HD:Ϣ (FH w x.ra (x.rs.map (·.1))):=h.hds;have a9:=h.few;have aj:Ϣ ((partsB b).length=x.rs.length+1):=by show _=_;simp[partsB,h.rlen]
 have HS:Ϣ ((partsB b).flatten.length<=100000):=hs;have av:Ϣ (Ab b=(partsB b).flatten):=rfl;clear h hs bc;obtain⟨EB,a5⟩:=nM (Ab b);rw[a5]at av⊢;obtain⟨a,a6⟩:=nM (partsB b);rw[a6]at HP ax aj HS av;clear a5 a6;obtain⟨ra,rc,⟨⟨X,Y,m3⟩,ml⟩,V⟩:=x;obtain⟨ah,bm,bn⟩:=b;unfold B5 hdV;dsimp only at HP HD a9 aj⊢;obtain⟨n,hn⟩:∃n,V.length=n:=⟨_,rfl⟩;have HN:Ϣ (V.length=n):=hn;rw[hn]at aj a9;rw[hn];clear hn;have az:ϣ w (ϊ w (τ ah X Y m3 ra n rc) 36):=ϯ;have k0:Δ (ϊ w (τ ah X Y m3 ra n rc) 36) w 0 (vI ah):=Ϩ;have k1:Δ (ϊ w (τ ah X Y m3 ra n rc) 36) w 1 (vS X Y m3):=Ϩ;have k2:Δ (ϊ w (τ ah X Y m3 ra n rc) 36) w 2 (vS ra n rc):=Ϩ;have bd:(w.alloc (.cells (τ ah X Y m3 ra n rc) 36)).heap.size=w.heap.size+1:=Ϧ;go_enter Tryz.func187,Tryz.ntmps187;go_wp2;generalize w.alloc (.cells (τ ah X Y m3 ra n rc) 36)=p at *
 go_loopw [4,5,6,7,8,9] (λo fi ii _ _ _ wr=> ∃(k:Nat) (d:Hdr) (E:List EM) (l:List Ent) (f:Bool),o=hdV d/\fi= .bool f/\ii=vI ((k:Int) - 1)/\k<=n+1/\OE wr p (hdV d) E l/\ES ((a.take k).flatten) l f/\ϣ p wr) (λ_ _ ii _ _ _ _=>n+1 - (intOf ii+1).toNat)
 case atStart=>exact⟨0,(none,0,0),[],[],true,rfl,rfl,rfl,Nat.zero_le _,E9 nR,ES.nil,bR⟩
 case round=>
  obtain⟨k,d,E,l,f,rfl,rfl,rfl,hk,ba,a8,au⟩:=hrel;have aw:Ϣ (OE wr p (hdV d) E l):=ba;have Z:Ϣ (ES ((a.take k).flatten) l f):=a8;have a7:ϣ w wr:=az.trans (au.mono Ϥ);obtain⟨c0,c1,c2⟩:=lk3 au k0 k1 k2;have lw:w.heap.size<wr.heap.size:=bLt _ _ c0;clear ba a8;by_cases bh:k<n+1
  ·have D:k<a.length:=by rw[aj.o];exact bh
   cases k with
   |zero=>
    obtain⟨K,A⟩:∃z:Nat,Ϣ (z=0):=⟨0,rfl⟩;have F:=HP.o 0 (by rw[aj.o];omega);obtain⟨pl,S⟩:=nM ((a.getD K ϰ).length);have aa:Ϣ ((a.getD K ϰ).length=pl):=S;have a3:pl=Y:=by rw[<-S,A.o,<-F.1];rfl
    have ar:Ϣ (BR w X ml):=F.2.1;have ai:Ϣ (ERs w ml (a.getD K ϰ)):=by rw[A.o];exact F.2.2
    have D:K<a.length:=by rw[A.o];exact D
    have Z:Ϣ (ES ((a.take K).flatten) l f):=by rw[A.o];exact Z.o
    obtain⟨U,bb⟩:=nM ml;rw[bb]at ar ai;subst a3;have be:pl<=9223372036854775807:=by
     have u:=Lo (ps:=a) (i:=K) (k:=pl) D;unfold Hi at u;rw[lAp,length_take,S]at u;have:=HS.o;omega
    clear F S bb;obtain⟨o1,o2,o3⟩:=d;unfold hdV;dsimp only;go_wp2
    go_loopw [4,5,8,9] (λo fi jj _ wr=> ∃(j:Nat) (d:Hdr) (E:List EM) (l:List Ent) (f:Bool),o=hdV d/\fi= .bool f/\jj=vI j/\j<=pl/\OE wr p (hdV d) E l/\ES (Hi a K j) l f/\ϣ p wr) (λ_ _ jj _ _=>pl - (intOf jj).toNat)
    case atStart=>exact⟨0,(o1,o2,o3),E,l,f,rfl,rfl,rfl,Nat.zero_le _,aw.o,by rw[Qk];exact Z.o,au⟩
    case round=>
     obtain⟨j,an,t,c,f2,rfl,rfl,rfl,hj,ag,ae,J⟩:=hrel;have R:Ϣ (OE wr p (hdV an) t c):=ag;have C:Ϣ (ES (Hi a K j) c f2):=ae;have al:ϣ w wr:=az.trans (J.mono Ϥ);obtain⟨e0,e1,e2⟩:=lk3 J k0 k1 k2;have bk:w.heap.size<wr.heap.size:=bLt _ _ e0;have ap:c.length<=100000:=Nat.le_trans ae.len (Nat.le_trans (Lo D) HS.o);obtain⟨u,h2,H⟩:=an;have a1:h2=t.length:=by
      obtain⟨ad,cp,e⟩:=ag.form;unfold hdV at e
      cases e;rfl
     subst a1;unfold hdV at R⊢;dsimp only at R⊢;by_cases ao:j<pl
     ·have af:j<(a.getD K ϰ).length:=by rw[aa.o];exact ao
      obtain⟨b1,o1,ee,z1,z2,z3,z4,z5⟩:=Cj ar.o al j (by rw[ai.o.1,aa.o];exact ao);subst ee;have am:=ai.o.2 j af;have B:Ϣ (CT 118 #[vS u t.length H,(U.getD j ϰ).val] wr λr P=>(∃(d:Hdr) (ay:List EM) (T:List Ent),r= .returned (.tuple #[hdV d,.bool (!hasB c (AK ((a.getD K ϰ).getD j ϰ)))])/\OE P p (hdV d) ay T/\(hasB c (AK ((a.getD K ϰ).getD j ϰ))=true->T=c)/\(hasB c (AK ((a.getD K ϰ).getD j ϰ))=false->T.Perm (((a.getD K ϰ).getD j ϰ)::c)/\DW T)/\(∀g,(hdV d).ownBlock=some g->(Value.slice u t.length H).ownBlock=some g\/wr.heap.size<=g))/\Below p.heap.size wr P/\Left wr P p.heap.size (vS u t.length H)):=
       Nw p.heap.size u H t c (U.getD j ϰ) ((a.getD K ϰ).getD j ϰ) wr R.o (λw1 a0=>am.below (al.trans (a0.mono Ϥ))) C.o.rise ap (ax.o K j D af)
      have ak:Ϣ (Hi a K (j+1)=Hi a K j++[(a.getD K ϰ).getD j ϰ]):=Qj af;obtain⟨⟨fk,ft,fs,⟨f1,f3,f4⟩,fm⟩,W⟩:∃z,U.getD j ϰ=z:=⟨_,rfl⟩;rw[W]at z1 z2 z3 z4 z5 B;unfold EM.val at B;unfold hdV at z4;dsimp only at z1 z2 z3 z4 z5 B;rw[show hdV (f1,f3,f4)=vS f1 f3 f4 from rfl]at B;obtain⟨v,ab⟩:=nM (hasB c (AK ((a.getD K ϰ).getD j ϰ)));have Q:Ϣ (hasB c (AK ((a.getD K ϰ).getD j ϰ))=v):=ab;rw[ab]at B;have i1:=nn0 j;have i2:(j:Int)<(pl:Int):=Ϥ;have bj:b1<wr.heap.size:=bLt _ _ z1;clear W ab am ag ae ap
      cases f2 with
      |true=>
       go_wp2_with (go_at_call 118;refine B.o.mono ?_;rintro e6 w6 ⟨⟨⟨M,N,O⟩,G,m,rfl,s,L,I,_⟩,ac,_⟩;unfold hdV at s⊢;dsimp only at s⊢;have q:Ϣ (OE w6 p (vS M N O) G m/\(v=true->m=c)/\(v=false->m.Perm (((a.getD K ϰ).getD j ϰ)::c)/\DW m)):=⟨s,L,I⟩;clear s L I;cases v)
       all_goals
        go_roundw;exact⟨j+1,(M,N,O),G,m,_,rfl,rfl,by go_num,Ϥ,q.o.1,by rw[ak.o];first|exact C.o.more Q.o (q.o.2.2 rfl).1 (q.o.2.2 rfl).2|(rw[q.o.2.1 rfl];exact C.o.there Q.o),J.trans ac⟩;simp[intOf];omega
      |false=>
       go_wp2_with (go_at_call 118;refine B.o.mono ?_;rintro e6 w6 ⟨⟨⟨M,N,O⟩,G,m,rfl,s,L,I,_⟩,ac,_⟩;unfold hdV at s⊢;dsimp only at s⊢;have q:Ϣ (OE w6 p (vS M N O) G m/\(v=true->m=c)/\(v=false->m.Perm (((a.getD K ϰ).getD j ϰ)::c)/\DW m)):=⟨s,L,I⟩;clear s L I;cases v)
       all_goals
        go_roundw;exact⟨j+1,(M,N,O),G,m,_,rfl,rfl,by go_num,Ϥ,q.o.1,by rw[ak.o];first|exact C.o.more Q.o (q.o.2.2 rfl).1 (q.o.2.2 rfl).2|(rw[q.o.2.1 rfl];exact C.o.there Q.o),J.trans ac⟩;simp[intOf];omega
     ·have a2:j=pl:=Ϥ;subst a2;go_wp2;go_roundw
      case rel=>exact⟨K+1,(u,t.length,H),t,c,f2,rfl,rfl,(by have hK:=A.o;subst hK;first|rfl|go_num|(congr 1;omega)),by have:=A.o;omega,R.o,by rw[<-LY D,aa.o];exact C.o,J⟩
      case measure=>(have hK:=A.o;subst hK;simp[intOf]<;>omega)
   |succ k=>
    obtain⟨K,A⟩:∃z:Nat,Ϣ (z=k+1):=⟨k+1,rfl⟩;obtain⟨b2,o4,e4,x4⟩:=HD.o k (by rw[lMp,HN.o];omega);subst e4;have z0:=cLz a7 x4;have a4:(V.map (·.1)).getD k (none,0,0)=(V.getD k ϰ).1:=by rw[gDe,getElem?_map,gEe (by rw[HN.o];omega),gDe,gEe (by rw[HN.o];omega)];rfl
    rw[a4]at z0;have F:Ϣ ((V.getD k ϰ).1.2.1=(a.getD (k+1) ϰ).length/\BR w (V.getD k ϰ).1.1 (V.getD k ϰ).2/\ERs w (V.getD k ϰ).2 (a.getD (k+1) ϰ)):=HP.o (k+1) D;obtain⟨⟨⟨m4,m5,m6⟩,U⟩,W⟩:∃z,V.getD k ϰ=z:=⟨_,rfl⟩;rw[W]at z0 F;unfold hdV at z0;dsimp only at z0 F;obtain⟨pl,S⟩:=nM ((a.getD K ϰ).length);have aa:Ϣ ((a.getD K ϰ).length=pl):=S;have a3:pl=m5:=by rw[<-S,A.o,<-F.o.1]
    have ar:Ϣ (BR w m4 U):=F.o.2.1;have ai:Ϣ (ERs w U (a.getD K ϰ)):=by rw[A.o];exact F.o.2.2
    have D:K<a.length:=by rw[A.o];exact D
    have Z:Ϣ (ES ((a.take K).flatten) l f):=by rw[A.o];exact Z.o
    subst a3;have be:pl<=9223372036854775807:=by
     have u:=Lo (ps:=a) (i:=K) (k:=pl) D;unfold Hi at u;rw[lAp,length_take,S]at u;have:=HS.o;omega
    have aq:((k+1:Nat):Int) - 1=(k:Int):=Ϥ;have i3:=nn0 k;have i4:(k:Int)<(n:Int):=Ϥ;clear F S W a4 x4;obtain⟨o1,o2,o3⟩:=d;unfold hdV;dsimp only;rw[aq];clear aq;go_wp2
    go_loopw [4,5,8,9] (λo fi jj _ wr=> ∃(j:Nat) (d:Hdr) (E:List EM) (l:List Ent) (f:Bool),o=hdV d/\fi= .bool f/\jj=vI j/\j<=pl/\OE wr p (hdV d) E l/\ES (Hi a K j) l f/\ϣ p wr) (λ_ _ jj _ _=>pl - (intOf jj).toNat)
    case atStart=>exact⟨0,(o1,o2,o3),E,l,f,rfl,rfl,rfl,Nat.zero_le _,aw.o,by rw[Qk];exact Z.o,au⟩
    case round=>
     obtain⟨j,an,t,c,f2,rfl,rfl,rfl,hj,ag,ae,J⟩:=hrel;have R:Ϣ (OE wr p (hdV an) t c):=ag;have C:Ϣ (ES (Hi a K j) c f2):=ae;have al:ϣ w wr:=az.trans (J.mono Ϥ);obtain⟨e0,e1,e2⟩:=lk3 J k0 k1 k2;have bk:w.heap.size<wr.heap.size:=bLt _ _ e0;have ap:c.length<=100000:=Nat.le_trans ae.len (Nat.le_trans (Lo D) HS.o);obtain⟨u,h2,H⟩:=an;have a1:h2=t.length:=by
      obtain⟨ad,cp,e⟩:=ag.form;unfold hdV at e
      cases e;rfl
     subst a1;unfold hdV at R⊢;dsimp only at R⊢;by_cases ao:j<pl
     ·have af:j<(a.getD K ϰ).length:=by rw[aa.o];exact ao
      obtain⟨b1,o1,ee,z1,z2,z3,z4,z5⟩:=Cj ar.o al j (by rw[ai.o.1,aa.o];exact ao);subst ee;have am:=ai.o.2 j af;have B:Ϣ (CT 118 #[vS u t.length H,(U.getD j ϰ).val] wr λr P=>(∃(d:Hdr) (ay:List EM) (T:List Ent),r= .returned (.tuple #[hdV d,.bool (!hasB c (AK ((a.getD K ϰ).getD j ϰ)))])/\OE P p (hdV d) ay T/\(hasB c (AK ((a.getD K ϰ).getD j ϰ))=true->T=c)/\(hasB c (AK ((a.getD K ϰ).getD j ϰ))=false->T.Perm (((a.getD K ϰ).getD j ϰ)::c)/\DW T)/\(∀g,(hdV d).ownBlock=some g->(Value.slice u t.length H).ownBlock=some g\/wr.heap.size<=g))/\Below p.heap.size wr P/\Left wr P p.heap.size (vS u t.length H)):=
       Nw p.heap.size u H t c (U.getD j ϰ) ((a.getD K ϰ).getD j ϰ) wr R.o (λw1 a0=>am.below (al.trans (a0.mono Ϥ))) C.o.rise ap (ax.o K j D af)
      have ak:Ϣ (Hi a K (j+1)=Hi a K j++[(a.getD K ϰ).getD j ϰ]):=Qj af;obtain⟨⟨fk,ft,fs,⟨f1,f3,f4⟩,fm⟩,W⟩:∃z,U.getD j ϰ=z:=⟨_,rfl⟩;rw[W]at z1 z2 z3 z4 z5 B;unfold EM.val at B;unfold hdV at z4;dsimp only at z1 z2 z3 z4 z5 B;rw[show hdV (f1,f3,f4)=vS f1 f3 f4 from rfl]at B;obtain⟨v,ab⟩:=nM (hasB c (AK ((a.getD K ϰ).getD j ϰ)));have Q:Ϣ (hasB c (AK ((a.getD K ϰ).getD j ϰ))=v):=ab;rw[ab]at B;have i1:=nn0 j;have i2:(j:Int)<(pl:Int):=Ϥ;have bj:b1<wr.heap.size:=bLt _ _ z1;clear W ab am ag ae ap
      cases f2 with
      |true=>
       go_wp2_with (go_at_call 118;refine B.o.mono ?_;rintro e6 w6 ⟨⟨⟨M,N,O⟩,G,m,rfl,s,L,I,_⟩,ac,_⟩;unfold hdV at s⊢;dsimp only at s⊢;have q:Ϣ (OE w6 p (vS M N O) G m/\(v=true->m=c)/\(v=false->m.Perm (((a.getD K ϰ).getD j ϰ)::c)/\DW m)):=⟨s,L,I⟩;clear s L I;cases v)
       all_goals
        go_roundw;exact⟨j+1,(M,N,O),G,m,_,rfl,rfl,by go_num,Ϥ,q.o.1,by rw[ak.o];first|exact C.o.more Q.o (q.o.2.2 rfl).1 (q.o.2.2 rfl).2|(rw[q.o.2.1 rfl];exact C.o.there Q.o),J.trans ac⟩;simp[intOf];omega
      |false=>
       go_wp2_with (go_at_call 118;refine B.o.mono ?_;rintro e6 w6 ⟨⟨⟨M,N,O⟩,G,m,rfl,s,L,I,_⟩,ac,_⟩;unfold hdV at s⊢;dsimp only at s⊢;have q:Ϣ (OE w6 p (vS M N O) G m/\(v=true->m=c)/\(v=false->m.Perm (((a.getD K ϰ).getD j ϰ)::c)/\DW m)):=⟨s,L,I⟩;clear s L I;cases v)
       all_goals
        go_roundw;exact⟨j+1,(M,N,O),G,m,_,rfl,rfl,by go_num,Ϥ,q.o.1,by rw[ak.o];first|exact C.o.more Q.o (q.o.2.2 rfl).1 (q.o.2.2 rfl).2|(rw[q.o.2.1 rfl];exact C.o.there Q.o),J.trans ac⟩;simp[intOf];omega
     ·have a2:j=pl:=Ϥ;subst a2;go_wp2;go_roundw
      case rel=>exact⟨K+1,(u,t.length,H),t,c,f2,rfl,rfl,(by have hK:=A.o;subst hK;first|rfl|go_num|(congr 1;omega)),by have:=A.o;omega,R.o,by rw[<-LY D,aa.o];exact C.o,J⟩
      case measure=>(have hK:=A.o;subst hK;simp[intOf]<;>omega)
  ·have bg:k=n+1:=Ϥ;subst bg;obtain⟨o1,o2,o3⟩:=d;unfold hdV;dsimp only;have bi:¬(((n+1:Nat):Int) - 1<(n:Int)):=Ϥ;have aq:((n+1:Nat):Int) - 1=(n:Int):=Ϥ;rw[aq];clear aq bi;go_wp2
   go_ret2
   refine⟨⟨(o1,o2,o3),E,l,f,rfl,?_,?_⟩,a7⟩
   ·rw[<-bd];exact aw.o
   ·rw[av.o];have:=Z.o;rw[take_of_length_le (by rw[aj.o];exact Nat.le_refl _)]at this;exact this
end bf
end Go.Proofs.YtfkihidbnfkbaaaGreatDoor
