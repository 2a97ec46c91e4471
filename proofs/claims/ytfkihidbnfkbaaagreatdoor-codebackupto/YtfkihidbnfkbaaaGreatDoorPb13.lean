import Derived.Test.YtfkihidbnfkbaaaGreatDoorPb8
set_option linter.all false
set_option maxHeartbeats 4000000
open Go.ChangeShapes Go.WideShapes Go.ChangeAt Go.RowKit Go.Maps Go.WideMaps List
open Inhabited renaming default->ϰ
namespace Go.Proofs.YtfkihidbnfkbaaaGreatDoor
open Go.Proofs.Tryz
namespace ch
open vl
variable {r1 r2 : List Cnt} {k : Nat}
instance:DecidableEq Cnt:=λa b=>if h:a.r=b.r/\a.n=b.n then isTrue (by cases a;cases b;simp at h;simp[h])else isFalse (λe=>h (by rw[e];exact⟨rfl,rfl⟩))
theorem Sf(a:k<r1.length)(b:k<r2.length)(h:r1.take k=r2.take k)(c:r1.getD k ϰ=r2.getD k ϰ):r1.take (k+1)=r2.take (k+1):=by
 rw[UC r1 k a,UC r2 k b,h,c]
theorem Ae0(a:r1.getD k ϰ≠r2.getD k ϰ):decide (r1=r2)=false:=decide_eq_false (λe=>a (by rw[e]))
theorem Oe(a1 a2:Ϛ)(c1 c2:Nat)(r1 r2:List Cnt)(w:ϙ)(h1:viewAt w a1 r1)(h2:viewAt w a2 r2)(x1:BJ r1)(x2:BJ r2)(l1:r1.length<=χ)(l2:r2.length<=χ):
 η 44 #[vS a1 r1.length c1,vS a2 r2.length c2] w (θ w (.bool (decide (r1=r2)))):=by
 by_cases hl:r1.length=r2.length
 ·obtain⟨j,u⟩:∃j,r1.length=j:=⟨_,rfl⟩;have R:r2.length=j:=ϝ;rw[u]at l1;have Z:=hqz u;have aa:=hqz R;rw[u,R];clear hl l2 u R;go_enter func44,ntmps44;go_wp2
  go_loopw [5] (λi wr=> ∃k:Nat,k<=j/\i=vI k/\Ϝ w wr/\r1.take k=r2.take k) (λi _=>j - (intOf i).toNat)
  case atStart=>exact⟨0,Nat.zero_le _,rfl,bR,rfl⟩
  case round=>
   obtain⟨k,hk,rfl,b,ab⟩:=hrel;have Y:=hqz ab;clear ab;by_cases ae:k<j
   ·have N:k<r1.length:=by rw[Z.o];exact ae
    have O:k<r2.length:=by rw[aa.o];exact ae
    obtain⟨r,y,m,D,e1,p1,p2,p3⟩:=h1 k N;obtain⟨s,z,n,E,e2,y1,y2,y3⟩:=h2 k O;subst e1 e2;have I:=(Kx x1 k N).2.1;have J:=(Kx x2 k O).2.1;have l:=cLz b p1;have L:ϛ (vl.rowAt wr m (r1.getD k ϰ).r):=Ab p2 b;have A:=cLz b p3;have o:=cLz b y1;have M:ϛ (vl.rowAt wr n (r2.getD k ϰ).r):=Ab y2 b;have F:=cLz b y3;clear p1 p2 p3 y1 y2 y3 h1 h2;have p:ϛ (r1.getD k ϰ≠r2.getD k ϰ->decide (r1=r2)=false):=Ae0;have K:ϛ (r1.getD k ϰ=r2.getD k ϰ->r1.take (k+1)=r2.take (k+1)):=Sf N O Y.o;obtain⟨⟨B,f⟩,ac⟩:∃c,r1.getD k ϰ=c:=⟨_,rfl⟩;obtain⟨⟨C,v⟩,ad⟩:∃c,r2.getD k ϰ=c:=⟨_,rfl⟩;rw[ac]at l A L p K I;rw[ad]at o F M p K J;clear ac ad;dsimp only at l A o F L M I J;obtain⟨V,P⟩:∃x,B.length=x:=⟨_,rfl⟩;obtain⟨W,Q⟩:∃x,C.length=x:=⟨_,rfl⟩;have q:ϛ (∀a,Ϝ wr a->CT 94 #[vS m V D,vS n W E] a (θ a (.bool (decide (B=C))))):=λa hb=>by
     rw[<-P,<-Q];exact Ni m n D E B C a (Ab L.o hb) (Ab M.o hb) I J
    rw[P]at l;rw[Q]at o;clear P Q I J;have i1:(0:Int)<=(k:Int):=ϝ;have i2:(k:Int)<(j:Int):=ϝ;have dr:Ϝ wr wr.drew:=bR.drew;by_cases G:f=v
    ·subst G;by_cases H:B=C
     ·have g:ϛ (r1.take (k+1)=r2.take (k+1)):=K.o (by rw[H]);rw[decide_eq_true H]at q;go_wp2
      go_region_held3 (λa=>Δ a r (y+k * 2) (vS m V D)/\Δ a s (z+k * 2) (vS n W E)/\Δ a r (y+k * 2+1) (vI f)/\Δ a s (z+k * 2+1) (vI f)) (first|go_keep|exact⟨cLz d l,cLz d o,cLz d A,cLz d F⟩)
       (first|(go_at_call 94;refine(q.o wr.drew dr).mono ?_;rintro e X ⟨rfl,d⟩))
      all_goals
       have S:Ϝ w X:=b.drew.trans (d.mono b.size);go_wp2;go_roundw
       case rel=>exact⟨k+1,ϝ,by go_num,S,g.o⟩
       case measure=>simp[intOf];omega
     ·have g:ϛ (decide (r1=r2)=false):=p.o (λe=>H (by cases e;rfl));rw[decide_eq_false H]at q;go_wp2
      go_region_held3 (λa=>Δ a r (y+k * 2) (vS m V D)/\Δ a s (z+k * 2) (vS n W E)/\Δ a r (y+k * 2+1) (vI f)/\Δ a s (z+k * 2+1) (vI f)) (first|go_keep|exact⟨cLz d l,cLz d o,cLz d A,cLz d F⟩)
       (first|(go_at_call 94;refine(q.o wr.drew dr).mono ?_;rintro e X ⟨rfl,d⟩))
      all_goals
       have S:Ϝ w X:=b.drew.trans (d.mono b.size);go_wp2;go_ret;exact⟨Aa g.o.symm,S⟩
    ·have ah:(f==v)=false:=by simpa using G
     have ai:∀t,binOp .neq t (vI f) (vI v)=pure (.bool true):=λt=>by rw[binOp_neq,show(f !=v)=true by simpa using G]
     have g:ϛ (decide (r1=r2)=false):=p.o (λe=>G (by cases e;rfl));go_wp2
     go_quiet (fail)
     have ag:=below_drewN b nq;go_wp2;go_ret;exact⟨Aa g.o.symm,ag⟩
   ·have HT:ϛ (decide (r1=r2)=true):=decide_eq_true (by
     have h:=Y.o;rw[take_of_length_le (by rw[Z.o];omega),take_of_length_le (by rw[aa.o];omega)]at h;exact h)
    go_wp2;go_ret;exact⟨Aa HT.o.symm,b⟩
 ·have af:((r1.length:Int)==(r2.length:Int))=false:=by rw[beq_eq_false_iff_ne];omega
  have g:ϛ (decide (r1=r2)=false):=decide_eq_false (λe=>hl (by rw[e]));obtain⟨n1,T⟩:∃x,r1.length=x:=⟨_,rfl⟩;obtain⟨n2,U⟩:∃x,r2.length=x:=⟨_,rfl⟩;rw[T,U]at af;rw[T,U];rw[T]at l1;rw[U]at l2;go_enter func44,ntmps44;go_wp2;go_ret;exact⟨Aa g.o.symm,bR⟩
instance:DecidableEq Chg:=λa b=>if h:a.k=b.k/\a.r=b.r then isTrue (by cases a;cases b;simp at h;simp[h])else isFalse (λe=>h (by rw[e];exact⟨rfl,rfl⟩))
theorem C3(b a j:Nat):(⟨b,a,none⟩:Addr).add j=⟨b,a+j,none⟩:=by unfold Addr.add;split<;>simp_all
theorem FG{w:ϙ}{b d:Nat}{r:List Cel}(h:vl.rowAt w (some ⟨b,d,none⟩) r):∀j u,(celCells r)[j]? =some u->w.cell? ((⟨b,d,none⟩:Addr).add j)=some u:=by
 intro j u a;have g:j<(celCells r).length:=by
  rcases Nat.lt_or_ge j (celCells r).length with h|h
  ·exact h
  ·rw[getElem?_eq_none h]at a;cases a
 rw[DT]at g;have c:j/3<r.length:=ϝ;obtain⟨q,s,e,i,l,m⟩:=h (j/3) c
 cases e
 obtain⟨n,o,p⟩:=Hd r (j/3) c;rw[C3];have f:j=j/3 * 3\/j=j/3 * 3+1\/j=j/3 * 3+1+1:=ϝ;rcases f with e|e|e
 ·rw[e]at a⊢;rw[n]at a;rw[<-a];exact i
 ·rw[e]at a⊢;rw[o]at a;rw[<-a];exact l
 ·rw[e]at a⊢;rw[p]at a;rw[<-a];exact m
theorem EZ(r:List Cel):∀u∈celCells r,u.oneCell'=true:=by
 intro u b;unfold celCells at b;obtain⟨c,_,a⟩:=mem_flatMap.1 b;simp at a;rcases a with rfl|rfl|rfl<;>rfl
theorem AH(a:Ϛ)(cap:Nat)(v:List Cnt)(w:ϙ)(i:viewAt w a v)(j:BJ v)(g:v.length<=χ):
 η 104 #[vS a v.length cap] w (θ w (vI (Ar v))):=by
 have b:=Mq a cap v w i j g;obtain⟨n,d⟩:∃n,v.length=n:=⟨_,rfl⟩;rw[d]at b;rw[d];go_enter func104,ntmps104;go_wp2_with fail;refine b.mono ?_;rintro e l ⟨h,c⟩;rcases h with⟨f,_,B,rfl,_⟩|⟨_,rfl⟩
 ·go_wp2;go_ret;exact⟨by rw[f];rfl,c⟩
 ·go_wp2;go_ret;exact⟨rfl,c⟩
end ch
end Go.Proofs.YtfkihidbnfkbaaaGreatDoor
