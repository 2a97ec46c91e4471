import Derived.Test.YtfkihidbnfkbaaaGreatDoorPb31
import Derived.Test.YtfkihidbnfkbaaaGreatDoorPb27
import Derived.Test.YtfkihidbnfkbaaaGreatDoorPb30
set_option linter.all false
set_option maxHeartbeats 4000000
set_option maxRecDepth 100000
open Go.ChangeShapes Go.WideShapes Go.ChangeAt Go.RowKit
namespace Go.Proofs.YtfkihidbnfkbaaaGreatDoor
open Go.Proofs.Tryz
namespace jn
open vl bf
attribute [local go_sem] Oper.semAt_some
def Hn(p:pl.Pln)(s:Jn)(v:Ev):Jn:=if p.kind=3 then(if v.side=1 then s else A7 s 1 (CJ ((Ee p s v).map (·.seq)) s.L))else BW p s v
def KY(p:pl.Pln)(s:Jn)(v:Ev):Bool:=if p.kind=3 then(if v.side=1 then !(Cw p s v).isEmpty else false)else !(partners p s v).isEmpty
def JL(p:pl.Pln)(s:Jn)(v:Ev):List ch.Chg:=if p.kind=3 then(if v.side=1 then I7 p s v else I8 p s v)else Cv p s v
theorem UX(p:pl.Pln)(s:Jn)(v:Ev):Hc p s v=(Ef p (Hn p s v) v (KY p s v),JL p s v):=by
 unfold Hc Hn KY JL;by_cases a:p.kind=3
 ·rw[if_pos a,if_pos a,if_pos a,if_pos a];by_cases b:v.side=1
  ·rw[if_pos b,if_pos b,if_pos b,if_pos b]
  ·rw[if_neg b,if_neg b,if_neg b,if_neg b]
 ·rw[if_neg a,if_neg a,if_neg a,if_neg a]
theorem WI(b:Nat)(p:pl.Pln)(x:pl.PA)(s:Jn)(y:JX)(v:Ev)(u:Ϛ)(E:Nat)(n w:ϙ)(h:JSt n w b 274 p x s y (vS none 0 0) [])(j:p.kind=3)(r:goodJ p s)(i:comeJ p s v)(t:vl.rowAt n u v.row):
 η 385 #[μ b,BE p v u E] w λe H=>e= .returned (.bool (KY p s v))/\∃F m c,JSt n H b 274 p x (Hn p s v) F m c/\c.map CO.chg=JL p s v/\Bz 274 w H:=by
 unfold KY Hn JL;rw[if_pos j,if_pos j,if_pos j];by_cases a:v.side=1
 ·rw[if_pos a,if_pos a,if_pos a];have d:=hIz (λ(o:ϙ) (z:Ϝ w o)=>Ab7 b p x s y v u E n o (h.below z) r i a t);unfold BE at d⊢;obtain⟨I,f⟩:=nM (pl.As p v.side v.row);obtain⟨J,g⟩:=nM (pl.hasB p v.side v.row);obtain⟨K,k⟩:=nM v.row.length;obtain⟨R,G⟩:=nM (!(Cw p s v).isEmpty);obtain⟨L,l⟩:=nM v.time;rw[f,g,k,l]at d⊢;rw[G]at d⊢;rw[a]at d⊢;clear f g k G l h r i t j a;go_enter func385,ntmps385;go_wp2_with (go_at_call 388;refine(d.o _ Ϩ).mono ?_;rintro e M ⟨rfl,m,c,A,C,B⟩);go_ret;exact⟨rfl,y,m,c,A,C,(Aw Ϩ).trans B⟩
 ·rw[if_neg a,if_neg a,if_neg a];have D:v.side=2:=by have:=side_is i.side;omega
  have q:=hIz (λ(o:ϙ) (z:Ϝ w o)=>AcF b p x s y v u E n o (h.below z) r i D t);unfold BE at q⊢;obtain⟨I,f⟩:=nM (pl.As p v.side v.row);obtain⟨J,g⟩:=nM (pl.hasB p v.side v.row);obtain⟨K,k⟩:=nM v.row.length;obtain⟨L,l⟩:=nM v.time;rw[f,g,k,l]at q⊢;rw[D]at q⊢;clear f g k l h r i t j a D;go_enter func385,ntmps385;go_wp2_with (go_at_call 389;refine(q.o _ Ϩ).mono ?_;rintro e M ⟨rfl,F,m,c,A,C,B⟩);go_ret;exact⟨rfl,F,m,c,A,C,(Aw Ϩ).trans B⟩
end jn
namespace jn
open vl bf
variable {p : pl.Pln}
structure KindK(p:pl.Pln)(T kp:TypeId)(ff fm:FuncId):Prop where
 calm:calmC T
 co:T≠208
 cj:T≠38
 cv:T≠90
 cp:T≠32
 go:∀(K:Nat) (w:ϙ),(method 533 kp (.pointer (τ K)) "meetwater/join.goOn").run Tryz.prog w= .ok (339,.pointer (τ K)) w
 fo:∀(K:Nat) (w:ϙ),(method 533 kp (.pointer (τ K)) "meetwater/join.forget").run Tryz.prog w= .ok (ff,.pointer (τ K)) w
 me:∀(K:Nat) (w:ϙ),(method 533 kp (.pointer (τ K)) "meetwater/join.meet").run Tryz.prog w= .ok (fm,.pointer (τ K)) w
 ke:∀(K:Nat) (w:ϙ),(method 533 kp (.pointer (τ K)) "meetwater/join.keep").run Tryz.prog w= .ok (340,.pointer (τ K)) w
 ma:∀(K:Nat) (w:ϙ),(method 533 kp (.pointer (τ K)) "meetwater/join.made").run Tryz.prog w= .ok (341,.pointer (τ K)) w
 ni:∀(K:Nat) (w:ϙ),(nilAhead 533 kp (.pointer (τ K)) "meetwater/join.keep").run Tryz.prog w= .ok (some false) w
 ef:∀args w,(callFunc ff args).run Tryz.prog w= .ok (.enter ff args) w
 em:∀args w,(callFunc fm args).run Tryz.prog w= .ok (.enter fm args) w
 cf:∀(b:Nat) (x:pl.PA) (s:Jn) (y:JX) (t:Value) (L:List CO) (w0 w:ϙ),JSt w0 w b T p x s y t L->pl.wfPlan p->pl.planAt w0 p x->goodJ p s->Calls Tryz.prog ff #[μ b] w λe w'=>e= .returned (.tuple #[])/\∃y',JSt w0 w' b T p x (CC p s) y' t L/\Bz T w w'
 cm:∀(b:Nat) (x:pl.PA) (s:Jn) (y:JX) (v:Ev) (ra:Ϛ) (rc:Nat) (w0 w:ϙ),JSt w0 w b T p x s y (vS none 0 0) []->goodJ p s->comeJ p s v->vl.rowAt w0 ra v.row->Calls Tryz.prog fm #[μ b,BE p v ra rc] w λe w'=>e= .returned (.bool (KY p s v))/\∃y' t' L',JSt w0 w' b T p x (Hn p s v) y' t' L'/\L'.map CO.chg=JL p s v/\Bz T w w'
theorem kind_is(h:pl.Ag p=0):p.kind=1\/p.kind=2\/p.kind=3:=by
 have:=(pl.Bf h).1.1;omega
theorem kinds(h:pl.Ag p=0):∃z A,KindK p (kindT p.kind) (kindP p.kind) z A:=by
 rcases kind_is h with f|f|f
 ·have i:kindT p.kind=270:=by unfold kindT;rw[if_pos f]
  have g:kindP p.kind=268:=by unfold kindP;rw[if_pos f]
  rw[i,g];refine⟨338,342,⟨⟨Ϟ,Ϟ,Ϟ⟩,Ϟ⟩,Ϟ,Ϟ,Ϟ,Ϟ,λK w=>by kernel_rfl,λK w=>by kernel_rfl,λK w=>by kernel_rfl,λK w=>by kernel_rfl,λK w=>by kernel_rfl,λK w=>by kernel_rfl,enters_of func338 Ϡ rfl,enters_of func342 Ϡ rfl,λb x s y t L d w c m k a=>?_,λb x s y v n o d w c a j l=>?_⟩
  ·have e:CC p s=FL p s:=by unfold CC;rw[if_neg ϝ]
   rw[e];exact Ja b _ p x s y t L d w c ⟨⟨Ϟ,Ϟ,Ϟ⟩,Ϟ⟩ Ϟ m k a
  ·have q:KY p s v= !(partners p s v).isEmpty:=by unfold KY;rw[if_neg ϝ]
   have r:Hn p s v=BW p s v:=by unfold Hn;rw[if_neg ϝ]
   have u:JL p s v=Cv p s v:=by unfold JL;rw[if_neg ϝ]
   rw[q,r,u];exact WK b p x s y v n o d w c f a j l
 ·have i:kindT p.kind=272:=by unfold kindT;rw[if_neg ϝ,if_pos f]
  have g:kindP p.kind=271:=by unfold kindP;rw[if_neg ϝ,if_pos f]
  rw[i,g];refine⟨338,383,⟨⟨Ϟ,Ϟ,Ϟ⟩,Ϟ⟩,Ϟ,Ϟ,Ϟ,Ϟ,λK w=>by kernel_rfl,λK w=>by kernel_rfl,λK w=>by kernel_rfl,λK w=>by kernel_rfl,λK w=>by kernel_rfl,λK w=>by kernel_rfl,enters_of func338 Ϡ rfl,enters_of func383 Ϡ rfl,λb x s y t L d w c m k a=>?_,λb x s y v n o d w c a j l=>?_⟩
  ·have e:CC p s=FL p s:=by unfold CC;rw[if_neg ϝ]
   rw[e];exact Ja b _ p x s y t L d w c ⟨⟨Ϟ,Ϟ,Ϟ⟩,Ϟ⟩ Ϟ m k a
  ·have q:KY p s v= !(partners p s v).isEmpty:=by unfold KY;rw[if_neg ϝ]
   have r:Hn p s v=BW p s v:=by unfold Hn;rw[if_neg ϝ]
   have u:JL p s v=Cv p s v:=by unfold JL;rw[if_neg ϝ]
   rw[q,r,u];exact WL b p x s y v n o d w c f a j l
 ·have i:kindT p.kind=274:=by unfold kindT;rw[if_neg ϝ,if_neg ϝ]
  have g:kindP p.kind=273:=by unfold kindP;rw[if_neg ϝ,if_neg ϝ]
  rw[i,g];refine⟨384,385,⟨⟨Ϟ,Ϟ,Ϟ⟩,Ϟ⟩,Ϟ,Ϟ,Ϟ,Ϟ,λK w=>by kernel_rfl,λK w=>by kernel_rfl,λK w=>by kernel_rfl,λK w=>by kernel_rfl,λK w=>by kernel_rfl,λK w=>by kernel_rfl,enters_of func384 Ϡ rfl,enters_of func385 Ϡ rfl,λb x s y t L d w c m k a=>?_,λb x s y v n o d w c a j l=>?_⟩
  ·have e:CC p s=Ym (FL p s):=by unfold CC;rw[if_pos f]
   rw[e];exact R9 b p x s y t L d w c m k a
  ·exact WI b p x s y v n o d w c f a j l
end jn
end Go.Proofs.YtfkihidbnfkbaaaGreatDoor
