import Derived.Test.YtdohnkkbkfhphaaGreatPw29
import Derived.Test.YtdohnkkbkfhphaaGreatPw30
set_option linter.all false
set_option maxHeartbeats 4000000
set_option maxRecDepth 100000
open Go.ChangeShapes Go.WideShapes Go.ChangeAt Go.RowKit
namespace Go.Proofs.YtdohnkkbkfhphaaGreat
open Go.Proofs.Tryz
namespace jn
open vl bf
attribute [local go_sem] Oper.semAt_some
def Hi(p:pl.Pln)(s:Jn)(v:Ev):Jn:=if p.kind=3 then(if v.side=1 then s else Av s 1 (Cb ((Cq p s v).map (·.seq)) s.L))else CQ p s v
def metB(p:pl.Pln)(s:Jn)(v:Ev):Bool:=if p.kind=3 then(if v.side=1 then !(Cc p s v).isEmpty else false)else !(partners p s v).isEmpty
def FH(p:pl.Pln)(s:Jn)(v:Ev):List ch.Chg:=if p.kind=3 then(if v.side=1 then Gk p s v else DU p s v)else Ck p s v
theorem Ku(p:pl.Pln)(s:Jn)(v:Ev):CB p s v=(Er p (Hi p s v) v (metB p s v),FH p s v):=by
 unfold CB Hi metB FH;by_cases a:p.kind=3
 ·rw[if_pos a,if_pos a,if_pos a,if_pos a];by_cases b:v.side=1
  ·rw[if_pos b,if_pos b,if_pos b,if_pos b]
  ·rw[if_neg b,if_neg b,if_neg b,if_neg b]
 ·rw[if_neg a,if_neg a,if_neg a,if_neg a]
theorem Yp(b:Nat)(p:pl.Pln)(x:pl.PA)(s:Jn)(y:JX)(v:Ev)(u:Ϝ)(E:Nat)(n w:ϛ)(h:JSt n w b 143 p x s y (vS none 0 0) [])(j:p.kind=3)(r:goodJ p s)(i:comeJ p s v)(t:vl.rowAt n u v.row):
 η 280 #[μ b,Cg p v u E] w λe H=>e= .returned (.bool (metB p s v))/\∃F m c,JSt n H b 143 p x (Hi p s v) F m c/\c.map CO.chg=FH p s v/\BQ 143 w H:=by
 unfold metB Hi FH;rw[if_pos j,if_pos j,if_pos j];by_cases a:v.side=1
 ·rw[if_pos a,if_pos a,if_pos a];have d:=hIz (λ(o:ϛ) (z:Ϟ w o)=>Acg b p x s y v u E n o (h.below z) r i a t);unfold Cg at d⊢;obtain⟨I,f⟩:=nM (pl.Ap p v.side v.row);obtain⟨J,g⟩:=nM (pl.hasB p v.side v.row);obtain⟨K,k⟩:=nM v.row.length;obtain⟨R,G⟩:=nM (!(Cc p s v).isEmpty);obtain⟨L,l⟩:=nM v.time;rw[f,g,k,l]at d⊢;rw[G]at d⊢;rw[a]at d⊢;clear f g k G l h r i t j a;go_enter func280,ntmps280;go_wp2_with (go_at_call 282;refine(d.o _ Ϫ).mono ?_;rintro e M ⟨rfl,m,c,A,C,B⟩);go_ret;exact⟨rfl,y,m,c,A,C,(A7 Ϫ).trans B⟩
 ·rw[if_neg a,if_neg a,if_neg a];have D:v.side=2:=by have:=side_is i.side;omega
  have q:=hIz (λ(o:ϛ) (z:Ϟ w o)=>Abh b p x s y v u E n o (h.below z) r i D t);unfold Cg at q⊢;obtain⟨I,f⟩:=nM (pl.Ap p v.side v.row);obtain⟨J,g⟩:=nM (pl.hasB p v.side v.row);obtain⟨K,k⟩:=nM v.row.length;obtain⟨L,l⟩:=nM v.time;rw[f,g,k,l]at q⊢;rw[D]at q⊢;clear f g k l h r i t j a D;go_enter func280,ntmps280;go_wp2_with (go_at_call 283;refine(q.o _ Ϫ).mono ?_;rintro e M ⟨rfl,F,m,c,A,C,B⟩);go_ret;exact⟨rfl,F,m,c,A,C,(A7 Ϫ).trans B⟩
end jn
namespace jn
open vl bf
variable {p : pl.Pln}
structure KindK(p:pl.Pln)(T kp:TypeId)(ff fm:FuncId):Prop where
 calm:calmC T
 co:T≠92
 cj:T≠31
 cv:T≠43
 cp:T≠25
 go:∀(K:Nat) (w:ϛ),(method 415 kp (.pointer (τ K)) "meetwater/join.goOn").run Tryz.prog w= .ok (255,.pointer (τ K)) w
 fo:∀(K:Nat) (w:ϛ),(method 415 kp (.pointer (τ K)) "meetwater/join.forget").run Tryz.prog w= .ok (ff,.pointer (τ K)) w
 me:∀(K:Nat) (w:ϛ),(method 415 kp (.pointer (τ K)) "meetwater/join.meet").run Tryz.prog w= .ok (fm,.pointer (τ K)) w
 ke:∀(K:Nat) (w:ϛ),(method 415 kp (.pointer (τ K)) "meetwater/join.keep").run Tryz.prog w= .ok (256,.pointer (τ K)) w
 ma:∀(K:Nat) (w:ϛ),(method 415 kp (.pointer (τ K)) "meetwater/join.made").run Tryz.prog w= .ok (257,.pointer (τ K)) w
 ni:∀(K:Nat) (w:ϛ),(nilAhead 415 kp (.pointer (τ K)) "meetwater/join.keep").run Tryz.prog w= .ok (some false) w
 ef:∀args w,(callFunc ff args).run Tryz.prog w= .ok (.enter ff args) w
 em:∀args w,(callFunc fm args).run Tryz.prog w= .ok (.enter fm args) w
 cf:∀(b:Nat) (x:pl.PA) (s:Jn) (y:JX) (t:Value) (L:List CO) (w0 w:ϛ),JSt w0 w b T p x s y t L->pl.wfPlan p->pl.planAt w0 p x->goodJ p s->Calls Tryz.prog ff #[μ b] w λe w'=>e= .returned (.tuple #[])/\∃y',JSt w0 w' b T p x (Bu p s) y' t L/\BQ T w w'
 cm:∀(b:Nat) (x:pl.PA) (s:Jn) (y:JX) (v:Ev) (ra:Ϝ) (rc:Nat) (w0 w:ϛ),JSt w0 w b T p x s y (vS none 0 0) []->goodJ p s->comeJ p s v->vl.rowAt w0 ra v.row->Calls Tryz.prog fm #[μ b,Cg p v ra rc] w λe w'=>e= .returned (.bool (metB p s v))/\∃y' t' L',JSt w0 w' b T p x (Hi p s v) y' t' L'/\L'.map CO.chg=FH p s v/\BQ T w w'
theorem kind_is(h:pl.Al p=0):p.kind=1\/p.kind=2\/p.kind=3:=by
 have:=(pl.Bj h).1.1;omega
theorem kinds(h:pl.Al p=0):∃z A,KindK p (kindT p.kind) (kindP p.kind) z A:=by
 rcases kind_is h with f|f|f
 ·have i:kindT p.kind=139:=by unfold kindT;rw[if_pos f]
  have g:kindP p.kind=137:=by unfold kindP;rw[if_pos f]
  rw[i,g];refine⟨254,258,⟨⟨Ϡ,Ϡ,Ϡ⟩,Ϡ⟩,Ϡ,Ϡ,Ϡ,Ϡ,λK w=>by kernel_rfl,λK w=>by kernel_rfl,λK w=>by kernel_rfl,λK w=>by kernel_rfl,λK w=>by kernel_rfl,λK w=>by kernel_rfl,enters_of func254 Ϣ rfl,enters_of func258 Ϣ rfl,λb x s y t L d w c m k a=>?_,λb x s y v n o d w c a j l=>?_⟩
  ·have e:Bu p s=dropJ p s:=by unfold Bu;rw[if_neg ϟ]
   rw[e];exact Jt b _ p x s y t L d w c ⟨⟨Ϡ,Ϡ,Ϡ⟩,Ϡ⟩ Ϡ m k a
  ·have q:metB p s v= !(partners p s v).isEmpty:=by unfold metB;rw[if_neg ϟ]
   have r:Hi p s v=CQ p s v:=by unfold Hi;rw[if_neg ϟ]
   have u:FH p s v=Ck p s v:=by unfold FH;rw[if_neg ϟ]
   rw[q,r,u];exact Y3 b p x s y v n o d w c f a j l
 ·have i:kindT p.kind=141:=by unfold kindT;rw[if_neg ϟ,if_pos f]
  have g:kindP p.kind=140:=by unfold kindP;rw[if_neg ϟ,if_pos f]
  rw[i,g];refine⟨254,278,⟨⟨Ϡ,Ϡ,Ϡ⟩,Ϡ⟩,Ϡ,Ϡ,Ϡ,Ϡ,λK w=>by kernel_rfl,λK w=>by kernel_rfl,λK w=>by kernel_rfl,λK w=>by kernel_rfl,λK w=>by kernel_rfl,λK w=>by kernel_rfl,enters_of func254 Ϣ rfl,enters_of func278 Ϣ rfl,λb x s y t L d w c m k a=>?_,λb x s y v n o d w c a j l=>?_⟩
  ·have e:Bu p s=dropJ p s:=by unfold Bu;rw[if_neg ϟ]
   rw[e];exact Jt b _ p x s y t L d w c ⟨⟨Ϡ,Ϡ,Ϡ⟩,Ϡ⟩ Ϡ m k a
  ·have q:metB p s v= !(partners p s v).isEmpty:=by unfold metB;rw[if_neg ϟ]
   have r:Hi p s v=CQ p s v:=by unfold Hi;rw[if_neg ϟ]
   have u:FH p s v=Ck p s v:=by unfold FH;rw[if_neg ϟ]
   rw[q,r,u];exact Y4 b p x s y v n o d w c f a j l
 ·have i:kindT p.kind=143:=by unfold kindT;rw[if_neg ϟ,if_neg ϟ]
  have g:kindP p.kind=142:=by unfold kindP;rw[if_neg ϟ,if_neg ϟ]
  rw[i,g];refine⟨279,280,⟨⟨Ϡ,Ϡ,Ϡ⟩,Ϡ⟩,Ϡ,Ϡ,Ϡ,Ϡ,λK w=>by kernel_rfl,λK w=>by kernel_rfl,λK w=>by kernel_rfl,λK w=>by kernel_rfl,λK w=>by kernel_rfl,λK w=>by kernel_rfl,enters_of func279 Ϣ rfl,enters_of func280 Ϣ rfl,λb x s y t L d w c m k a=>?_,λb x s y v n o d w c a j l=>?_⟩
  ·have e:Bu p s=NO (dropJ p s):=by unfold Bu;rw[if_pos f]
   rw[e];exact RD b p x s y t L d w c m k a
  ·exact Yp b p x s y v n o d w c f a j l
end jn
end Go.Proofs.YtdohnkkbkfhphaaGreat
